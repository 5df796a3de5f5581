/-
  SameMap in the model.
-/
import Derived.Test.YtigaoimnhebegaaSmI
namespace Go.Proofs.Ytigaoimnhebegaa.Rd
open Go.RowKit Go.ChangeShapes Go.WideShapes Go.Proofs.Ytigaoimnhebegaa.GfI Go.Proofs.Ytigaoimnhebegaa.GfS
open Go.Proofs.Ytigaoimnhebegaa.Sg (BxN)
open Go.Proofs.Ytigaoimnhebegaa.Tm (TD TA TIn IffB)
open Go.Proofs.Ytigaoimnhebegaa.MixC (Words)
set_option linter.unusedVariables false
set_option linter.unusedSimpArgs false

set_option maxRecDepth 100000 in
set_option maxHeartbeats 4000000 in
theorem l11Same (d e : DMap) {cs ds : List Value} {fr fr2 : Bool} {lo lo2 : Nat} (w : World) (hd : Rdb.sz d ≤ 2097152) (he : Rdb.sz e ≤ 2097152) (h : Rdb.rd fr lo w cs d) (k : Rdb.rd fr2 lo2 w ds e) :
    Calls Try.prog 74 #[.agg cs.toArray, .agg ds.toArray] w (IffB (MEq d e) w) := by
  have qd : Rdb.sz d = Rdb.sz d.tree + Rdb.sz d.rules + Rdb.sz d.pools + Rdb.sz d.up + Rdb.sz d.out := rfl
  have td : Rdb.sz d.tree ≤ 2097152 := by omega
  have rd : d.rules.length ≤ 2097152 := by have := sz_len d.rules; omega
  have pd : d.pools.length ≤ 2097152 := by have := sz_len d.pools; omega
  have ud : d.up.length ≤ 2097152 := by have := sz_len d.up; omega
  have od : d.out.length ≤ 2097152 := by have := sz_len d.out; omega
  clear qd hd
  have qe : Rdb.sz e = Rdb.sz e.tree + Rdb.sz e.rules + Rdb.sz e.pools + Rdb.sz e.up + Rdb.sz e.out := rfl
  have te : Rdb.sz e.tree ≤ 2097152 := by omega
  have re : e.rules.length ≤ 2097152 := by have := sz_len e.rules; omega
  have pe : e.pools.length ≤ 2097152 := by have := sz_len e.pools; omega
  have ue : e.up.length ≤ 2097152 := by have := sz_len e.up; omega
  have oe : e.out.length ≤ 2097152 := by have := sz_len e.out; omega
  clear qe he
  obtain ⟨a0_2, c0_2, a0_3, c0_3, a0_4, c0_4, a0_5, c0_5, a0_6, c0_6, a0_7, c0_7, rfl, f0_0, f0_1, f0_2, g0_2, f0_3, g0_3, f0_4, g0_4, f0_5, g0_5, f0_6, g0_6, f0_7, g0_7⟩ := shape_Map h
  obtain ⟨a1_2, c1_2, a1_3, c1_3, a1_4, c1_4, a1_5, c1_5, a1_6, c1_6, a1_7, c1_7, rfl, f1_0, f1_1, f1_2, g1_2, f1_3, g1_3, f1_4, g1_4, f1_5, g1_5, f1_6, g1_6, f1_7, g1_7⟩ := shape_Map k
  have L := Lib.hid (chainX w (lay w (.cells #[.int .i64 d.epoch, .int .i64 d.term, .slice a0_2 d.tree.devices.length c0_2, .slice a0_3 d.tree.buckets.length c0_3, .slice a0_4 d.rules.length c0_4, .slice a0_5 d.pools.length c0_5, .slice a0_6 d.up.length c0_6, .slice a0_7 d.out.length c0_7] 55)) (lay _ (.cells #[.int .i64 e.epoch, .int .i64 e.term, .slice a1_2 e.tree.devices.length c1_2, .slice a1_3 e.tree.buckets.length c1_3, .slice a1_4 e.rules.length c1_4, .slice a1_5 e.pools.length c1_5, .slice a1_6 e.up.length c1_6, .slice a1_7 e.out.length c1_7] 55)))
  have XA := (BxN.new w #[.int .i64 d.epoch, .int .i64 d.term, .slice a0_2 d.tree.devices.length c0_2, .slice a0_3 d.tree.buckets.length c0_3, .slice a0_4 d.rules.length c0_4, .slice a0_5 d.pools.length c0_5, .slice a0_6 d.up.length c0_6, .slice a0_7 d.out.length c0_7] 55).later (lay _ (.cells #[.int .i64 e.epoch, .int .i64 e.term, .slice a1_2 e.tree.devices.length c1_2, .slice a1_3 e.tree.buckets.length c1_3, .slice a1_4 e.rules.length c1_4, .slice a1_5 e.pools.length c1_5, .slice a1_6 e.up.length c1_6, .slice a1_7 e.out.length c1_7] 55))
  have XB := BxN.new (w.alloc (.cells #[.int .i64 d.epoch, .int .i64 d.term, .slice a0_2 d.tree.devices.length c0_2, .slice a0_3 d.tree.buckets.length c0_3, .slice a0_4 d.rules.length c0_4, .slice a0_5 d.pools.length c0_5, .slice a0_6 d.up.length c0_6, .slice a0_7 d.out.length c0_7] 55)) #[.int .i64 e.epoch, .int .i64 e.term, .slice a1_2 e.tree.devices.length c1_2, .slice a1_3 e.tree.buckets.length c1_3, .slice a1_4 e.rules.length c1_4, .slice a1_5 e.pools.length c1_5, .slice a1_6 e.up.length c1_6, .slice a1_7 e.out.length c1_7] 55
  rw [World.size_alloc] at XB
  have TT := Lib.hid (fun w' (b : Below w.heap.size w w') => sameTreeS d.tree e.tree c0_2 c0_3 c1_2 c1_3 w' td te (f0_2.below b) (f0_3.below b) (f1_2.below b) (f1_3.below b))
  have UU := Lib.hid (fun w' (b : Below w.heap.size w w') => (Sa.l00Same _ _ c0_6 c1_6 d.up e.up w' ud ue (rows_words (f0_6.below b)) (rows_words (f1_6.below b))).mono fun _ _ q => boolq_iff q)
  have OO := Lib.hid (fun w' (b : Below w.heap.size w w') => (Sa.l00Same _ _ c0_7 c1_7 d.out e.out w' od oe (rows_words (f0_7.below b)) (rows_words (f1_7.below b))).mono fun _ _ q => boolq_iff q)
  have ha4 := Lib.hid f0_4
  have hb4 := Lib.hid f1_4
  have ha5 := Lib.hid f0_5
  have hb5 := Lib.hid f1_5
  have HA4 := Lib.hid (fun k (h : k < d.rules.length) => get_lt h)
  have HB4 := Lib.hid (fun k (h : k < e.rules.length) => get_lt h)
  have HA5 := Lib.hid (fun k (h : k < d.pools.length) => get_lt h)
  have HB5 := Lib.hid (fun k (h : k < e.pools.length) => get_lt h)
  have END4 := Lib.hid (@eq_end _ d.rules e.rules)
  have END5 := Lib.hid (@eq_end _ d.pools e.pools)
  have LEN4 := Lib.hid (show ¬ d.rules.length = e.rules.length → ¬ MEq d e from fun h m => h (by rw [m.2.2.2.1]))
  have LEN5 := Lib.hid (show ¬ d.pools.length = e.pools.length → ¬ MEq d e from fun h m => h (by rw [m.2.2.2.2.1]))
  clear h k f0_2 f0_3 f0_4 f0_5 f0_6 f0_7 f1_2 f1_3 f1_4 f1_5 f1_6 f1_7 g0_2 g0_3 g0_4 g0_5 g0_6 g0_7 g1_2 g1_3 g1_4 g1_5 g1_6 g1_7
  have N0 := Lib.hid (show ¬ (d.epoch = e.epoch) → ¬ MEq d e from fun h m => h m.1)
  have N1 := Lib.hid (show ¬ (d.term = e.term) → ¬ MEq d e from fun h m => h m.2.1)
  have N2 := Lib.hid (show ¬ (d.tree = e.tree) → ¬ MEq d e from fun h m => h m.2.2.1)
  have N3 := Lib.hid (show ¬ (d.rules = e.rules) → ¬ MEq d e from fun h m => h m.2.2.2.1)
  have N4 := Lib.hid (show ¬ (d.pools = e.pools) → ¬ MEq d e from fun h m => h m.2.2.2.2.1)
  have N5 := Lib.hid (show ¬ (d.up = e.up) → ¬ MEq d e from fun h m => h m.2.2.2.2.2.1)
  have N6 := Lib.hid (show ¬ (d.out = e.out) → ¬ MEq d e from fun h m => h m.2.2.2.2.2.2)
  have YS := Lib.hid (show d.epoch = e.epoch → d.term = e.term → d.tree = e.tree → d.rules = e.rules → d.pools = e.pools → d.up = e.up → d.out = e.out → MEq d e from fun a b c f g i j => ⟨a, b, c, f, g, i, j⟩)
  generalize MEq d e = M at *
  generalize d.epoch = depoch at *
  generalize d.term = dterm at *
  generalize d.tree.devices.length = dtreedevices at *
  generalize d.tree.buckets.length = dtreebuckets at *
  generalize d.rules.length = drules at *
  generalize d.pools.length = dpools at *
  generalize d.up.length = dup at *
  generalize d.out.length = dout at *
  generalize e.epoch = eepoch at *
  generalize e.term = eterm at *
  generalize e.tree.devices.length = etreedevices at *
  generalize e.tree.buckets.length = etreebuckets at *
  generalize e.rules.length = erules at *
  generalize e.pools.length = epools at *
  generalize e.up.length = eup at *
  generalize e.out.length = eout at *
  have YA := Lib.hid XA
  have YB := Lib.hid XB
  clear XA XB
  have XA := YA
  have XB := YB
  clear YA YB
  by_cases g0 : depoch = eepoch
  · subst g0
    by_cases g1 : dterm = eterm
    · subst g1
      have x0 := XA.out.cells 0 _ rfl
      have v0 := XB.out.cells 0 _ rfl
      have x1 := XA.out.cells 1 _ rfl
      have v1 := XB.out.cells 1 _ rfl
      have x2 := XA.out.cells 2 _ rfl
      have v2 := XB.out.cells 2 _ rfl
      have x3 := XA.out.cells 3 _ rfl
      have v3 := XB.out.cells 3 _ rfl
      have x4 := XA.out.cells 4 _ rfl
      have v4 := XB.out.cells 4 _ rfl
      have x5 := XA.out.cells 5 _ rfl
      have v5 := XB.out.cells 5 _ rfl
      have x6 := XA.out.cells 6 _ rfl
      have v6 := XB.out.cells 6 _ rfl
      have x7 := XA.out.cells 7 _ rfl
      have v7 := XB.out.cells 7 _ rfl
      go_enter Try.func74, Try.ntmps74
      go_wp2_with fail
      refine (TT.out _ L.out).mono ?_
      rintro e w1 ⟨t1, rfl, H, b⟩
      have B1 := Lib.hid (chainX w L.out b)
      have YA := XA.out.later b
      have YB := XB.out.later b
      clear XA XB
      have XA := Lib.hid YA
      have XB := Lib.hid YB
      have HH := Lib.hid H
      clear b H YA YB
      clear x0 v0 x1 v1 x2 v2 x3 v3 x4 v4 x5 v5 x6 v6 x7 v7
      have x0 := XA.out.cells 0 _ rfl
      have v0 := XB.out.cells 0 _ rfl
      have x1 := XA.out.cells 1 _ rfl
      have v1 := XB.out.cells 1 _ rfl
      have x2 := XA.out.cells 2 _ rfl
      have v2 := XB.out.cells 2 _ rfl
      have x3 := XA.out.cells 3 _ rfl
      have v3 := XB.out.cells 3 _ rfl
      have x4 := XA.out.cells 4 _ rfl
      have v4 := XB.out.cells 4 _ rfl
      have x5 := XA.out.cells 5 _ rfl
      have v5 := XB.out.cells 5 _ rfl
      have x6 := XA.out.cells 6 _ rfl
      have v6 := XB.out.cells 6 _ rfl
      have x7 := XA.out.cells 7 _ rfl
      have v7 := XB.out.cells 7 _ rfl
      cases t1
      · have G := Lib.hid (N2.out (fun q => by have := HH.out.2 q; cases this))
        clear HH
        go_wp2
        go_ret
        exact Tm.IffB.no G.out B1.out
      · have q2 := Lib.hid (HH.out.1 rfl)
        clear HH
        by_cases g4 : drules = erules
        · subst g4
          by_cases g5 : dpools = epools
          · subst g5
            go_wp2
            go_loopw [5] (fun i wr => ∃ k : Nat, k ≤ drules ∧ i = .int .i64 k ∧ (∀ j, j < k → d.rules[j]? = e.rules[j]?) ∧ BxN wr w.heap.size [.int .i64 depoch, .int .i64 dterm, .slice a0_2 dtreedevices c0_2, .slice a0_3 dtreebuckets c0_3, .slice a0_4 drules c0_4, .slice a0_5 dpools c0_5, .slice a0_6 dup c0_6, .slice a0_7 dout c0_7] ∧ BxN wr (w.heap.size + 1) [.int .i64 depoch, .int .i64 dterm, .slice a1_2 etreedevices c1_2, .slice a1_3 etreebuckets c1_3, .slice a1_4 drules c1_4, .slice a1_5 dpools c1_5, .slice a1_6 eup c1_6, .slice a1_7 eout c1_7] ∧ Below w.heap.size w wr) (fun i _ => drules - (intOf i).toNat)
            case atStart => exact ⟨0, by omega, rfl, fun j hj => by omega, XA.out, XB.out, B1.out⟩
            case round =>
              clear XA XB B1 x0 v0 x1 v1 x2 v2 x3 v3 x4 v4 x5 v5 x6 v6 x7 v7
              obtain ⟨k, hk, rfl, P, XR, VR, hw⟩ := hrel
              have XA := Lib.hid XR
              have XB := Lib.hid VR
              clear XR VR
              have x4 := XA.out.cells 4 _ rfl
              have v4 := XB.out.cells 4 _ rfl
              by_cases hlt : k < drules
              · obtain ⟨x, hx⟩ := HA4.out k hlt
                obtain ⟨y, hy⟩ := HB4.out k hlt
                have NO := Lib.hid (ne_at hx hy)
                have YES := Lib.hid (eq_next hx hy P)
                have ha := ha4.out
                have hb := hb4.out
                obtain ⟨b1, o1, cs1, rfl, -, hB1, hr1, hc1⟩ := (ha.below hw).at' hx
                obtain ⟨b2, o2, cs2, rfl, -, hB2, hr2, hc2⟩ := (hb.below hw).at' hy
                have hs1 := (shape_Rule hr1).1
                have hs2 := (shape_Rule hr2).1
                subst hs1
                subst hs2
                obtain ⟨x0, x1, x2, x3⟩ := x
                obtain ⟨y0, y1, y2, y3⟩ := y
                have c0 : wr.cell? ⟨b1, o1 + k * 4, none⟩ = some (.int .i64 x0) := hc1 0 _ rfl
                have c1 : wr.cell? ⟨b1, o1 + k * 4 + 1, none⟩ = some (.int .i64 x1) := hc1 1 _ rfl
                have c2 : wr.cell? ⟨b1, o1 + k * 4 + 2, none⟩ = some (.int .i64 x2) := hc1 2 _ rfl
                have c3 : wr.cell? ⟨b1, o1 + k * 4 + 3, none⟩ = some (.bool x3) := hc1 3 _ rfl
                have e0 : wr.cell? ⟨b2, o2 + k * 4, none⟩ = some (.int .i64 y0) := hc2 0 _ rfl
                have e1 : wr.cell? ⟨b2, o2 + k * 4 + 1, none⟩ = some (.int .i64 y1) := hc2 1 _ rfl
                have e2 : wr.cell? ⟨b2, o2 + k * 4 + 2, none⟩ = some (.int .i64 y2) := hc2 2 _ rfl
                have e3 : wr.cell? ⟨b2, o2 + k * 4 + 3, none⟩ = some (.bool y3) := hc2 3 _ rfl
                have WH := Lib.hid hw
                clear hw hx hy hc1 hc2 hr1 hr2 ha hb P
                by_cases g0 : x0 = y0
                · subst g0
                  by_cases g1 : x1 = y1
                  · subst g1
                    by_cases g2 : x2 = y2
                    · subst g2
                      cases x3 <;> cases y3
                      · have G := Lib.hid (YES.out rfl)
                        clear YES NO
                        go_wp2
                        go_quiet (fail)
                        go_wp2
                        go_roundw
                        case rel => exact ⟨k + 1, by omega, by go_num, G.out, XA.out.later (below_drewN (Below.refl _ _) _), XB.out.later (below_drewN (Below.refl _ _) _), WH.out.trans (below_drewN (Below.refl _ _) _)⟩
                        case measure => simp [intOf]; omega
                      · have G := Lib.hid (NO.out (by intro e; cases e))
                        clear YES NO
                        have G := Lib.hid (N3.out G.out)
                        go_wp2
                        go_quiet (fail)
                        go_wp2
                        go_ret
                        exact Tm.IffB.no G.out (WH.out.trans (below_drewN (Below.refl _ _) _))
                      · have G := Lib.hid (NO.out (by intro e; cases e))
                        clear YES NO
                        have G := Lib.hid (N3.out G.out)
                        go_wp2
                        go_quiet (fail)
                        go_wp2
                        go_ret
                        exact Tm.IffB.no G.out (WH.out.trans (below_drewN (Below.refl _ _) _))
                      · have G := Lib.hid (YES.out rfl)
                        clear YES NO
                        go_wp2
                        go_quiet (fail)
                        go_wp2
                        go_roundw
                        case rel => exact ⟨k + 1, by omega, by go_num, G.out, XA.out.later (below_drewN (Below.refl _ _) _), XB.out.later (below_drewN (Below.refl _ _) _), WH.out.trans (below_drewN (Below.refl _ _) _)⟩
                        case measure => simp [intOf]; omega
                    · have G := Lib.hid (NO.out (by intro e; cases e; exact g2 rfl))
                      have b' : (x2 == y2) = false := by simpa using g2
                      clear g2 YES NO
                      have G := Lib.hid (N3.out G.out)
                      go_wp2
                      go_quiet (fail)
                      go_wp2
                      go_ret
                      exact Tm.IffB.no G.out (WH.out.trans (below_drewN (Below.refl _ _) _))
                  · have G := Lib.hid (NO.out (by intro e; cases e; exact g1 rfl))
                    have b' : (x1 == y1) = false := by simpa using g1
                    clear g1 YES NO
                    have G := Lib.hid (N3.out G.out)
                    go_wp2
                    go_quiet (fail)
                    go_wp2
                    go_ret
                    exact Tm.IffB.no G.out (WH.out.trans (below_drewN (Below.refl _ _) _))
                · have G := Lib.hid (NO.out (by intro e; cases e; exact g0 rfl))
                  have b' : (x0 == y0) = false := by simpa using g0
                  clear g0 YES NO
                  have G := Lib.hid (N3.out G.out)
                  go_wp2
                  go_quiet (fail)
                  go_wp2
                  go_ret
                  exact Tm.IffB.no G.out (WH.out.trans (below_drewN (Below.refl _ _) _))
              · obtain rfl : drules = k := by omega
                have q3 := Lib.hid (END4.out (by simp) P)
                have B2 := Lib.hid hw
                clear hw P
                go_wp2
                go_loopw [6] (fun i wr => ∃ k : Nat, k ≤ dpools ∧ i = .int .i64 k ∧ (∀ j, j < k → d.pools[j]? = e.pools[j]?) ∧ BxN wr w.heap.size [.int .i64 depoch, .int .i64 dterm, .slice a0_2 dtreedevices c0_2, .slice a0_3 dtreebuckets c0_3, .slice a0_4 drules c0_4, .slice a0_5 dpools c0_5, .slice a0_6 dup c0_6, .slice a0_7 dout c0_7] ∧ BxN wr (w.heap.size + 1) [.int .i64 depoch, .int .i64 dterm, .slice a1_2 etreedevices c1_2, .slice a1_3 etreebuckets c1_3, .slice a1_4 drules c1_4, .slice a1_5 dpools c1_5, .slice a1_6 eup c1_6, .slice a1_7 eout c1_7] ∧ Below w.heap.size w wr) (fun i _ => dpools - (intOf i).toNat)
                case atStart => exact ⟨0, by omega, rfl, fun j hj => by omega, XA.out, XB.out, B2.out⟩
                case round =>
                  clear XA XB B2 x4 v4
                  obtain ⟨k, hk, rfl, P, XR, VR, hw⟩ := hrel
                  have XA := Lib.hid XR
                  have XB := Lib.hid VR
                  clear XR VR
                  have x5 := XA.out.cells 5 _ rfl
                  have v5 := XB.out.cells 5 _ rfl
                  by_cases hlt : k < dpools
                  · obtain ⟨x, hx⟩ := HA5.out k hlt
                    obtain ⟨y, hy⟩ := HB5.out k hlt
                    have NO := Lib.hid (ne_at hx hy)
                    have YES := Lib.hid (eq_next hx hy P)
                    have ha := ha5.out
                    have hb := hb5.out
                    obtain ⟨b1, o1, cs1, rfl, -, hB1, hr1, hc1⟩ := (ha.below hw).at' hx
                    obtain ⟨b2, o2, cs2, rfl, -, hB2, hr2, hc2⟩ := (hb.below hw).at' hy
                    have hs1 := (shape_Pool hr1).1
                    have hs2 := (shape_Pool hr2).1
                    subst hs1
                    subst hs2
                    obtain ⟨x0, ⟨x1, x2⟩, x3, x4, x5⟩ := x
                    obtain ⟨y0, ⟨y1, y2⟩, y3, y4, y5⟩ := y
                    have c0 : wr.cell? ⟨b1, o1 + k * 6, none⟩ = some (.int .i64 x0) := hc1 0 _ rfl
                    have c1 : wr.cell? ⟨b1, o1 + k * 6 + 1, none⟩ = some (.int .i64 x1) := hc1 1 _ rfl
                    have c2 : wr.cell? ⟨b1, o1 + k * 6 + 2, none⟩ = some (.int .i64 x2) := hc1 2 _ rfl
                    have c3 : wr.cell? ⟨b1, o1 + k * 6 + 3, none⟩ = some (.int .i64 x3) := hc1 3 _ rfl
                    have c4 : wr.cell? ⟨b1, o1 + k * 6 + 4, none⟩ = some (.int .i64 x4) := hc1 4 _ rfl
                    have c5 : wr.cell? ⟨b1, o1 + k * 6 + 5, none⟩ = some (.int .i64 x5) := hc1 5 _ rfl
                    have e0 : wr.cell? ⟨b2, o2 + k * 6, none⟩ = some (.int .i64 y0) := hc2 0 _ rfl
                    have e1 : wr.cell? ⟨b2, o2 + k * 6 + 1, none⟩ = some (.int .i64 y1) := hc2 1 _ rfl
                    have e2 : wr.cell? ⟨b2, o2 + k * 6 + 2, none⟩ = some (.int .i64 y2) := hc2 2 _ rfl
                    have e3 : wr.cell? ⟨b2, o2 + k * 6 + 3, none⟩ = some (.int .i64 y3) := hc2 3 _ rfl
                    have e4 : wr.cell? ⟨b2, o2 + k * 6 + 4, none⟩ = some (.int .i64 y4) := hc2 4 _ rfl
                    have e5 : wr.cell? ⟨b2, o2 + k * 6 + 5, none⟩ = some (.int .i64 y5) := hc2 5 _ rfl
                    have WH := Lib.hid hw
                    clear hw hx hy hc1 hc2 hr1 hr2 ha hb P
                    by_cases g0 : x0 = y0
                    · subst g0
                      by_cases g1 : x1 = y1
                      · subst g1
                        by_cases g2 : x2 = y2
                        · subst g2
                          by_cases g3 : x3 = y3
                          · subst g3
                            by_cases g4 : x4 = y4
                            · subst g4
                              by_cases g5 : x5 = y5
                              · subst g5
                                have G := Lib.hid (YES.out rfl)
                                clear YES NO
                                go_wp2
                                go_quiet (fail)
                                go_wp2
                                go_roundw
                                case rel => exact ⟨k + 1, by omega, by go_num, G.out, XA.out.later (below_drewN (Below.refl _ _) _), XB.out.later (below_drewN (Below.refl _ _) _), WH.out.trans (below_drewN (Below.refl _ _) _)⟩
                                case measure => simp [intOf]; omega
                              · have G := Lib.hid (NO.out (by intro e; cases e; exact g5 rfl))
                                have b' : (x5 == y5) = false := by simpa using g5
                                clear g5 YES NO
                                have G := Lib.hid (N4.out G.out)
                                go_wp2
                                go_quiet (fail)
                                go_wp2
                                go_ret
                                exact Tm.IffB.no G.out (WH.out.trans (below_drewN (Below.refl _ _) _))
                            · have G := Lib.hid (NO.out (by intro e; cases e; exact g4 rfl))
                              have b' : (x4 == y4) = false := by simpa using g4
                              clear g4 YES NO
                              have G := Lib.hid (N4.out G.out)
                              go_wp2
                              go_quiet (fail)
                              go_wp2
                              go_ret
                              exact Tm.IffB.no G.out (WH.out.trans (below_drewN (Below.refl _ _) _))
                          · have G := Lib.hid (NO.out (by intro e; cases e; exact g3 rfl))
                            have b' : (x3 == y3) = false := by simpa using g3
                            clear g3 YES NO
                            have G := Lib.hid (N4.out G.out)
                            go_wp2
                            go_quiet (fail)
                            go_wp2
                            go_ret
                            exact Tm.IffB.no G.out (WH.out.trans (below_drewN (Below.refl _ _) _))
                        · have G := Lib.hid (NO.out (by intro e; cases e; exact g2 rfl))
                          have b' : (x2 == y2) = false := by simpa using g2
                          clear g2 YES NO
                          have G := Lib.hid (N4.out G.out)
                          go_wp2
                          go_quiet (fail)
                          go_wp2
                          go_ret
                          exact Tm.IffB.no G.out (WH.out.trans (below_drewN (Below.refl _ _) _))
                      · have G := Lib.hid (NO.out (by intro e; cases e; exact g1 rfl))
                        have b' : (x1 == y1) = false := by simpa using g1
                        clear g1 YES NO
                        have G := Lib.hid (N4.out G.out)
                        go_wp2
                        go_quiet (fail)
                        go_wp2
                        go_ret
                        exact Tm.IffB.no G.out (WH.out.trans (below_drewN (Below.refl _ _) _))
                    · have G := Lib.hid (NO.out (by intro e; cases e; exact g0 rfl))
                      have b' : (x0 == y0) = false := by simpa using g0
                      clear g0 YES NO
                      have G := Lib.hid (N4.out G.out)
                      go_wp2
                      go_quiet (fail)
                      go_wp2
                      go_ret
                      exact Tm.IffB.no G.out (WH.out.trans (below_drewN (Below.refl _ _) _))
                  · obtain rfl : dpools = k := by omega
                    have q4 := Lib.hid (END5.out (by simp) P)
                    have B3 := Lib.hid hw
                    clear hw P
                    have x6 := XA.out.cells 6 _ rfl
                    have v6 := XB.out.cells 6 _ rfl
                    have x7 := XA.out.cells 7 _ rfl
                    have v7 := XB.out.cells 7 _ rfl
                    go_wp2_with fail
                    refine (UU.out _ B3.out).mono ?_
                    rintro e w4 ⟨t4, rfl, H, b⟩
                    have B4 := Lib.hid (chainX w B3.out b)
                    have YA := XA.out.later b
                    have YB := XB.out.later b
                    clear XA XB
                    have XA := Lib.hid YA
                    have XB := Lib.hid YB
                    have HH := Lib.hid H
                    clear b H YA YB
                    clear x6 v6 x7 v7
                    have x6 := XA.out.cells 6 _ rfl
                    have v6 := XB.out.cells 6 _ rfl
                    have x7 := XA.out.cells 7 _ rfl
                    have v7 := XB.out.cells 7 _ rfl
                    cases t4
                    · have G := Lib.hid (N5.out (fun q => by have := HH.out.2 q; cases this))
                      clear HH
                      go_wp2
                      go_ret
                      exact Tm.IffB.no G.out B4.out
                    · have q5 := Lib.hid (HH.out.1 rfl)
                      clear HH
                      go_wp2_with fail
                      refine (OO.out _ B4.out).mono ?_
                      rintro e w5 ⟨t5, rfl, H, b⟩
                      have B5 := Lib.hid (chainX w B4.out b)
                      have YA := XA.out.later b
                      have YB := XB.out.later b
                      clear XA XB
                      have XA := Lib.hid YA
                      have XB := Lib.hid YB
                      have HH := Lib.hid H
                      clear b H YA YB
                      clear x6 v6 x7 v7
                      have x6 := XA.out.cells 6 _ rfl
                      have v6 := XB.out.cells 6 _ rfl
                      have x7 := XA.out.cells 7 _ rfl
                      have v7 := XB.out.cells 7 _ rfl
                      cases t5
                      · have G := Lib.hid (N6.out (fun q => by have := HH.out.2 q; cases this))
                        clear HH
                        go_wp2
                        go_ret
                        exact Tm.IffB.no G.out B5.out
                      · have q6 := Lib.hid (HH.out.1 rfl)
                        clear HH
                        have G := Lib.hid (YS.out (by simp) (by simp) q2.out q3.out q4.out q5.out q6.out)
                        go_wp2
                        go_ret
                        exact Tm.IffB.yes G.out B5.out
          · have G := Lib.hid (LEN5.out g5)
            go_wp2
            go_ret
            exact Tm.IffB.no G.out B1.out
        · have G := Lib.hid (LEN4.out g4)
          go_wp2
          go_ret
          exact Tm.IffB.no G.out B1.out
    · have G := Lib.hid (N1.out g1)
      have b' : (dterm != eterm) = true := by simpa using g1
      clear g1
      have x0 := XA.out.cells 0 _ rfl
      have v0 := XB.out.cells 0 _ rfl
      have x1 := XA.out.cells 1 _ rfl
      have v1 := XB.out.cells 1 _ rfl
      have x2 := XA.out.cells 2 _ rfl
      have v2 := XB.out.cells 2 _ rfl
      have x3 := XA.out.cells 3 _ rfl
      have v3 := XB.out.cells 3 _ rfl
      have x4 := XA.out.cells 4 _ rfl
      have v4 := XB.out.cells 4 _ rfl
      have x5 := XA.out.cells 5 _ rfl
      have v5 := XB.out.cells 5 _ rfl
      have x6 := XA.out.cells 6 _ rfl
      have v6 := XB.out.cells 6 _ rfl
      have x7 := XA.out.cells 7 _ rfl
      have v7 := XB.out.cells 7 _ rfl
      go_enter Try.func74, Try.ntmps74
      go_wp2
      go_ret
      exact Tm.IffB.no G.out L.out
  · have G := Lib.hid (N0.out g0)
    have b' : (depoch != eepoch) = true := by simpa using g0
    clear g0
    have x0 := XA.out.cells 0 _ rfl
    have v0 := XB.out.cells 0 _ rfl
    have x1 := XA.out.cells 1 _ rfl
    have v1 := XB.out.cells 1 _ rfl
    have x2 := XA.out.cells 2 _ rfl
    have v2 := XB.out.cells 2 _ rfl
    have x3 := XA.out.cells 3 _ rfl
    have v3 := XB.out.cells 3 _ rfl
    have x4 := XA.out.cells 4 _ rfl
    have v4 := XB.out.cells 4 _ rfl
    have x5 := XA.out.cells 5 _ rfl
    have v5 := XB.out.cells 5 _ rfl
    have x6 := XA.out.cells 6 _ rfl
    have v6 := XB.out.cells 6 _ rfl
    have x7 := XA.out.cells 7 _ rfl
    have v7 := XB.out.cells 7 _ rfl
    go_enter Try.func74, Try.ntmps74
    go_wp2
    go_ret
    exact Tm.IffB.no G.out L.out
set_option maxRecDepth 100000 in
set_option maxHeartbeats 4000000 in
theorem specSameMap (d e : DMap) {cs ds : List Value} {fr fr2 : Bool} {lo lo2 : Nat} (w : World) (hd : Rdb.sz d ≤ 2097152) (he : Rdb.sz e ≤ 2097152) (h : Rdb.rd fr lo w cs d) (k : Rdb.rd fr2 lo2 w ds e) :
    Calls Try.prog 25 #[.agg cs.toArray, .agg ds.toArray] w (IffB (MEq d e) w) := by
  have h' := h
  have k' := k
  obtain ⟨a0_2, c0_2, a0_3, c0_3, a0_4, c0_4, a0_5, c0_5, a0_6, c0_6, a0_7, c0_7, rfl, f0_0, f0_1, f0_2, g0_2, f0_3, g0_3, f0_4, g0_4, f0_5, g0_5, f0_6, g0_6, f0_7, g0_7⟩ := shape_Map h
  obtain ⟨a1_2, c1_2, a1_3, c1_3, a1_4, c1_4, a1_5, c1_5, a1_6, c1_6, a1_7, c1_7, rfl, f1_0, f1_1, f1_2, g1_2, f1_3, g1_3, f1_4, g1_4, f1_5, g1_5, f1_6, g1_6, f1_7, g1_7⟩ := shape_Map k
  have L := Lib.hid (chainX w (lay w (.cells #[.int .i64 d.epoch, .int .i64 d.term, .slice a0_2 d.tree.devices.length c0_2, .slice a0_3 d.tree.buckets.length c0_3, .slice a0_4 d.rules.length c0_4, .slice a0_5 d.pools.length c0_5, .slice a0_6 d.up.length c0_6, .slice a0_7 d.out.length c0_7] 55)) (lay _ (.cells #[.int .i64 e.epoch, .int .i64 e.term, .slice a1_2 e.tree.devices.length c1_2, .slice a1_3 e.tree.buckets.length c1_3, .slice a1_4 e.rules.length c1_4, .slice a1_5 e.pools.length c1_5, .slice a1_6 e.up.length c1_6, .slice a1_7 e.out.length c1_7] 55)))
  have C := Lib.hid (l11Same d e _ hd he (Rdb.below h' L.out) (Rdb.below k' L.out))
  clear h h' k k' hd he f0_2 f0_3 f0_4 f0_5 f0_6 f0_7 f1_2 f1_3 f1_4 f1_5 f1_6 f1_7
  go_enter Try.func25, Try.ntmps25
  go_wp2_with fail
  refine C.out.mono ?_
  rintro e w1 ⟨b, rfl, hb, b1⟩
  have H := Lib.hid hb
  have B := Lib.hid (chainX w L.out b1)
  clear hb b1
  go_wp2
  go_ret
  exact ⟨b, rfl, H.out, B.out⟩
end Go.Proofs.Ytigaoimnhebegaa.Rd
