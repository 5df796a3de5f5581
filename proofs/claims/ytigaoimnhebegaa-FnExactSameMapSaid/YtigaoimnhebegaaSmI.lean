/-
  SameMap in the program.
-/
import Derived.Test.YtigaoimnhebegaaSmT
import Derived.Test.YtigaoimnhebegaaSmE
namespace Go.Proofs.Ytigaoimnhebegaa.Rd
open Go.RowKit Go.ChangeShapes Go.WideShapes Go.Proofs.Ytigaoimnhebegaa.GfI Go.Proofs.Ytigaoimnhebegaa.GfS
open Go.Proofs.Ytigaoimnhebegaa.Sg (BxN)
open Go.Proofs.Ytigaoimnhebegaa.Tm (TD TA TIn IffB)
open Go.Proofs.Ytigaoimnhebegaa.MixC (Words)
set_option linter.unusedVariables false
set_option linter.unusedSimpArgs false

/-- Two maps are equal, part by part. -/
def MEq (d e : DMap) : Prop := d.epoch = e.epoch ∧ d.term = e.term ∧ d.tree = e.tree ∧ d.rules = e.rules ∧ d.pools = e.pools ∧ d.up = e.up ∧ d.out = e.out
theorem boolq_iff {xs ys : List Int} {w : World} {e : Ending} {w' : World} (q : Sa.BoolQ (Sa.same xs ys) w e w') : IffB (xs = ys) w e w' := by
  obtain ⟨rfl, n, rfl⟩ := q
  exact ⟨_, rfl, by unfold Sa.same; simp, below_drewN (Below.refl _ _) _⟩
set_option maxRecDepth 100000 in
set_option maxHeartbeats 4000000 in
theorem implSameMap (d e : DMap) {cs ds : List Value} {fr fr2 : Bool} {lo lo2 : Nat} (w : World) (hd : Rdb.sz d ≤ 2097152) (he : Rdb.sz e ≤ 2097152) (h : Rdb.rd fr lo w cs d) (k : Rdb.rd fr2 lo2 w ds e) :
    Calls Try.prog 27 #[.agg cs.toArray, .agg ds.toArray] w (IffB (MEq d e) w) := by
  have qd : Rdb.sz d = Rdb.sz d.tree + Rdb.sz d.rules + Rdb.sz d.pools + Rdb.sz d.up + Rdb.sz d.out := rfl
  have td : Rdb.sz d.tree ≤ 2097152 := by omega
  have rd : d.rules.length ≤ 2097152 := by have := sz_len d.rules; omega
  have pd : d.pools.length ≤ 2097152 := by have := sz_len d.pools; omega
  have ud : d.up.length ≤ 2097152 := by have := sz_len d.up; omega
  have od : d.out.length ≤ 2097152 := by have := sz_len d.out; omega
  clear qd hd
  have qe : Rdb.sz e = Rdb.sz e.tree + Rdb.sz e.rules + Rdb.sz e.pools + Rdb.sz e.up + Rdb.sz e.out := rfl
  have te : Rdb.sz e.tree ≤ 2097152 := by omega
  have re : e.rules.length ≤ 2097152 := by have := sz_len e.rules; omega
  have pe : e.pools.length ≤ 2097152 := by have := sz_len e.pools; omega
  have ue : e.up.length ≤ 2097152 := by have := sz_len e.up; omega
  have oe : e.out.length ≤ 2097152 := by have := sz_len e.out; omega
  clear qe he
  obtain ⟨a0_2, c0_2, a0_3, c0_3, a0_4, c0_4, a0_5, c0_5, a0_6, c0_6, a0_7, c0_7, rfl, f0_0, f0_1, f0_2, g0_2, f0_3, g0_3, f0_4, g0_4, f0_5, g0_5, f0_6, g0_6, f0_7, g0_7⟩ := shape_Map h
  obtain ⟨a1_2, c1_2, a1_3, c1_3, a1_4, c1_4, a1_5, c1_5, a1_6, c1_6, a1_7, c1_7, rfl, f1_0, f1_1, f1_2, g1_2, f1_3, g1_3, f1_4, g1_4, f1_5, g1_5, f1_6, g1_6, f1_7, g1_7⟩ := shape_Map k
  have L := Lib.hid (chainX w (lay w (.cells #[.int .i64 d.epoch, .int .i64 d.term, .slice a0_2 d.tree.devices.length c0_2, .slice a0_3 d.tree.buckets.length c0_3, .slice a0_4 d.rules.length c0_4, .slice a0_5 d.pools.length c0_5, .slice a0_6 d.up.length c0_6, .slice a0_7 d.out.length c0_7] 55)) (lay _ (.cells #[.int .i64 e.epoch, .int .i64 e.term, .slice a1_2 e.tree.devices.length c1_2, .slice a1_3 e.tree.buckets.length c1_3, .slice a1_4 e.rules.length c1_4, .slice a1_5 e.pools.length c1_5, .slice a1_6 e.up.length c1_6, .slice a1_7 e.out.length c1_7] 55)))
  have XA := (BxN.new w #[.int .i64 d.epoch, .int .i64 d.term, .slice a0_2 d.tree.devices.length c0_2, .slice a0_3 d.tree.buckets.length c0_3, .slice a0_4 d.rules.length c0_4, .slice a0_5 d.pools.length c0_5, .slice a0_6 d.up.length c0_6, .slice a0_7 d.out.length c0_7] 55).later (lay _ (.cells #[.int .i64 e.epoch, .int .i64 e.term, .slice a1_2 e.tree.devices.length c1_2, .slice a1_3 e.tree.buckets.length c1_3, .slice a1_4 e.rules.length c1_4, .slice a1_5 e.pools.length c1_5, .slice a1_6 e.up.length c1_6, .slice a1_7 e.out.length c1_7] 55))
  have XB := BxN.new (w.alloc (.cells #[.int .i64 d.epoch, .int .i64 d.term, .slice a0_2 d.tree.devices.length c0_2, .slice a0_3 d.tree.buckets.length c0_3, .slice a0_4 d.rules.length c0_4, .slice a0_5 d.pools.length c0_5, .slice a0_6 d.up.length c0_6, .slice a0_7 d.out.length c0_7] 55)) #[.int .i64 e.epoch, .int .i64 e.term, .slice a1_2 e.tree.devices.length c1_2, .slice a1_3 e.tree.buckets.length c1_3, .slice a1_4 e.rules.length c1_4, .slice a1_5 e.pools.length c1_5, .slice a1_6 e.up.length c1_6, .slice a1_7 e.out.length c1_7] 55
  rw [World.size_alloc] at XB
  have TT := Lib.hid (fun w' (b : Below w.heap.size w w') => sameTreeI d.tree e.tree c0_2 c0_3 c1_2 c1_3 w' td te (f0_2.below b) (f0_3.below b) (f1_2.below b) (f1_3.below b))
  have RR := Lib.hid (fun w' (b : Below w.heap.size w w') => equalRule d.rules e.rules _ _ c0_4 c1_4 w' rd re (f0_4.below b) (f1_4.below b))
  have PP := Lib.hid (fun w' (b : Below w.heap.size w w') => equalPool d.pools e.pools _ _ c0_5 c1_5 w' pd pe (f0_5.below b) (f1_5.below b))
  have UU := Lib.hid (fun w' (b : Below w.heap.size w w') => (Sa.slicesEqual _ _ c0_6 c1_6 d.up e.up w' ud ue (rows_words (f0_6.below b)) (rows_words (f1_6.below b))).mono fun _ _ q => boolq_iff q)
  have OO := Lib.hid (fun w' (b : Below w.heap.size w w') => (Sa.slicesEqual _ _ c0_7 c1_7 d.out e.out w' od oe (rows_words (f0_7.below b)) (rows_words (f1_7.below b))).mono fun _ _ q => boolq_iff q)
  clear h k f0_2 f0_3 f0_4 f0_5 f0_6 f0_7 f1_2 f1_3 f1_4 f1_5 f1_6 f1_7 g0_2 g0_3 g0_4 g0_5 g0_6 g0_7 g1_2 g1_3 g1_4 g1_5 g1_6 g1_7
  have N0 := Lib.hid (show ¬ (d.epoch = e.epoch) → ¬ MEq d e from fun h m => h m.1)
  have N1 := Lib.hid (show ¬ (d.term = e.term) → ¬ MEq d e from fun h m => h m.2.1)
  have N2 := Lib.hid (show ¬ (d.tree = e.tree) → ¬ MEq d e from fun h m => h m.2.2.1)
  have N3 := Lib.hid (show ¬ (d.rules = e.rules) → ¬ MEq d e from fun h m => h m.2.2.2.1)
  have N4 := Lib.hid (show ¬ (d.pools = e.pools) → ¬ MEq d e from fun h m => h m.2.2.2.2.1)
  have N5 := Lib.hid (show ¬ (d.up = e.up) → ¬ MEq d e from fun h m => h m.2.2.2.2.2.1)
  have N6 := Lib.hid (show ¬ (d.out = e.out) → ¬ MEq d e from fun h m => h m.2.2.2.2.2.2)
  have YS := Lib.hid (show d.epoch = e.epoch → d.term = e.term → d.tree = e.tree → d.rules = e.rules → d.pools = e.pools → d.up = e.up → d.out = e.out → MEq d e from fun a b c f g i j => ⟨a, b, c, f, g, i, j⟩)
  generalize MEq d e = M at *
  generalize d.epoch = depoch at *
  generalize d.term = dterm at *
  generalize d.tree.devices.length = dtreedevices at *
  generalize d.tree.buckets.length = dtreebuckets at *
  generalize d.rules.length = drules at *
  generalize d.pools.length = dpools at *
  generalize d.up.length = dup at *
  generalize d.out.length = dout at *
  generalize e.epoch = eepoch at *
  generalize e.term = eterm at *
  generalize e.tree.devices.length = etreedevices at *
  generalize e.tree.buckets.length = etreebuckets at *
  generalize e.rules.length = erules at *
  generalize e.pools.length = epools at *
  generalize e.up.length = eup at *
  generalize e.out.length = eout at *
  have YA := Lib.hid XA
  have YB := Lib.hid XB
  clear XA XB
  have XA := YA
  have XB := YB
  clear YA YB
  by_cases g0 : depoch = eepoch
  · subst g0
    by_cases g1 : dterm = eterm
    · subst g1
      have x0 := XA.out.cells 0 _ rfl
      have v0 := XB.out.cells 0 _ rfl
      have x1 := XA.out.cells 1 _ rfl
      have v1 := XB.out.cells 1 _ rfl
      have x2 := XA.out.cells 2 _ rfl
      have v2 := XB.out.cells 2 _ rfl
      have x3 := XA.out.cells 3 _ rfl
      have v3 := XB.out.cells 3 _ rfl
      have x4 := XA.out.cells 4 _ rfl
      have v4 := XB.out.cells 4 _ rfl
      have x5 := XA.out.cells 5 _ rfl
      have v5 := XB.out.cells 5 _ rfl
      have x6 := XA.out.cells 6 _ rfl
      have v6 := XB.out.cells 6 _ rfl
      have x7 := XA.out.cells 7 _ rfl
      have v7 := XB.out.cells 7 _ rfl
      go_enter Try.func27, Try.ntmps27
      go_wp2_with fail
      refine (TT.out _ L.out).mono ?_
      rintro e w1 ⟨t1, rfl, H, b⟩
      have B1 := Lib.hid (chainX w L.out b)
      have YA := XA.out.later b
      have YB := XB.out.later b
      clear XA XB
      have XA := Lib.hid YA
      have XB := Lib.hid YB
      have HH := Lib.hid H
      clear b H YA YB
      clear x0 v0 x1 v1 x2 v2 x3 v3 x4 v4 x5 v5 x6 v6 x7 v7
      have x0 := XA.out.cells 0 _ rfl
      have v0 := XB.out.cells 0 _ rfl
      have x1 := XA.out.cells 1 _ rfl
      have v1 := XB.out.cells 1 _ rfl
      have x2 := XA.out.cells 2 _ rfl
      have v2 := XB.out.cells 2 _ rfl
      have x3 := XA.out.cells 3 _ rfl
      have v3 := XB.out.cells 3 _ rfl
      have x4 := XA.out.cells 4 _ rfl
      have v4 := XB.out.cells 4 _ rfl
      have x5 := XA.out.cells 5 _ rfl
      have v5 := XB.out.cells 5 _ rfl
      have x6 := XA.out.cells 6 _ rfl
      have v6 := XB.out.cells 6 _ rfl
      have x7 := XA.out.cells 7 _ rfl
      have v7 := XB.out.cells 7 _ rfl
      cases t1
      · have G := Lib.hid (N2.out (fun q => by have := HH.out.2 q; cases this))
        clear HH
        go_wp2
        go_ret
        exact Tm.IffB.no G.out B1.out
      · have q2 := Lib.hid (HH.out.1 rfl)
        clear HH
        go_wp2_with fail
        refine (RR.out _ B1.out).mono ?_
        rintro e w2 ⟨t2, rfl, H, b⟩
        have B2 := Lib.hid (chainX w B1.out b)
        have YA := XA.out.later b
        have YB := XB.out.later b
        clear XA XB
        have XA := Lib.hid YA
        have XB := Lib.hid YB
        have HH := Lib.hid H
        clear b H YA YB
        clear x0 v0 x1 v1 x2 v2 x3 v3 x4 v4 x5 v5 x6 v6 x7 v7
        have x0 := XA.out.cells 0 _ rfl
        have v0 := XB.out.cells 0 _ rfl
        have x1 := XA.out.cells 1 _ rfl
        have v1 := XB.out.cells 1 _ rfl
        have x2 := XA.out.cells 2 _ rfl
        have v2 := XB.out.cells 2 _ rfl
        have x3 := XA.out.cells 3 _ rfl
        have v3 := XB.out.cells 3 _ rfl
        have x4 := XA.out.cells 4 _ rfl
        have v4 := XB.out.cells 4 _ rfl
        have x5 := XA.out.cells 5 _ rfl
        have v5 := XB.out.cells 5 _ rfl
        have x6 := XA.out.cells 6 _ rfl
        have v6 := XB.out.cells 6 _ rfl
        have x7 := XA.out.cells 7 _ rfl
        have v7 := XB.out.cells 7 _ rfl
        cases t2
        · have G := Lib.hid (N3.out (fun q => by have := HH.out.2 q; cases this))
          clear HH
          go_wp2
          go_ret
          exact Tm.IffB.no G.out B2.out
        · have q3 := Lib.hid (HH.out.1 rfl)
          clear HH
          go_wp2_with fail
          refine (PP.out _ B2.out).mono ?_
          rintro e w3 ⟨t3, rfl, H, b⟩
          have B3 := Lib.hid (chainX w B2.out b)
          have YA := XA.out.later b
          have YB := XB.out.later b
          clear XA XB
          have XA := Lib.hid YA
          have XB := Lib.hid YB
          have HH := Lib.hid H
          clear b H YA YB
          clear x0 v0 x1 v1 x2 v2 x3 v3 x4 v4 x5 v5 x6 v6 x7 v7
          have x0 := XA.out.cells 0 _ rfl
          have v0 := XB.out.cells 0 _ rfl
          have x1 := XA.out.cells 1 _ rfl
          have v1 := XB.out.cells 1 _ rfl
          have x2 := XA.out.cells 2 _ rfl
          have v2 := XB.out.cells 2 _ rfl
          have x3 := XA.out.cells 3 _ rfl
          have v3 := XB.out.cells 3 _ rfl
          have x4 := XA.out.cells 4 _ rfl
          have v4 := XB.out.cells 4 _ rfl
          have x5 := XA.out.cells 5 _ rfl
          have v5 := XB.out.cells 5 _ rfl
          have x6 := XA.out.cells 6 _ rfl
          have v6 := XB.out.cells 6 _ rfl
          have x7 := XA.out.cells 7 _ rfl
          have v7 := XB.out.cells 7 _ rfl
          cases t3
          · have G := Lib.hid (N4.out (fun q => by have := HH.out.2 q; cases this))
            clear HH
            go_wp2
            go_ret
            exact Tm.IffB.no G.out B3.out
          · have q4 := Lib.hid (HH.out.1 rfl)
            clear HH
            go_wp2_with fail
            refine (UU.out _ B3.out).mono ?_
            rintro e w4 ⟨t4, rfl, H, b⟩
            have B4 := Lib.hid (chainX w B3.out b)
            have YA := XA.out.later b
            have YB := XB.out.later b
            clear XA XB
            have XA := Lib.hid YA
            have XB := Lib.hid YB
            have HH := Lib.hid H
            clear b H YA YB
            clear x0 v0 x1 v1 x2 v2 x3 v3 x4 v4 x5 v5 x6 v6 x7 v7
            have x0 := XA.out.cells 0 _ rfl
            have v0 := XB.out.cells 0 _ rfl
            have x1 := XA.out.cells 1 _ rfl
            have v1 := XB.out.cells 1 _ rfl
            have x2 := XA.out.cells 2 _ rfl
            have v2 := XB.out.cells 2 _ rfl
            have x3 := XA.out.cells 3 _ rfl
            have v3 := XB.out.cells 3 _ rfl
            have x4 := XA.out.cells 4 _ rfl
            have v4 := XB.out.cells 4 _ rfl
            have x5 := XA.out.cells 5 _ rfl
            have v5 := XB.out.cells 5 _ rfl
            have x6 := XA.out.cells 6 _ rfl
            have v6 := XB.out.cells 6 _ rfl
            have x7 := XA.out.cells 7 _ rfl
            have v7 := XB.out.cells 7 _ rfl
            cases t4
            · have G := Lib.hid (N5.out (fun q => by have := HH.out.2 q; cases this))
              clear HH
              go_wp2
              go_ret
              exact Tm.IffB.no G.out B4.out
            · have q5 := Lib.hid (HH.out.1 rfl)
              clear HH
              go_wp2_with fail
              refine (OO.out _ B4.out).mono ?_
              rintro e w5 ⟨t5, rfl, H, b⟩
              have B5 := Lib.hid (chainX w B4.out b)
              have YA := XA.out.later b
              have YB := XB.out.later b
              clear XA XB
              have XA := Lib.hid YA
              have XB := Lib.hid YB
              have HH := Lib.hid H
              clear b H YA YB
              clear x0 v0 x1 v1 x2 v2 x3 v3 x4 v4 x5 v5 x6 v6 x7 v7
              have x0 := XA.out.cells 0 _ rfl
              have v0 := XB.out.cells 0 _ rfl
              have x1 := XA.out.cells 1 _ rfl
              have v1 := XB.out.cells 1 _ rfl
              have x2 := XA.out.cells 2 _ rfl
              have v2 := XB.out.cells 2 _ rfl
              have x3 := XA.out.cells 3 _ rfl
              have v3 := XB.out.cells 3 _ rfl
              have x4 := XA.out.cells 4 _ rfl
              have v4 := XB.out.cells 4 _ rfl
              have x5 := XA.out.cells 5 _ rfl
              have v5 := XB.out.cells 5 _ rfl
              have x6 := XA.out.cells 6 _ rfl
              have v6 := XB.out.cells 6 _ rfl
              have x7 := XA.out.cells 7 _ rfl
              have v7 := XB.out.cells 7 _ rfl
              cases t5
              · have G := Lib.hid (N6.out (fun q => by have := HH.out.2 q; cases this))
                clear HH
                go_wp2
                go_ret
                exact Tm.IffB.no G.out B5.out
              · have q6 := Lib.hid (HH.out.1 rfl)
                clear HH
                have G := Lib.hid (YS.out (by simp) (by simp) q2.out q3.out q4.out q5.out q6.out)
                go_wp2
                go_ret
                exact Tm.IffB.yes G.out B5.out
    · have G := Lib.hid (N1.out g1)
      have b' : (dterm == eterm) = false := by simpa using g1
      clear g1
      have x0 := XA.out.cells 0 _ rfl
      have v0 := XB.out.cells 0 _ rfl
      have x1 := XA.out.cells 1 _ rfl
      have v1 := XB.out.cells 1 _ rfl
      have x2 := XA.out.cells 2 _ rfl
      have v2 := XB.out.cells 2 _ rfl
      have x3 := XA.out.cells 3 _ rfl
      have v3 := XB.out.cells 3 _ rfl
      have x4 := XA.out.cells 4 _ rfl
      have v4 := XB.out.cells 4 _ rfl
      have x5 := XA.out.cells 5 _ rfl
      have v5 := XB.out.cells 5 _ rfl
      have x6 := XA.out.cells 6 _ rfl
      have v6 := XB.out.cells 6 _ rfl
      have x7 := XA.out.cells 7 _ rfl
      have v7 := XB.out.cells 7 _ rfl
      go_enter Try.func27, Try.ntmps27
      go_wp2
      go_ret
      exact Tm.IffB.no G.out L.out
  · have G := Lib.hid (N0.out g0)
    have b' : (depoch == eepoch) = false := by simpa using g0
    clear g0
    have x0 := XA.out.cells 0 _ rfl
    have v0 := XB.out.cells 0 _ rfl
    have x1 := XA.out.cells 1 _ rfl
    have v1 := XB.out.cells 1 _ rfl
    have x2 := XA.out.cells 2 _ rfl
    have v2 := XB.out.cells 2 _ rfl
    have x3 := XA.out.cells 3 _ rfl
    have v3 := XB.out.cells 3 _ rfl
    have x4 := XA.out.cells 4 _ rfl
    have v4 := XB.out.cells 4 _ rfl
    have x5 := XA.out.cells 5 _ rfl
    have v5 := XB.out.cells 5 _ rfl
    have x6 := XA.out.cells 6 _ rfl
    have v6 := XB.out.cells 6 _ rfl
    have x7 := XA.out.cells 7 _ rfl
    have v7 := XB.out.cells 7 _ rfl
    go_enter Try.func27, Try.ntmps27
    go_wp2
    go_ret
    exact Tm.IffB.no G.out L.out
end Go.Proofs.Ytigaoimnhebegaa.Rd
