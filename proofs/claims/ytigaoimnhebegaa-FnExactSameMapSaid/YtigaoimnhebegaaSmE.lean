/-
  Lists of rules and of pools compared by slices.Equal.
-/
import Derived.Test.YtigaoimnhebegaaDMap
import Derived.Test.YtigaoimnhebegaaTlaw
import Derived.BigQuiet
namespace Go.Proofs.Ytigaoimnhebegaa.Rd
open Go.RowKit Go.ChangeShapes Go.WideShapes Go.Proofs.Ytigaoimnhebegaa.GfI Go.Proofs.Ytigaoimnhebegaa.GfS
open Go.Proofs.Ytigaoimnhebegaa.Sg (BxN)
open Go.Proofs.Ytigaoimnhebegaa.Tm (TD TA TIn IffB)
open Go.Proofs.Ytigaoimnhebegaa.MixC (Words)
set_option linter.unusedVariables false
set_option linter.unusedSimpArgs false

theorem ne_at {α : Type} {l m : List α} {k : Nat} {x y : α} (hx : l[k]? = some x) (hy : m[k]? = some y) (h : ¬ x = y) : ¬ l = m := by
  intro e
  rw [e, hy] at hx
  cases hx
  exact h rfl
theorem eq_next {α : Type} {l m : List α} {k : Nat} {x y : α} (hx : l[k]? = some x) (hy : m[k]? = some y) (p : ∀ j, j < k → l[j]? = m[j]?) (h : x = y) : ∀ j, j < k + 1 → l[j]? = m[j]? := by
  intro j hj
  by_cases e : j = k
  · rw [e, hx, hy, h]
  · exact p j (by omega)
theorem eq_end {α : Type} {l m : List α} (h1 : l.length = m.length) (p : ∀ j, j < l.length → l[j]? = m[j]?) : l = m := by
  refine List.ext_getElem? fun j => ?_
  by_cases e : j < l.length
  · exact p j e
  · rw [List.getElem?_eq_none (by omega), List.getElem?_eq_none (by omega)]
set_option maxRecDepth 100000 in
set_option maxHeartbeats 4000000 in
theorem equalRule (l m : List DRule) (a b : Option Addr) (c1 c2 : Nat) (w : World) {fr fr2 : Bool} {lo lo2 : Nat} (hl : l.length ≤ 2097152) (hm : m.length ≤ 2097152) (ha : Rows fr lo w a l) (hb : Rows fr2 lo2 w b m) :
    Calls Try.prog 77 #[.slice a l.length c1, .slice b m.length c2] w (IffB (l = m) w) := by
  have HL := Lib.hid (fun k (h : k < l.length) => get_lt h)
  have HM := Lib.hid (fun k (h : k < m.length) => get_lt h)
  have END := Lib.hid (@eq_end _ l m)
  have LEN := Lib.hid (show ¬ l.length = m.length → ¬ l = m from fun h e => h (by rw [e]))
  obtain ⟨n, hn⟩ : ∃ n, n = l.length := ⟨_, rfl⟩
  obtain ⟨p, hp⟩ : ∃ p, p = m.length := ⟨_, rfl⟩
  rw [← hn, ← hp] at END LEN
  rw [← hn] at hl HL ⊢
  rw [← hp] at hm HM ⊢
  clear hn hp
  by_cases q : n = p
  · subst q
    go_enter Try.func77, Try.ntmps77
    go_wp2
    go_loopw [13] (fun i wr => ∃ k : Nat, k ≤ n ∧ i = .int .i64 k ∧ (∀ j, j < k → l[j]? = m[j]?) ∧ Below w.heap.size w wr) (fun i _ => n - (intOf i).toNat)
    case atStart => exact ⟨0, by omega, rfl, fun j hj => by omega, Below.refl _ _⟩
    case round =>
      obtain ⟨k, hk, rfl, P, hw⟩ := hrel
      by_cases hlt : k < n
      · obtain ⟨x, hx⟩ := HL.out k hlt
        obtain ⟨y, hy⟩ := HM.out k hlt
        have NO := Lib.hid (ne_at hx hy)
        have YES := Lib.hid (eq_next hx hy P)
        obtain ⟨b1, o1, cs1, rfl, -, hB1, hr1, hc1⟩ := (ha.below hw).at' hx
        obtain ⟨b2, o2, cs2, rfl, -, hB2, hr2, hc2⟩ := (hb.below hw).at' hy
        have hs1 := (shape_Rule hr1).1
        have hs2 := (shape_Rule hr2).1
        subst hs1
        subst hs2
        obtain ⟨x0, x1, x2, x3⟩ := x
        obtain ⟨y0, y1, y2, y3⟩ := y
        have c0 : wr.cell? ⟨b1, o1 + k * 4, none⟩ = some (.int .i64 x0) := hc1 0 _ rfl
        have c1 : wr.cell? ⟨b1, o1 + k * 4 + 1, none⟩ = some (.int .i64 x1) := hc1 1 _ rfl
        have c2 : wr.cell? ⟨b1, o1 + k * 4 + 2, none⟩ = some (.int .i64 x2) := hc1 2 _ rfl
        have c3 : wr.cell? ⟨b1, o1 + k * 4 + 3, none⟩ = some (.bool x3) := hc1 3 _ rfl
        have e0 : wr.cell? ⟨b2, o2 + k * 4, none⟩ = some (.int .i64 y0) := hc2 0 _ rfl
        have e1 : wr.cell? ⟨b2, o2 + k * 4 + 1, none⟩ = some (.int .i64 y1) := hc2 1 _ rfl
        have e2 : wr.cell? ⟨b2, o2 + k * 4 + 2, none⟩ = some (.int .i64 y2) := hc2 2 _ rfl
        have e3 : wr.cell? ⟨b2, o2 + k * 4 + 3, none⟩ = some (.bool y3) := hc2 3 _ rfl
        have WH := Lib.hid hw
        clear hw hx hy hc1 hc2 hr1 hr2 ha hb P LEN
        by_cases g0 : x0 = y0
        · subst g0
          by_cases g1 : x1 = y1
          · subst g1
            by_cases g2 : x2 = y2
            · subst g2
              cases x3 <;> cases y3
              · have G := Lib.hid (YES.out rfl)
                clear YES NO
                go_wp2
                go_quiet (fail)
                go_wp2
                go_roundw
                case rel => exact ⟨k + 1, by omega, by go_num, G.out, WH.out.trans (below_drewN (Below.refl _ _) _)⟩
                case measure => simp [intOf]; omega
              · have G := Lib.hid (NO.out (by intro e; cases e))
                clear YES NO
                go_wp2
                go_quiet (fail)
                go_wp2
                go_ret
                exact Tm.IffB.no G.out (WH.out.trans (below_drewN (Below.refl _ _) _))
              · have G := Lib.hid (NO.out (by intro e; cases e))
                clear YES NO
                go_wp2
                go_quiet (fail)
                go_wp2
                go_ret
                exact Tm.IffB.no G.out (WH.out.trans (below_drewN (Below.refl _ _) _))
              · have G := Lib.hid (YES.out rfl)
                clear YES NO
                go_wp2
                go_quiet (fail)
                go_wp2
                go_roundw
                case rel => exact ⟨k + 1, by omega, by go_num, G.out, WH.out.trans (below_drewN (Below.refl _ _) _)⟩
                case measure => simp [intOf]; omega
            · have G := Lib.hid (NO.out (by intro e; cases e; exact g2 rfl))
              have b' : (x2 == y2) = false := by simpa using g2
              clear g2 YES NO
              go_wp2
              go_quiet (fail)
              go_wp2
              go_ret
              exact Tm.IffB.no G.out (WH.out.trans (below_drewN (Below.refl _ _) _))
          · have G := Lib.hid (NO.out (by intro e; cases e; exact g1 rfl))
            have b' : (x1 == y1) = false := by simpa using g1
            clear g1 YES NO
            go_wp2
            go_quiet (fail)
            go_wp2
            go_ret
            exact Tm.IffB.no G.out (WH.out.trans (below_drewN (Below.refl _ _) _))
        · have G := Lib.hid (NO.out (by intro e; cases e; exact g0 rfl))
          have b' : (x0 == y0) = false := by simpa using g0
          clear g0 YES NO
          go_wp2
          go_quiet (fail)
          go_wp2
          go_ret
          exact Tm.IffB.no G.out (WH.out.trans (below_drewN (Below.refl _ _) _))
      · obtain rfl : k = n := by omega
        have G := Lib.hid (END.out (by simp) P)
        have WH := Lib.hid hw
        clear hw ha hb P
        go_wp2
        go_ret
        exact Tm.IffB.yes G.out WH.out
  · have G := Lib.hid (LEN.out q)
    go_enter Try.func77, Try.ntmps77
    go_wp2
    go_ret
    exact Tm.IffB.no G.out (Below.refl _ _)
set_option maxRecDepth 100000 in
set_option maxHeartbeats 4000000 in
theorem equalPool (l m : List DPool) (a b : Option Addr) (c1 c2 : Nat) (w : World) {fr fr2 : Bool} {lo lo2 : Nat} (hl : l.length ≤ 2097152) (hm : m.length ≤ 2097152) (ha : Rows fr lo w a l) (hb : Rows fr2 lo2 w b m) :
    Calls Try.prog 78 #[.slice a l.length c1, .slice b m.length c2] w (IffB (l = m) w) := by
  have HL := Lib.hid (fun k (h : k < l.length) => get_lt h)
  have HM := Lib.hid (fun k (h : k < m.length) => get_lt h)
  have END := Lib.hid (@eq_end _ l m)
  have LEN := Lib.hid (show ¬ l.length = m.length → ¬ l = m from fun h e => h (by rw [e]))
  obtain ⟨n, hn⟩ : ∃ n, n = l.length := ⟨_, rfl⟩
  obtain ⟨p, hp⟩ : ∃ p, p = m.length := ⟨_, rfl⟩
  rw [← hn, ← hp] at END LEN
  rw [← hn] at hl HL ⊢
  rw [← hp] at hm HM ⊢
  clear hn hp
  by_cases q : n = p
  · subst q
    go_enter Try.func78, Try.ntmps78
    go_wp2
    go_loopw [13] (fun i wr => ∃ k : Nat, k ≤ n ∧ i = .int .i64 k ∧ (∀ j, j < k → l[j]? = m[j]?) ∧ Below w.heap.size w wr) (fun i _ => n - (intOf i).toNat)
    case atStart => exact ⟨0, by omega, rfl, fun j hj => by omega, Below.refl _ _⟩
    case round =>
      obtain ⟨k, hk, rfl, P, hw⟩ := hrel
      by_cases hlt : k < n
      · obtain ⟨x, hx⟩ := HL.out k hlt
        obtain ⟨y, hy⟩ := HM.out k hlt
        have NO := Lib.hid (ne_at hx hy)
        have YES := Lib.hid (eq_next hx hy P)
        obtain ⟨b1, o1, cs1, rfl, -, hB1, hr1, hc1⟩ := (ha.below hw).at' hx
        obtain ⟨b2, o2, cs2, rfl, -, hB2, hr2, hc2⟩ := (hb.below hw).at' hy
        have hs1 := (shape_Pool hr1).1
        have hs2 := (shape_Pool hr2).1
        subst hs1
        subst hs2
        obtain ⟨x0, ⟨x1, x2⟩, x3, x4, x5⟩ := x
        obtain ⟨y0, ⟨y1, y2⟩, y3, y4, y5⟩ := y
        have c0 : wr.cell? ⟨b1, o1 + k * 6, none⟩ = some (.int .i64 x0) := hc1 0 _ rfl
        have c1 : wr.cell? ⟨b1, o1 + k * 6 + 1, none⟩ = some (.int .i64 x1) := hc1 1 _ rfl
        have c2 : wr.cell? ⟨b1, o1 + k * 6 + 2, none⟩ = some (.int .i64 x2) := hc1 2 _ rfl
        have c3 : wr.cell? ⟨b1, o1 + k * 6 + 3, none⟩ = some (.int .i64 x3) := hc1 3 _ rfl
        have c4 : wr.cell? ⟨b1, o1 + k * 6 + 4, none⟩ = some (.int .i64 x4) := hc1 4 _ rfl
        have c5 : wr.cell? ⟨b1, o1 + k * 6 + 5, none⟩ = some (.int .i64 x5) := hc1 5 _ rfl
        have e0 : wr.cell? ⟨b2, o2 + k * 6, none⟩ = some (.int .i64 y0) := hc2 0 _ rfl
        have e1 : wr.cell? ⟨b2, o2 + k * 6 + 1, none⟩ = some (.int .i64 y1) := hc2 1 _ rfl
        have e2 : wr.cell? ⟨b2, o2 + k * 6 + 2, none⟩ = some (.int .i64 y2) := hc2 2 _ rfl
        have e3 : wr.cell? ⟨b2, o2 + k * 6 + 3, none⟩ = some (.int .i64 y3) := hc2 3 _ rfl
        have e4 : wr.cell? ⟨b2, o2 + k * 6 + 4, none⟩ = some (.int .i64 y4) := hc2 4 _ rfl
        have e5 : wr.cell? ⟨b2, o2 + k * 6 + 5, none⟩ = some (.int .i64 y5) := hc2 5 _ rfl
        have WH := Lib.hid hw
        clear hw hx hy hc1 hc2 hr1 hr2 ha hb P LEN
        by_cases g0 : x0 = y0
        · subst g0
          by_cases g1 : x1 = y1
          · subst g1
            by_cases g2 : x2 = y2
            · subst g2
              by_cases g3 : x3 = y3
              · subst g3
                by_cases g4 : x4 = y4
                · subst g4
                  by_cases g5 : x5 = y5
                  · subst g5
                    have G := Lib.hid (YES.out rfl)
                    clear YES NO
                    go_wp2
                    go_quiet (fail)
                    go_wp2
                    go_roundw
                    case rel => exact ⟨k + 1, by omega, by go_num, G.out, WH.out.trans (below_drewN (Below.refl _ _) _)⟩
                    case measure => simp [intOf]; omega
                  · have G := Lib.hid (NO.out (by intro e; cases e; exact g5 rfl))
                    have b' : (x5 == y5) = false := by simpa using g5
                    clear g5 YES NO
                    go_wp2
                    go_quiet (fail)
                    go_wp2
                    go_ret
                    exact Tm.IffB.no G.out (WH.out.trans (below_drewN (Below.refl _ _) _))
                · have G := Lib.hid (NO.out (by intro e; cases e; exact g4 rfl))
                  have b' : (x4 == y4) = false := by simpa using g4
                  clear g4 YES NO
                  go_wp2
                  go_quiet (fail)
                  go_wp2
                  go_ret
                  exact Tm.IffB.no G.out (WH.out.trans (below_drewN (Below.refl _ _) _))
              · have G := Lib.hid (NO.out (by intro e; cases e; exact g3 rfl))
                have b' : (x3 == y3) = false := by simpa using g3
                clear g3 YES NO
                go_wp2
                go_quiet (fail)
                go_wp2
                go_ret
                exact Tm.IffB.no G.out (WH.out.trans (below_drewN (Below.refl _ _) _))
            · have G := Lib.hid (NO.out (by intro e; cases e; exact g2 rfl))
              have b' : (x2 == y2) = false := by simpa using g2
              clear g2 YES NO
              go_wp2
              go_quiet (fail)
              go_wp2
              go_ret
              exact Tm.IffB.no G.out (WH.out.trans (below_drewN (Below.refl _ _) _))
          · have G := Lib.hid (NO.out (by intro e; cases e; exact g1 rfl))
            have b' : (x1 == y1) = false := by simpa using g1
            clear g1 YES NO
            go_wp2
            go_quiet (fail)
            go_wp2
            go_ret
            exact Tm.IffB.no G.out (WH.out.trans (below_drewN (Below.refl _ _) _))
        · have G := Lib.hid (NO.out (by intro e; cases e; exact g0 rfl))
          have b' : (x0 == y0) = false := by simpa using g0
          clear g0 YES NO
          go_wp2
          go_quiet (fail)
          go_wp2
          go_ret
          exact Tm.IffB.no G.out (WH.out.trans (below_drewN (Below.refl _ _) _))
      · obtain rfl : k = n := by omega
        have G := Lib.hid (END.out (by simp) P)
        have WH := Lib.hid hw
        clear hw ha hb P
        go_wp2
        go_ret
        exact Tm.IffB.yes G.out WH.out
  · have G := Lib.hid (LEN.out q)
    go_enter Try.func78, Try.ntmps78
    go_wp2
    go_ret
    exact Tm.IffB.no G.out (Below.refl _ _)
end Go.Proofs.Ytigaoimnhebegaa.Rd
