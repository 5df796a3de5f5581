/-
  Whether a striped object is valid: the model's function.
-/
import Derived.Test.YtmndkmkknkodhaaWideOk
import Derived.Deep.RegionHeld3
namespace Go.Proofs.Ytmndkmkknkodhaa.Sg
open Go.RowKit Go.Proofs.Ytmndkmkknkodhaa.GfI Go.Proofs.Ytmndkmkknkodhaa.GfS
set_option linter.unusedVariables false

set_option maxRecDepth 100000 in
set_option maxHeartbeats 2000000 in
theorem l05OK (k m u s : Int) (a : Option Addr) (cap n : Nat) (S : Nat → ByteArray) (w : World) (hl : n ≤ 2097152) (hz : ∀ i, i < n → (S i).size ≤ 9223372036854775807) (ha : Strs w a n S) :
    Calls Try.prog 98 #[wval k m u s (.slice a n cap)] w (BoolB (okW k m u s n S) w) := by
  have X := BxN.new w #[.int .i64 k, .int .i64 m, .int .i64 u, .int .i64 s, .slice a n cap] 77
  have XH := Lib.hid X
  have LH := Lib.hid (lay w (.cells #[.int .i64 k, .int .i64 m, .int .i64 u, .int .i64 s, .slice a n cap] 77))
  have HC := Lib.hid (fun w' => Cd.l04Code k m w')
  clear X
  by_cases h1 : 1 ≤ k ∧ k ≤ 4 ∧ 0 ≤ m ∧ m ≤ 3
  · rw [Cd.okC_yes h1] at HC
    by_cases h2 : 1 ≤ u ∧ u ≤ 8
    · have I2 := inB_yes h2.1 h2.2
      by_cases h3 : 0 ≤ s ∧ s ≤ 256
      · obtain ⟨s0, s1⟩ := h3
        have I3 := inB_yes s0 s1
        by_cases h4 : (n : Int) = k + m
        · have CS := Lib.hid (fun w' => l05Tall k m u s h1.1 h1.2.1 h2.1 h2.2 s0 s1 w')
          have MK := Lib.hid (fun H => okW_yes (S := S) (n := n) ⟨h1.1, h1.2.1, h1.2.2.1, h1.2.2.2, h2.1, h2.2, s0, s1, h4, H⟩)
          have NO := Lib.hid (fun kk (hk : kk < n) (H : ((S kk).size : Int) ≠ tall k u s) => okW_no (k := k) (m := m) (u := u) (s := s) (n := n) (S := S) fun h => H (h.cols kk hk))
          have q4 : ((n : Int) == k + m) = true := by simpa using h4
          have q5 : ((n : Int) != k + m) = false := by simp [h4]
          obtain ⟨g1, g2, g3, g4⟩ := h1
          clear h2 h4
          generalize tall k u s = t at *
          go_enter Try.func98, Try.ntmps98
          go_wp2_with fail
          refine (HC.out _).mono ?_
          rintro e w1 ⟨rfl, b1⟩
          have X1 := XH.out.later b1
          have B1 := Lib.hid (chain LH.out b1)
          have x0 := X1.cells 0 _ rfl
          have x1 := X1.cells 1 _ rfl
          have x2 := X1.cells 2 _ rfl
          have x3 := X1.cells 3 _ rfl
          have x4 := X1.cells 4 _ rfl
          have X1H := Lib.hid X1
          clear b1 X1
          go_wp2_with fail
          refine (l00In u 1 8 _).mono ?_
          rintro e w2 ⟨rfl, rfl⟩
          rw [I2]
          go_wp2_with fail
          refine (l00In s 0 256 _).mono ?_
          rintro e w2 ⟨rfl, rfl⟩
          rw [I3]
          go_wp2
          go_loopw [3] (fun i wr => ∃ j : Nat, j ≤ n ∧ i = .int .i64 j ∧ (∀ x, x < j → ((S x).size : Int) = t) ∧ BxN wr w.heap.size [.int .i64 k, .int .i64 m, .int .i64 u, .int .i64 s, .slice a n cap] ∧ Below w.heap.size w wr) (fun i _ => n - (intOf i).toNat)
          case atStart => exact ⟨0, by omega, rfl, fun x hx => absurd hx (Nat.not_lt_zero _), X1H.out, B1.out⟩
          case round =>
            obtain ⟨j, hj, rfl, P, XR, hw⟩ := hrel
            clear x0 x1 x2 x3 x4 q4 q5
            have HP := Lib.hid P
            have HW := Lib.hid hw
            have HX := Lib.hid XR
            have x0 := XR.cells 0 _ rfl
            have x1 := XR.cells 1 _ rfl
            have x2 := XR.cells 2 _ rfl
            have x3 := XR.cells 3 _ rfl
            have x4 := XR.cells 4 _ rfl
            clear P XR
            by_cases hlt : j < n
            · have ha1 := ha.below hw
              have z := hz j hlt
              obtain ⟨b1, o1, rfl, hB, hc⟩ := ha1.resolve_left (by omega)
              have c := hc j hlt
              have CC := Lib.hid (fun w' (b : Below wr.heap.size wr w') => (b.cell (p := ⟨b1, o1 + j, none⟩) hB).trans c)
              clear hc ha1 hw hB
              by_cases hq : ((S j).size : Int) = t
              · have P2 : ∀ x, x < j + 1 → ((S x).size : Int) = t := fun x hx => if e : x = j then by rw [e]; exact hq else HP.out x (by omega)
                have P2 := Lib.hid P2
                have Q : (((S j).size : Int) == t) = true := by simpa using hq
                clear hq
                generalize S j = sj at *
                go_wp2
                go_region_held3 (fun w' => w'.cell? ⟨w.heap.size, 0, none⟩ = some (.int .i64 k) ∧ w'.cell? ⟨w.heap.size, 1, none⟩ = some (.int .i64 m) ∧ w'.cell? ⟨w.heap.size, 2, none⟩ = some (.int .i64 u) ∧ w'.cell? ⟨w.heap.size, 3, none⟩ = some (.int .i64 s) ∧ w'.cell? ⟨w.heap.size, 4, none⟩ = some (.slice (some ⟨b1, o1, none⟩) n cap) ∧ w'.cell? ⟨b1, o1 + j, none⟩ = some (.string sj)) (go_keep)
                  (first | (go_at_call 130; refine (CS.out _).mono ?_; rintro e w3 ⟨rfl, b3⟩; have Y := Lib.hid (HX.out.later (undrew b3)); have y0 := Y.out.cells 0 _ rfl; have y1 := Y.out.cells 1 _ rfl; have y2 := Y.out.cells 2 _ rfl; have y3 := Y.out.cells 3 _ rfl; have y4 := Y.out.cells 4 _ rfl; have d := CC.out _ (undrew b3); have B3 := Lib.hid (HW.out.trans ((undrew b3).mono HW.out.size)); clear b3))
                all_goals
                  go_wp2
                  go_roundw
                  case rel => exact ⟨j + 1, by omega, by go_num, P2.out, Y.out, B3.out⟩
                  case measure => simp [intOf]; omega
              · have EH := Lib.hid (NO.out j hlt hq)
                have Q : (((S j).size : Int) == t) = false := by simpa using hq
                clear hq
                generalize S j = sj at *
                go_wp2
                go_region_held3 (fun w' => w'.cell? ⟨w.heap.size, 0, none⟩ = some (.int .i64 k) ∧ w'.cell? ⟨w.heap.size, 1, none⟩ = some (.int .i64 m) ∧ w'.cell? ⟨w.heap.size, 2, none⟩ = some (.int .i64 u) ∧ w'.cell? ⟨w.heap.size, 3, none⟩ = some (.int .i64 s) ∧ w'.cell? ⟨w.heap.size, 4, none⟩ = some (.slice (some ⟨b1, o1, none⟩) n cap) ∧ w'.cell? ⟨b1, o1 + j, none⟩ = some (.string sj)) (go_keep)
                  (first | (go_at_call 130; refine (CS.out _).mono ?_; rintro e w3 ⟨rfl, b3⟩; have Y := Lib.hid (HX.out.later (undrew b3)); have y0 := Y.out.cells 0 _ rfl; have y1 := Y.out.cells 1 _ rfl; have y2 := Y.out.cells 2 _ rfl; have y3 := Y.out.cells 3 _ rfl; have y4 := Y.out.cells 4 _ rfl; have d := CC.out _ (undrew b3); have B3 := Lib.hid (HW.out.trans ((undrew b3).mono HW.out.size)); clear b3))
                all_goals
                  go_wp2
                  go_ret
                  rw [EH.out]
                  exact ⟨rfl, B3.out⟩
            · obtain rfl : j = n := by omega
              have EH := Lib.hid (MK.out HP.out)
              go_wp2
              go_ret
              rw [EH.out]
              exact ⟨rfl, HW.out⟩
        · have E : okW k m u s n S = false := okW_no fun h => h4 h.len
          have EH := Lib.hid E
          have q4 : ((n : Int) == k + m) = false := by simpa using h4
          obtain ⟨g1, g2, g3, g4⟩ := h1
          clear E h2 h4 ha
          go_enter Try.func98, Try.ntmps98
          go_wp2_with fail
          refine (HC.out _).mono ?_
          rintro e w1 ⟨rfl, b1⟩
          have X1 := XH.out.later b1
          have B1 := Lib.hid (chain LH.out b1)
          have x0 := X1.cells 0 _ rfl
          have x1 := X1.cells 1 _ rfl
          have x2 := X1.cells 2 _ rfl
          have x3 := X1.cells 3 _ rfl
          have x4 := X1.cells 4 _ rfl
          have X1H := Lib.hid X1
          clear b1 X1
          go_wp2_with fail
          refine (l00In u 1 8 _).mono ?_
          rintro e w2 ⟨rfl, rfl⟩
          rw [I2]
          go_wp2_with fail
          refine (l00In s 0 256 _).mono ?_
          rintro e w2 ⟨rfl, rfl⟩
          rw [I3]
          go_wp2
          go_ret
          rw [EH.out]
          exact ⟨rfl, B1.out⟩
      · have E : okW k m u s n S = false := okW_no fun h => h3 ⟨h.s0, h.s1⟩
        have EH := Lib.hid E
        have I3 : inB s 0 256 = false := decide_eq_false h3
        clear E h1 h2 h3 ha
        go_enter Try.func98, Try.ntmps98
        go_wp2_with fail
        refine (HC.out _).mono ?_
        rintro e w1 ⟨rfl, b1⟩
        have X1 := XH.out.later b1
        have B1 := Lib.hid (chain LH.out b1)
        have x0 := X1.cells 0 _ rfl
        have x1 := X1.cells 1 _ rfl
        have x2 := X1.cells 2 _ rfl
        have x3 := X1.cells 3 _ rfl
        have x4 := X1.cells 4 _ rfl
        have X1H := Lib.hid X1
        clear b1 X1
        go_wp2_with fail
        refine (l00In u 1 8 _).mono ?_
        rintro e w2 ⟨rfl, rfl⟩
        rw [I2]
        go_wp2_with fail
        refine (l00In s 0 256 _).mono ?_
        rintro e w2 ⟨rfl, rfl⟩
        rw [I3]
        go_wp2
        go_ret
        rw [EH.out]
        exact ⟨rfl, B1.out⟩
    · have I2 : inB u 1 8 = false := decide_eq_false h2
      have E : okW k m u s n S = false := okW_no fun h => h2 ⟨h.u0, h.u1⟩
      have EH := Lib.hid E
      clear E h1 h2 ha
      go_enter Try.func98, Try.ntmps98
      go_wp2_with fail
      refine (HC.out _).mono ?_
      rintro e w1 ⟨rfl, b1⟩
      have X1 := XH.out.later b1
      have B1 := Lib.hid (chain LH.out b1)
      have x0 := X1.cells 0 _ rfl
      have x1 := X1.cells 1 _ rfl
      have x2 := X1.cells 2 _ rfl
      have x3 := X1.cells 3 _ rfl
      have x4 := X1.cells 4 _ rfl
      have X1H := Lib.hid X1
      clear b1 X1
      go_wp2_with fail
      refine (l00In u 1 8 _).mono ?_
      rintro e w2 ⟨rfl, rfl⟩
      rw [I2]
      go_wp2
      go_ret
      rw [EH.out]
      exact ⟨rfl, B1.out⟩
  · have E : okW k m u s n S = false := okW_no fun h => h1 ⟨h.k0, h.k1, h.m0, h.m1⟩
    have EH := Lib.hid E
    rw [Cd.okC_no h1] at HC
    clear E h1 ha
    go_enter Try.func98, Try.ntmps98
    go_wp2_with fail
    refine (HC.out _).mono ?_
    rintro e w1 ⟨rfl, b1⟩
    have B1 := Lib.hid (chain LH.out b1)
    clear b1
    go_wp2
    go_ret
    rw [EH.out]
    exact ⟨rfl, B1.out⟩
end Go.Proofs.Ytmndkmkknkodhaa.Sg
