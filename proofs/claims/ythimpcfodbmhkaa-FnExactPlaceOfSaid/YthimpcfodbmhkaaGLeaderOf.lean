/-
  The exact law of FnExactLeaderOf, given the model's answer and the program's (written by tools/gen/lawgen.py).
-/
import Derived.Test.YthimpcfodbmhkaaRdI
import Derived.Test.YthimpcfodbmhkaaActJ
import Derived.Deep.RegionHeld3
namespace Go.Proofs.Ythimpcfodbmhkaa.Rd
open Go.RowKit Go.ChangeShapes Go.WideShapes
open Go.Proofs.Ythimpcfodbmhkaa.Sg (BxN)
set_option linter.unusedVariables false
set_option linter.unusedSimpArgs false

set_option maxRecDepth 100000 in
set_option maxHeartbeats 4000000 in
theorem fnFnExactLeaderOf (a0 : Option Addr) (cap0 : Nat) (d0 : List Int) (r : Int) (w : World) (h0 : d0.length ≤ 9223372036854775807 ∧ Rows false 0 w a0 d0) (hS : d0.length ≤ 1048576 → ∀ (e0 : Option Addr) w' (k0 : Rows true 0 w' e0 d0), Calls Try.prog 21 #[.slice e0 d0.length d0.length] w' (RetW (.int .i64 r) w')) (hI : d0.length ≤ 1048576 → ∀ (e0 : Option Addr) w' (k0 : Rows true 0 w' e0 d0), Calls Try.prog 22 #[.slice e0 d0.length d0.length] w' (RetW (.int .i64 r) w')) :
    Calls Try.prog 5 #[.slice a0 d0.length cap0] w (RetW (.bool true) w) := by
  obtain ⟨g0, h0⟩ := h0
  have BH0 := Lib.hid (Below.refl w.heap.size w)
  have ZL0 : Rdb.sz d0 = d0.length := sz_flat (fun _ => rfl) d0
  have CP0 := Lib.hid (fun (z : d0.length ≤ 2097152) w' (b : Below w.heap.size w w') => toInt64S a0 cap0 d0 w' (by rw [ZL0]; exact z) (h0.below b))
  have EQ0 := Lib.hid (fun (z : d0.length ≤ 2097152) (p q : Option Addr) w' (k1 : Rows true 0 w' p d0) (k2 : Rows true 0 w' q d0) => eqInt64S p q d0.length d0.length d0 w' (by rw [ZL0]; exact z) k1 k2)
  clear ZL0
  have HS := Lib.hid hS
  have HI := Lib.hid hI
  clear hS hI
  clear  h0
  by_cases l0 : d0.length ≤ 1048576
  · have dl0 : decide ((1048576 : Int) < (d0.length : Int)) = false := decide_eq_false (by omega)
    go_enter Try.func5, Try.ntmps5
    have CPx := True.intro
    go_wp2_with fail
    refine (CP0.out (by omega) _ BH0.out).mono ?_
    rintro e w1 ⟨qs0, rfl, rs0, -, -, -, b1⟩
    have BH1 := Lib.hid (chainX w BH0.out b1)
    have RRs0_1 := Lib.hid (Rows.weak rs0 (Nat.zero_le _) id)
    clear rs0
    have ANS := Lib.hid (HS.out (by omega) (some ⟨qs0, 0, none⟩) _ RRs0_1.out)
    go_wp2_with fail
    refine (ANS.out).mono ?_
    rintro e w2 ⟨rfl, b2⟩
    have RRs0_2 := Lib.hid (Rows.below RRs0_1.out b2)
    have BH2 := Lib.hid (chainX w BH1.out b2)
    clear RRs0_1
    clear ANS
    go_wp2_with fail
    refine (CP0.out (by omega) _ BH2.out).mono ?_
    rintro e w3 ⟨qi0, rfl, ri0, -, -, -, b3⟩
    have BH3 := Lib.hid (chainX w BH2.out b3)
    have RRi0_3 := Lib.hid (Rows.weak ri0 (Nat.zero_le _) id)
    clear ri0
    have ANS := Lib.hid (HI.out (by omega) (some ⟨qi0, 0, none⟩) _ RRi0_3.out)
    go_wp2_with fail
    refine (ANS.out).mono ?_
    rintro e w4 ⟨rfl, b4⟩
    have RRi0_4 := Lib.hid (Rows.below RRi0_3.out b4)
    have BH4 := Lib.hid (chainX w BH3.out b4)
    clear RRi0_3
    clear ANS
    go_wp2_with fail
    refine (CP0.out (by omega) _ BH4.out).mono ?_
    rintro e w5 ⟨qe0, rfl, re0, -, -, -, b5⟩
    have RRi0_5 := Lib.hid (Rows.below RRi0_4.out b5)
    have BH5 := Lib.hid (chainX w BH4.out b5)
    clear RRi0_4
    have RRe0_5 := Lib.hid (Rows.weak re0 (Nat.zero_le _) id)
    clear re0
    have ANS := Lib.hid (EQ0.out (by omega) (some ⟨qi0, 0, none⟩) (some ⟨qe0, 0, none⟩) _ RRi0_5.out RRe0_5.out)
    go_wp2_with fail
    refine (ANS.out).mono ?_
    rintro e w6 ⟨rfl, b6⟩
    have RRi0_6 := Lib.hid (Rows.below RRi0_5.out b6)
    have RRe0_6 := Lib.hid (Rows.below RRe0_5.out b6)
    have BH6 := Lib.hid (chainX w BH5.out b6)
    clear RRi0_5 RRe0_5
    clear ANS
    all_goals
      go_wp2
      go_ret
      exact ⟨rfl, BH6.out⟩
  · have dl0 : decide ((1048576 : Int) < (d0.length : Int)) = true := decide_eq_true (by omega)
    go_enter Try.func5, Try.ntmps5
    go_wp2
    go_ret
    exact ⟨rfl, BH0.out⟩
end Go.Proofs.Ythimpcfodbmhkaa.Rd
