/-
  The exact law of FnExactIntervalsOk, given the model's answer and the program's (written by tools/gen/lawgen.py).
-/
import Derived.Test.YthimpcfodbmhkaaDInterval
import Derived.Test.YthimpcfodbmhkaaIvJ
import Derived.Deep.RegionHeld3
namespace Go.Proofs.Ythimpcfodbmhkaa.Rd
open Go.RowKit Go.ChangeShapes Go.WideShapes
open Go.Proofs.Ythimpcfodbmhkaa.Sg (BxN)
set_option linter.unusedVariables false
set_option linter.unusedSimpArgs false

set_option maxRecDepth 100000 in
set_option maxHeartbeats 4000000 in
theorem fnFnExactIntervalsOk (a0 : Option Addr) (cap0 : Nat) (d0 : List DInterval) (b : Bool) (w : World) (h0 : d0.length ≤ 9223372036854775807 ∧ Rows false 0 w a0 d0) (hS : Rdb.sz d0 ≤ 1048576 → ∀ (e0 : Option Addr) w' (k0 : Rows true 0 w' e0 d0), Calls Try.prog 30 #[.slice e0 d0.length d0.length] w' (RetW (.bool b) w')) (hI : Rdb.sz d0 ≤ 1048576 → ∀ (e0 : Option Addr) w' (k0 : Rows true 0 w' e0 d0), Calls Try.prog 32 #[.slice e0 d0.length d0.length] w' (RetW (.bool b) w')) :
    Calls Try.prog 8 #[.slice a0 d0.length cap0] w (RetW (.bool true) w) := by
  obtain ⟨g0, h0⟩ := h0
  have BH0 := Lib.hid (Below.refl w.heap.size w)
  have SZ0 := Lib.hid (fun (lf : Int) (p0 : 0 ≤ lf) (p1 : lf ≤ 2097152) w' (b : Below w.heap.size w w') => szIntervalS a0 cap0 d0 lf p0 p1 w' g0 (h0.below b))
  have CP0 := Lib.hid (fun (z : Rdb.sz d0 ≤ 2097152) w' (b : Below w.heap.size w w') => toIntervalS a0 cap0 d0 w' z (h0.below b))
  have EQ0 := Lib.hid (fun (z : Rdb.sz d0 ≤ 2097152) (p q : Option Addr) w' (k1 : Rows true 0 w' p d0) (k2 : Rows true 0 w' q d0) => eqIntervalS p q d0.length d0.length d0 w' z k1 k2)
  have HS := Lib.hid hS
  have HI := Lib.hid hI
  clear hS hI
  clear  h0
  generalize hs0 : Rdb.sz d0 = s0 at *
  clear hs0
  by_cases q0 : (s0 : Int) ≤ 1048576
  · skip
    go_enter Try.func8, Try.ntmps8
    have V0 := SZ0.out (1048576) (by omega) (by omega) _ BH0.out
    unfold SzB at V0
    rw [show szI (1048576) s0 = 1048576 - (s0 : Int) from szI_yes (by omega)] at V0
    have VH0 := Lib.hid V0
    clear V0
    go_wp2_with fail
    refine (VH0.out).mono ?_
    rintro e w1 ⟨rfl, b1⟩
    have BH1 := Lib.hid (chainX w BH0.out b1)
    have CPx := True.intro
    go_wp2_with fail
    refine (CP0.out (by omega) _ BH1.out).mono ?_
    rintro e w2 ⟨qs0, rfl, rs0, -, -, -, b2⟩
    have BH2 := Lib.hid (chainX w BH1.out b2)
    have RRs0_2 := Lib.hid (Rows.weak rs0 (Nat.zero_le _) id)
    clear rs0
    have ANS := Lib.hid (HS.out (by omega) (some ⟨qs0, 0, none⟩) _ RRs0_2.out)
    go_wp2_with fail
    refine (ANS.out).mono ?_
    rintro e w3 ⟨rfl, b3⟩
    have RRs0_3 := Lib.hid (Rows.below RRs0_2.out b3)
    have BH3 := Lib.hid (chainX w BH2.out b3)
    clear RRs0_2
    clear ANS
    go_wp2_with fail
    refine (CP0.out (by omega) _ BH3.out).mono ?_
    rintro e w4 ⟨qi0, rfl, ri0, -, -, -, b4⟩
    have BH4 := Lib.hid (chainX w BH3.out b4)
    have RRi0_4 := Lib.hid (Rows.weak ri0 (Nat.zero_le _) id)
    clear ri0
    have ANS := Lib.hid (HI.out (by omega) (some ⟨qi0, 0, none⟩) _ RRi0_4.out)
    go_wp2_with fail
    refine (ANS.out).mono ?_
    rintro e w5 ⟨rfl, b5⟩
    have RRi0_5 := Lib.hid (Rows.below RRi0_4.out b5)
    have BH5 := Lib.hid (chainX w BH4.out b5)
    clear RRi0_4
    clear ANS
    go_wp2_with fail
    refine (CP0.out (by omega) _ BH5.out).mono ?_
    rintro e w6 ⟨qe0, rfl, re0, -, -, -, b6⟩
    have RRi0_6 := Lib.hid (Rows.below RRi0_5.out b6)
    have BH6 := Lib.hid (chainX w BH5.out b6)
    clear RRi0_5
    have RRe0_6 := Lib.hid (Rows.weak re0 (Nat.zero_le _) id)
    clear re0
    have ANS := Lib.hid (EQ0.out (by omega) (some ⟨qi0, 0, none⟩) (some ⟨qe0, 0, none⟩) _ RRi0_6.out RRe0_6.out)
    go_wp2_with fail
    refine (ANS.out).mono ?_
    rintro e w7 ⟨rfl, b7⟩
    have RRi0_7 := Lib.hid (Rows.below RRi0_6.out b7)
    have RRe0_7 := Lib.hid (Rows.below RRe0_6.out b7)
    have BH7 := Lib.hid (chainX w BH6.out b7)
    clear RRi0_6 RRe0_6
    clear ANS
    all_goals
      go_wp2
      go_ret
      exact ⟨rfl, BH7.out⟩
  · skip
    go_enter Try.func8, Try.ntmps8
    have V0 := SZ0.out (1048576) (by omega) (by omega) _ BH0.out
    unfold SzB at V0
    rw [show szI (1048576) s0 = -1 from szI_no (by omega)] at V0
    have VH0 := Lib.hid V0
    clear V0
    go_wp2_with fail
    refine (VH0.out).mono ?_
    rintro e w1 ⟨rfl, b1⟩
    have BH1 := Lib.hid (chainX w BH0.out b1)
    go_wp2
    go_ret
    exact ⟨rfl, BH1.out⟩
end Go.Proofs.Ythimpcfodbmhkaa.Rd
