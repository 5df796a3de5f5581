/-
  The exact law of FnExactHeardEnough, given the model's answer and the program's (written by tools/gen/lawgen.py).
-/
import Derived.Test.YthimpcfodbmhkaaHenI
import Derived.Test.YthimpcfodbmhkaaHenS
import Derived.Deep.RegionHeld3
namespace Go.Proofs.Ythimpcfodbmhkaa.Rd
open Go.RowKit Go.ChangeShapes Go.WideShapes
open Go.Proofs.Ythimpcfodbmhkaa.Sg (BxN)
set_option linter.unusedVariables false
set_option linter.unusedSimpArgs false

set_option maxRecDepth 100000 in
set_option maxHeartbeats 4000000 in
theorem fnFnExactHeardEnough (a0 : Option Addr) (cap0 : Nat) (d0 : List DInterval) (x1 : Int) (x2 : Int) (a3 : Option Addr) (cap3 : Nat) (d3 : List Int) (b : Bool) (w : World) (h0 : d0.length ≤ 9223372036854775807 ∧ Rows false 0 w a0 d0) (h3 : d3.length ≤ 9223372036854775807 ∧ Rows false 0 w a3 d3) (hS : Rdb.sz d0 ≤ 1048576 → d3.length ≤ 1048576 → ∀ (e0 : Option Addr) (e3 : Option Addr) w' (k0 : Rows true 0 w' e0 d0) (k3 : Rows true 0 w' e3 d3), Calls Try.prog 51 #[.slice e0 d0.length d0.length, .int .i64 x1, .int .i64 x2, .slice e3 d3.length d3.length] w' (RetW (.bool b) w')) (hI : Rdb.sz d0 ≤ 1048576 → d3.length ≤ 1048576 → ∀ (e0 : Option Addr) (e3 : Option Addr) w' (k0 : Rows true 0 w' e0 d0) (k3 : Rows true 0 w' e3 d3), Calls Try.prog 52 #[.slice e0 d0.length d0.length, .int .i64 x1, .int .i64 x2, .slice e3 d3.length d3.length] w' (RetW (.bool b) w')) :
    Calls Try.prog 14 #[.slice a0 d0.length cap0, .int .i64 x1, .int .i64 x2, .slice a3 d3.length cap3] w (RetW (.bool true) w) := by
  obtain ⟨g0, h0⟩ := h0
  obtain ⟨g3, h3⟩ := h3
  have BH0 := Lib.hid (Below.refl w.heap.size w)
  have SZ0 := Lib.hid (fun (lf : Int) (p0 : 0 ≤ lf) (p1 : lf ≤ 2097152) w' (b : Below w.heap.size w w') => szIntervalS a0 cap0 d0 lf p0 p1 w' g0 (h0.below b))
  have CP0 := Lib.hid (fun (z : Rdb.sz d0 ≤ 2097152) w' (b : Below w.heap.size w w') => toIntervalS a0 cap0 d0 w' z (h0.below b))
  have EQ0 := Lib.hid (fun (z : Rdb.sz d0 ≤ 2097152) (p q : Option Addr) w' (k1 : Rows true 0 w' p d0) (k2 : Rows true 0 w' q d0) => eqIntervalS p q d0.length d0.length d0 w' z k1 k2)
  have ZL3 : Rdb.sz d3 = d3.length := sz_flat (fun _ => rfl) d3
  have CP3 := Lib.hid (fun (z : d3.length ≤ 2097152) w' (b : Below w.heap.size w w') => toInt64S a3 cap3 d3 w' (by rw [ZL3]; exact z) (h3.below b))
  have EQ3 := Lib.hid (fun (z : d3.length ≤ 2097152) (p q : Option Addr) w' (k1 : Rows true 0 w' p d3) (k2 : Rows true 0 w' q d3) => eqInt64S p q d3.length d3.length d3 w' (by rw [ZL3]; exact z) k1 k2)
  clear ZL3
  have HS := Lib.hid hS
  have HI := Lib.hid hI
  clear hS hI
  clear  h0 h3
  generalize hs0 : Rdb.sz d0 = s0 at *
  clear hs0
  by_cases l3 : d3.length ≤ 1048576
  · have dl3 : decide ((1048576 : Int) < (d3.length : Int)) = false := decide_eq_false (by omega)
    by_cases q0 : (s0 : Int) ≤ 1048576
    · skip
      go_enter Try.func14, Try.ntmps14
      have V0 := SZ0.out (1048576) (by omega) (by omega) _ BH0.out
      unfold SzB at V0
      rw [show szI (1048576) s0 = 1048576 - (s0 : Int) from szI_yes (by omega)] at V0
      have VH0 := Lib.hid V0
      clear V0
      go_wp2_with fail
      refine (VH0.out).mono ?_
      rintro e w1 ⟨rfl, b1⟩
      have BH1 := Lib.hid (chainX w BH0.out b1)
      have CPx := True.intro
      go_wp2_with fail
      refine (CP0.out (by omega) _ BH1.out).mono ?_
      rintro e w2 ⟨qs0, rfl, rs0, -, -, -, b2⟩
      have BH2 := Lib.hid (chainX w BH1.out b2)
      have RRs0_2 := Lib.hid (Rows.weak rs0 (Nat.zero_le _) id)
      clear rs0
      go_wp2_with fail
      refine (CP3.out (by omega) _ BH2.out).mono ?_
      rintro e w3 ⟨qs3, rfl, rs3, -, -, -, b3⟩
      have RRs0_3 := Lib.hid (Rows.below RRs0_2.out b3)
      have BH3 := Lib.hid (chainX w BH2.out b3)
      clear RRs0_2
      have RRs3_3 := Lib.hid (Rows.weak rs3 (Nat.zero_le _) id)
      clear rs3
      have ANS := Lib.hid (HS.out (by omega) (by omega) (some ⟨qs0, 0, none⟩) (some ⟨qs3, 0, none⟩) _ RRs0_3.out RRs3_3.out)
      go_wp2_with fail
      refine (ANS.out).mono ?_
      rintro e w4 ⟨rfl, b4⟩
      have RRs0_4 := Lib.hid (Rows.below RRs0_3.out b4)
      have RRs3_4 := Lib.hid (Rows.below RRs3_3.out b4)
      have BH4 := Lib.hid (chainX w BH3.out b4)
      clear RRs0_3 RRs3_3
      clear ANS
      go_wp2_with fail
      refine (CP0.out (by omega) _ BH4.out).mono ?_
      rintro e w5 ⟨qi0, rfl, ri0, -, -, -, b5⟩
      have BH5 := Lib.hid (chainX w BH4.out b5)
      have RRi0_5 := Lib.hid (Rows.weak ri0 (Nat.zero_le _) id)
      clear ri0
      go_wp2_with fail
      refine (CP3.out (by omega) _ BH5.out).mono ?_
      rintro e w6 ⟨qi3, rfl, ri3, -, -, -, b6⟩
      have RRi0_6 := Lib.hid (Rows.below RRi0_5.out b6)
      have BH6 := Lib.hid (chainX w BH5.out b6)
      clear RRi0_5
      have RRi3_6 := Lib.hid (Rows.weak ri3 (Nat.zero_le _) id)
      clear ri3
      have ANS := Lib.hid (HI.out (by omega) (by omega) (some ⟨qi0, 0, none⟩) (some ⟨qi3, 0, none⟩) _ RRi0_6.out RRi3_6.out)
      go_wp2_with fail
      refine (ANS.out).mono ?_
      rintro e w7 ⟨rfl, b7⟩
      have RRi0_7 := Lib.hid (Rows.below RRi0_6.out b7)
      have RRi3_7 := Lib.hid (Rows.below RRi3_6.out b7)
      have BH7 := Lib.hid (chainX w BH6.out b7)
      clear RRi0_6 RRi3_6
      clear ANS
      go_wp2_with fail
      refine (CP0.out (by omega) _ BH7.out).mono ?_
      rintro e w8 ⟨qe0, rfl, re0, -, -, -, b8⟩
      have RRi0_8 := Lib.hid (Rows.below RRi0_7.out b8)
      have RRi3_8 := Lib.hid (Rows.below RRi3_7.out b8)
      have BH8 := Lib.hid (chainX w BH7.out b8)
      clear RRi0_7 RRi3_7
      have RRe0_8 := Lib.hid (Rows.weak re0 (Nat.zero_le _) id)
      clear re0
      have ANS := Lib.hid (EQ0.out (by omega) (some ⟨qi0, 0, none⟩) (some ⟨qe0, 0, none⟩) _ RRi0_8.out RRe0_8.out)
      go_wp2_with fail
      refine (ANS.out).mono ?_
      rintro e w9 ⟨rfl, b9⟩
      have RRi0_9 := Lib.hid (Rows.below RRi0_8.out b9)
      have RRi3_9 := Lib.hid (Rows.below RRi3_8.out b9)
      have RRe0_9 := Lib.hid (Rows.below RRe0_8.out b9)
      have BH9 := Lib.hid (chainX w BH8.out b9)
      clear RRi0_8 RRi3_8 RRe0_8
      clear ANS
      go_wp2_with fail
      refine (CP3.out (by omega) _ BH9.out).mono ?_
      rintro e w10 ⟨qe3, rfl, re3, -, -, -, b10⟩
      have RRi0_10 := Lib.hid (Rows.below RRi0_9.out b10)
      have RRi3_10 := Lib.hid (Rows.below RRi3_9.out b10)
      have BH10 := Lib.hid (chainX w BH9.out b10)
      clear RRi0_9 RRi3_9
      have RRe3_10 := Lib.hid (Rows.weak re3 (Nat.zero_le _) id)
      clear re3
      have ANS := Lib.hid (EQ3.out (by omega) (some ⟨qi3, 0, none⟩) (some ⟨qe3, 0, none⟩) _ RRi3_10.out RRe3_10.out)
      go_wp2_with fail
      refine (ANS.out).mono ?_
      rintro e w11 ⟨rfl, b11⟩
      have RRi0_11 := Lib.hid (Rows.below RRi0_10.out b11)
      have RRi3_11 := Lib.hid (Rows.below RRi3_10.out b11)
      have RRe3_11 := Lib.hid (Rows.below RRe3_10.out b11)
      have BH11 := Lib.hid (chainX w BH10.out b11)
      clear RRi0_10 RRi3_10 RRe3_10
      clear ANS
      all_goals
        go_wp2
        go_ret
        exact ⟨rfl, BH11.out⟩
    · skip
      go_enter Try.func14, Try.ntmps14
      have V0 := SZ0.out (1048576) (by omega) (by omega) _ BH0.out
      unfold SzB at V0
      rw [show szI (1048576) s0 = -1 from szI_no (by omega)] at V0
      have VH0 := Lib.hid V0
      clear V0
      go_wp2_with fail
      refine (VH0.out).mono ?_
      rintro e w1 ⟨rfl, b1⟩
      have BH1 := Lib.hid (chainX w BH0.out b1)
      go_wp2
      go_ret
      exact ⟨rfl, BH1.out⟩
  · have dl3 : decide ((1048576 : Int) < (d3.length : Int)) = true := decide_eq_true (by omega)
    go_enter Try.func14, Try.ntmps14
    go_wp2
    go_ret
    exact ⟨rfl, BH0.out⟩
end Go.Proofs.Ythimpcfodbmhkaa.Rd
