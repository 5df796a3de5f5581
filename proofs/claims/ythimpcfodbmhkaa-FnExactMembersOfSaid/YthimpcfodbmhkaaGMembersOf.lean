/-
  The exact law of FnExactMembersOf, given the model's answer and the program's (written by tools/gen/lawgen.py).
-/
import Derived.Test.YthimpcfodbmhkaaAns
import Derived.Test.YthimpcfodbmhkaaActK
import Derived.Deep.RegionHeld3
namespace Go.Proofs.Ythimpcfodbmhkaa.Rd
open Go.RowKit Go.ChangeShapes Go.WideShapes
open Go.Proofs.Ythimpcfodbmhkaa.Sg (BxN)
set_option linter.unusedVariables false
set_option linter.unusedSimpArgs false

set_option maxRecDepth 100000 in
set_option maxHeartbeats 4000000 in
theorem fnFnExactMembersOf (a0 : Option Addr) (cap0 : Nat) (d0 : List Int) (r : List Int) (hr : r.length ≤ 2097152) (w : World) (h0 : d0.length ≤ 9223372036854775807 ∧ Rows false 0 w a0 d0) (hS : d0.length ≤ 1048576 → ∀ (e0 : Option Addr) w' (k0 : Rows true 0 w' e0 d0), Calls Try.prog 25 #[.slice e0 d0.length d0.length] w' (AnsR r w')) (hI : d0.length ≤ 1048576 → ∀ (e0 : Option Addr) w' (k0 : Rows true 0 w' e0 d0), Calls Try.prog 26 #[.slice e0 d0.length d0.length] w' (AnsI r w')) :
    Calls Try.prog 7 #[.slice a0 d0.length cap0] w (RetW (.bool true) w) := by
  obtain ⟨g0, h0⟩ := h0
  have BH0 := Lib.hid (Below.refl w.heap.size w)
  have ZL0 : Rdb.sz d0 = d0.length := sz_flat (fun _ => rfl) d0
  have CP0 := Lib.hid (fun (z : d0.length ≤ 2097152) w' (b : Below w.heap.size w w') => toInt64S a0 cap0 d0 w' (by rw [ZL0]; exact z) (h0.below b))
  have EQ0 := Lib.hid (fun (z : d0.length ≤ 2097152) (p q : Option Addr) w' (k1 : Rows true 0 w' p d0) (k2 : Rows true 0 w' q d0) => eqInt64S p q d0.length d0.length d0 w' (by rw [ZL0]; exact z) k1 k2)
  clear ZL0
  have HS := Lib.hid hS
  have HI := Lib.hid hI
  clear hS hI
  obtain ⟨mm, hmm⟩ : ∃ mm : Int, mm = 1 + (r.length : Int) := ⟨_, rfl⟩
  have EQA := Lib.hid (fun (p q : Option Addr) (c1 c2 : Nat) W {fr fr2 : Bool} {lo lo2 : Nat} (k1 : Rows fr lo W p r) (k2 : Rows fr2 lo2 W q r) => eqAns p q c1 c2 r W hr k1 k2)
  have MKG := Lib.hid (fun (p : Option Addr) (c1 lo : Nat) W (k1 : GOne lo W p r) => markG1 p c1 r mm hmm lo W hr k1)
  have HLD := Lib.hid (fun (p : Option Addr) (c1 lo : Nat) W (k1 : Rows true lo W p ((List.range r.length).map (mkInt 1))) => heldG1 p c1 r mm hmm lo W hr k1)
  have dm := (decide_eq_false (by omega) : decide (mm < 0) = false)
  have dm2 : (mm != mm) = false := by simp
  clear hmm
  clear  h0
  by_cases l0 : d0.length ≤ 1048576
  · have dl0 : decide ((1048576 : Int) < (d0.length : Int)) = false := decide_eq_false (by omega)
    go_enter Try.func7, Try.ntmps7
    have CPx := True.intro
    go_wp2_with fail
    refine (CP0.out (by omega) _ BH0.out).mono ?_
    rintro e w1 ⟨qs0, rfl, rs0, -, -, -, b1⟩
    have BH1 := Lib.hid (chainX w BH0.out b1)
    have RRs0_1 := Lib.hid (Rows.weak rs0 (Nat.zero_le _) id)
    clear rs0
    have ANS := Lib.hid (HS.out (by omega) (some ⟨qs0, 0, none⟩) _ RRs0_1.out)
    go_wp2_with fail
    refine (ANS.out).mono ?_
    rintro e w2 ⟨aw, cw, rfl, kw, b2⟩
    have RRs0_2 := Lib.hid (Rows.below RRs0_1.out b2)
    have BH2 := Lib.hid (chainX w BH1.out b2)
    clear RRs0_1
    clear ANS
    have RA := Lib.hid kw
    clear kw
    have BA_2 := Lib.hid (Below.refl w2.heap.size w2)
    have WA := Lib.hid (BH2.out.size)
    have LAi0 := Lib.hid BA_2.out.size
    go_wp2_with fail
    refine (CP0.out (by omega) _ BH2.out).mono ?_
    rintro e w3 ⟨qi0, rfl, ri0, loi0, lti0, -, b3⟩
    have BA_3 := Lib.hid (chainX w2 BA_2.out b3)
    have BH3 := Lib.hid (chainX w BH2.out b3)
    clear BA_2
    have QAi0 := Lib.hid (Nat.le_trans LAi0.out loi0)
    have QTi0_3 := Lib.hid lti0
    clear loi0 lti0
    have RRi0_3 := Lib.hid (Rows.weak ri0 (Nat.zero_le _) id)
    clear ri0
    have LC := Lib.hid BA_3.out.size
    have QCi0 := QTi0_3
    have ANS := Lib.hid (HI.out (by omega) (some ⟨qi0, 0, none⟩) _ RRi0_3.out)
    go_wp2_with fail
    refine (ANS.out).mono ?_
    rintro e w4 ⟨ag, cg, rfl, kg, b4⟩
    have BA_4 := Lib.hid (chainX w2 BA_3.out b4)
    have QTi0_4 := Lib.hid (ltL QTi0_3.out b4)
    have RRi0_4 := Lib.hid (Rows.below RRi0_3.out b4)
    have BH4 := Lib.hid (chainX w BH3.out b4)
    clear BA_3 QTi0_3 RRi0_3
    clear ANS
    have RG_4 := Lib.hid kg
    clear kg
    have GLE_4 := Lib.hid b4.size
    go_wp2_with fail
    refine (EQA.out ag aw cg cw _ RG_4.out.rows (RA.out.below BA_4.out)).mono ?_
    rintro e w5 ⟨rfl, b5⟩
    have BA_5 := Lib.hid (chainX w2 BA_4.out b5)
    have QTi0_5 := Lib.hid (ltL QTi0_4.out b5)
    have RRi0_5 := Lib.hid (Rows.below RRi0_4.out b5)
    have GLE_5 := Lib.hid (leL GLE_4.out b5)
    have RG_5 := Lib.hid (GOne.below RG_4.out b5)
    have BH5 := Lib.hid (chainX w BH4.out b5)
    clear BA_4 QTi0_4 RRi0_4 GLE_4 RG_4
    go_wp2_with fail
    refine (CP0.out (by omega) _ BH5.out).mono ?_
    rintro e w6 ⟨qe0, rfl, re0, -, -, -, b6⟩
    have BA_6 := Lib.hid (chainX w2 BA_5.out b6)
    have QTi0_6 := Lib.hid (ltL QTi0_5.out b6)
    have RRi0_6 := Lib.hid (Rows.below RRi0_5.out b6)
    have GLE_6 := Lib.hid (leL GLE_5.out b6)
    have RG_6 := Lib.hid (GOne.below RG_5.out b6)
    have BH6 := Lib.hid (chainX w BH5.out b6)
    clear BA_5 QTi0_5 RRi0_5 GLE_5 RG_5
    have RRe0_6 := Lib.hid (Rows.weak re0 (Nat.zero_le _) id)
    clear re0
    have ANS := Lib.hid (EQ0.out (by omega) (some ⟨qi0, 0, none⟩) (some ⟨qe0, 0, none⟩) _ RRi0_6.out RRe0_6.out)
    go_wp2_with fail
    refine (ANS.out).mono ?_
    rintro e w7 ⟨rfl, b7⟩
    have BA_7 := Lib.hid (chainX w2 BA_6.out b7)
    have QTi0_7 := Lib.hid (ltL QTi0_6.out b7)
    have RRi0_7 := Lib.hid (Rows.below RRi0_6.out b7)
    have GLE_7 := Lib.hid (leL GLE_6.out b7)
    have RG_7 := Lib.hid (GOne.below RG_6.out b7)
    have RRe0_7 := Lib.hid (Rows.below RRe0_6.out b7)
    have BH7 := Lib.hid (chainX w BH6.out b7)
    clear BA_6 QTi0_6 RRi0_6 GLE_6 RG_6 RRe0_6
    clear ANS
    clear HS
    have MK := Lib.hid (markI qi0 d0.length d0 (1) 0 _ (by omega) (by omega) (by omega) RRi0_7.out)
    go_wp2_with fail
    refine MK.out.mono ?_
    rintro e w8 ⟨ki0, rfl, ki0a, ki0b, CX⟩
    have BL := CX.below (Nat.le_of_lt QTi0_7.out)
    have BA_8 := Lib.hid (BA_7.out.trans (BL.mono QAi0.out))
    have BH8 := Lib.hid (BH7.out.trans (BL.mono (Nat.le_trans WA.out QAi0.out)))
    clear BL
    have RG_8 := Lib.hid (GOne.high RG_7.out QCi0.out CX)
    have GLE_8 := Lib.hid (Nat.le_trans GLE_7.out CX.size)
    clear MK CX
    have dk := (decide_eq_false (by omega) : decide ((ki0 : Int) < 0) = false)
    go_wp2_with fail
    refine (EQA.out ag aw cg cw _ RG_8.out.rows (RA.out.below BA_8.out)).mono ?_
    rintro e w9 ⟨rfl, b9⟩
    have BA_9 := Lib.hid (chainX w2 BA_8.out b9)
    have GLE_9 := Lib.hid (leL GLE_8.out b9)
    have RG_9 := Lib.hid (GOne.below RG_8.out b9)
    have BH9 := Lib.hid (chainX w BH8.out b9)
    clear BA_8 GLE_8 RG_8
    have MG := Lib.hid (MKG.out ag cg _ _ RG_9.out)
    go_wp2_with fail
    refine MG.out.mono ?_
    rintro e w10 ⟨rfl, rm, CX⟩
    have BL := CX.below GLE_9.out
    have BA_10 := Lib.hid (BA_9.out.trans (BL.mono LC.out))
    have BH10 := Lib.hid (BH9.out.trans (BL.mono (Nat.le_trans WA.out LC.out)))
    clear BL
    have RK_10 := Lib.hid rm
    clear rm CX MG
    go_wp2_with fail
    refine (HLD.out ag cg _ _ RK_10.out).mono ?_
    rintro e w11 ⟨rfl, b11⟩
    have BA_11 := Lib.hid (chainX w2 BA_10.out b11)
    have RK_11 := Lib.hid (Rows.below RK_10.out b11)
    have BH11 := Lib.hid (chainX w BH10.out b11)
    clear BA_10 RK_10
    go_wp2_with fail
    refine (CP0.out (by omega) _ BH11.out).mono ?_
    rintro e w12 ⟨qh0, rfl, rh0, -, -, -, b12⟩
    have BA_12 := Lib.hid (chainX w2 BA_11.out b12)
    have RK_12 := Lib.hid (Rows.below RK_11.out b12)
    have BH12 := Lib.hid (chainX w BH11.out b12)
    clear BA_11 RK_11
    have RRh0_12 := Lib.hid (Rows.weak rh0 (Nat.zero_le _) id)
    clear rh0
    have ANS := Lib.hid (HI.out (by omega) (some ⟨qh0, 0, none⟩) _ RRh0_12.out)
    go_wp2_with fail
    refine (ANS.out).mono ?_
    rintro e w13 ⟨ah, ch, rfl, kh, b13⟩
    have BA_13 := Lib.hid (chainX w2 BA_12.out b13)
    have RK_13 := Lib.hid (Rows.below RK_12.out b13)
    have RRh0_13 := Lib.hid (Rows.below RRh0_12.out b13)
    have BH13 := Lib.hid (chainX w BH12.out b13)
    clear BA_12 RK_12 RRh0_12
    clear ANS
    have RH_13 := Lib.hid kh
    clear kh
    go_wp2_with fail
    refine (EQA.out ah aw ch cw _ RH_13.out.rows (RA.out.below BA_13.out)).mono ?_
    rintro e w14 ⟨rfl, b14⟩
    have BA_14 := Lib.hid (chainX w2 BA_13.out b14)
    have RK_14 := Lib.hid (Rows.below RK_13.out b14)
    have RRh0_14 := Lib.hid (Rows.below RRh0_13.out b14)
    have BH14 := Lib.hid (chainX w BH13.out b14)
    clear BA_13 RK_13 RRh0_13
    go_wp2_with fail
    refine (HLD.out ag cg _ _ RK_14.out).mono ?_
    rintro e w15 ⟨rfl, b15⟩
    have BA_15 := Lib.hid (chainX w2 BA_14.out b15)
    have RK_15 := Lib.hid (Rows.below RK_14.out b15)
    have RRh0_15 := Lib.hid (Rows.below RRh0_14.out b15)
    have BH15 := Lib.hid (chainX w BH14.out b15)
    clear BA_14 RK_14 RRh0_14
    all_goals
      go_wp2
      go_ret
      exact ⟨rfl, BH15.out⟩
  · have dl0 : decide ((1048576 : Int) < (d0.length : Int)) = true := decide_eq_true (by omega)
    go_enter Try.func7, Try.ntmps7
    go_wp2
    go_ret
    exact ⟨rfl, BH0.out⟩
end Go.Proofs.Ythimpcfodbmhkaa.Rd
