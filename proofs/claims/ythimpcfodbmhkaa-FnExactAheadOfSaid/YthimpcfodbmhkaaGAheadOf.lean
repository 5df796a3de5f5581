/-
  The exact law of FnExactAheadOf, given the model's answer and the program's (written by tools/gen/lawgen.py).
-/
import Derived.Test.YthimpcfodbmhkaaAnsV
import Derived.Test.YthimpcfodbmhkaaAns
import Derived.Test.YthimpcfodbmhkaaMInterval
import Derived.Deep.RegionHeld3
namespace Go.Proofs.Ythimpcfodbmhkaa.Rd
open Go.RowKit Go.ChangeShapes Go.WideShapes
open Go.Proofs.Ythimpcfodbmhkaa.Sg (BxN)
set_option linter.unusedVariables false
set_option linter.unusedSimpArgs false

set_option maxRecDepth 100000 in
set_option maxHeartbeats 4000000 in
theorem fnFnExactAheadOf (a0 : Option Addr) (cap0 : Nat) (d0 : List DInterval) (x1 : Int) (r : List DInterval) (hr : Rdb.sz r ≤ 2097152) (w : World) (h0 : d0.length ≤ 9223372036854775807 ∧ Rows false 0 w a0 d0) (hS : Rdb.sz d0 ≤ 1048576 → ∀ (e0 : Option Addr) w' (k0 : Rows true 0 w' e0 d0), Calls Try.prog 40 #[.slice e0 d0.length d0.length, .int .i64 x1] w' (AnsV r w')) (hI : Rdb.sz d0 ≤ 1048576 → ∀ (e0 : Option Addr) w' (k0 : Rows true 0 w' e0 d0), Calls Try.prog 41 #[.slice e0 d0.length d0.length, .int .i64 x1] w' (AnsV r w')) :
    Calls Try.prog 10 #[.slice a0 d0.length cap0, .int .i64 x1] w (RetW (.bool true) w) := by
  obtain ⟨g0, h0⟩ := h0
  have BH0 := Lib.hid (Below.refl w.heap.size w)
  have SZ0 := Lib.hid (fun (lf : Int) (p0 : 0 ≤ lf) (p1 : lf ≤ 2097152) w' (b : Below w.heap.size w w') => szIntervalS a0 cap0 d0 lf p0 p1 w' g0 (h0.below b))
  have CP0 := Lib.hid (fun (z : Rdb.sz d0 ≤ 2097152) w' (b : Below w.heap.size w w') => toIntervalS a0 cap0 d0 w' z (h0.below b))
  have EQ0 := Lib.hid (fun (z : Rdb.sz d0 ≤ 2097152) (p q : Option Addr) w' (k1 : Rows true 0 w' p d0) (k2 : Rows true 0 w' q d0) => eqIntervalS p q d0.length d0.length d0 w' z k1 k2)
  have HS := Lib.hid hS
  have HI := Lib.hid hI
  clear hS hI
  have mmb := (mkE_bnd 1 r).1
  obtain ⟨mm, hmm⟩ : ∃ mm : Int, mm = mkE 1 r := ⟨_, rfl⟩
  rw [← hmm] at mmb
  have MKC0 := Lib.hid (fun (z : Rdb.sz d0 ≤ 2097152) (a : Option Addr) (cap : Nat) (kk : Int) (lo : Nat) (v W : World) k0 k1 h hs hz => markIntervalSB a cap d0 kk lo v W z k0 k1 h hs hz)
  have EQA := Lib.hid (fun (p q : Option Addr) (c1 c2 : Nat) W {fr fr2 : Bool} {lo lo2 : Nat} (k1 : Rows fr lo W p r) (k2 : Rows fr2 lo2 W q r) => eqIntervalS p q c1 c2 r W hr k1 k2)
  have MKG := Lib.hid (fun (p : Option Addr) (c1 lo : Nat) W (k1 : OwnV lo W (.slice p r.length c1) r) => markV1 p c1 r mm hmm lo W hr k1)
  have HLD := Lib.hid (fun (p : Option Addr) (c1 lo : Nat) W (k1 : Rows true lo W p (mkL 1 r)) => heldV1 p c1 r mm hmm lo W hr k1)
  have dm := (decide_eq_false (by omega) : decide (mm < 0) = false)
  have dm2 : (mm != mm) = false := by simp
  clear hmm
  clear  h0
  generalize hs0 : Rdb.sz d0 = s0 at *
  clear hs0
  by_cases q0 : (s0 : Int) ≤ 1048576
  · skip
    go_enter Try.func10, Try.ntmps10
    have V0 := SZ0.out (1048576) (by omega) (by omega) _ BH0.out
    unfold SzB at V0
    rw [show szI (1048576) s0 = 1048576 - (s0 : Int) from szI_yes (by omega)] at V0
    have VH0 := Lib.hid V0
    clear V0
    go_wp2_with fail
    refine (VH0.out).mono ?_
    rintro e w1 ⟨rfl, b1⟩
    have BH1 := Lib.hid (chainX w BH0.out b1)
    have CPx := True.intro
    go_wp2_with fail
    refine (CP0.out (by omega) _ BH1.out).mono ?_
    rintro e w2 ⟨qs0, rfl, rs0, -, -, -, b2⟩
    have BH2 := Lib.hid (chainX w BH1.out b2)
    have RRs0_2 := Lib.hid (Rows.weak rs0 (Nat.zero_le _) id)
    clear rs0
    have ANS := Lib.hid (HS.out (by omega) (some ⟨qs0, 0, none⟩) _ RRs0_2.out)
    go_wp2_with fail
    refine (ANS.out).mono ?_
    rintro e w3 ⟨aw, cw, rfl, kw, b3⟩
    have RRs0_3 := Lib.hid (Rows.below RRs0_2.out b3)
    have BH3 := Lib.hid (chainX w BH2.out b3)
    clear RRs0_2
    clear ANS
    have RA := Lib.hid (OwnV.rows kw).2
    clear kw
    have BA_3 := Lib.hid (Below.refl w3.heap.size w3)
    have WA := Lib.hid (BH3.out.size)
    have LAi0 := Lib.hid BA_3.out.size
    go_wp2_with fail
    refine (CP0.out (by omega) _ BH3.out).mono ?_
    rintro e w4 ⟨qi0, rfl, ri0, loi0, lti0, -, b4⟩
    have BA_4 := Lib.hid (chainX w3 BA_3.out b4)
    have BH4 := Lib.hid (chainX w BH3.out b4)
    clear BA_3
    have ZLEi0 := Lib.hid b4.size
    have QAi0 := LAi0
    have BVi0_4 := Lib.hid (Below.refl w4.heap.size w4)
    have RMi0 := Lib.hid ri0
    clear loi0 lti0
    have RRi0_4 := Lib.hid (Rows.weak ri0 (Nat.zero_le _) id)
    clear ri0
    have LC := Lib.hid BA_4.out.size
    have VCi0 := Lib.hid BVi0_4.out.size
    have ANS := Lib.hid (HI.out (by omega) (some ⟨qi0, 0, none⟩) _ RRi0_4.out)
    go_wp2_with fail
    refine (ANS.out).mono ?_
    rintro e w5 ⟨ag, cg, rfl, kg, b5⟩
    have BA_5 := Lib.hid (chainX w3 BA_4.out b5)
    have BVi0_5 := Lib.hid (chainX w4 BVi0_4.out b5)
    have RRi0_5 := Lib.hid (Rows.below RRi0_4.out b5)
    have BH5 := Lib.hid (chainX w BH4.out b5)
    clear BA_4 BVi0_4 RRi0_4
    clear ANS
    have RG_5 := Lib.hid kg
    clear kg
    have GLE_5 := Lib.hid b5.size
    go_wp2_with fail
    refine (EQA.out ag aw cg cw _ (OwnV.rows RG_5.out).2 (RA.out.below BA_5.out)).mono ?_
    rintro e w6 ⟨rfl, b6⟩
    have BA_6 := Lib.hid (chainX w3 BA_5.out b6)
    have BVi0_6 := Lib.hid (chainX w4 BVi0_5.out b6)
    have RRi0_6 := Lib.hid (Rows.below RRi0_5.out b6)
    have GLE_6 := Lib.hid (leL GLE_5.out b6)
    have RG_6 := Lib.hid (OwnV.below RG_5.out b6)
    have BH6 := Lib.hid (chainX w BH5.out b6)
    clear BA_5 BVi0_5 RRi0_5 GLE_5 RG_5
    go_wp2_with fail
    refine (CP0.out (by omega) _ BH6.out).mono ?_
    rintro e w7 ⟨qe0, rfl, re0, -, -, -, b7⟩
    have BA_7 := Lib.hid (chainX w3 BA_6.out b7)
    have BVi0_7 := Lib.hid (chainX w4 BVi0_6.out b7)
    have RRi0_7 := Lib.hid (Rows.below RRi0_6.out b7)
    have GLE_7 := Lib.hid (leL GLE_6.out b7)
    have RG_7 := Lib.hid (OwnV.below RG_6.out b7)
    have BH7 := Lib.hid (chainX w BH6.out b7)
    clear BA_6 BVi0_6 RRi0_6 GLE_6 RG_6
    have RRe0_7 := Lib.hid (Rows.weak re0 (Nat.zero_le _) id)
    clear re0
    have ANS := Lib.hid (EQ0.out (by omega) (some ⟨qi0, 0, none⟩) (some ⟨qe0, 0, none⟩) _ RRi0_7.out RRe0_7.out)
    go_wp2_with fail
    refine (ANS.out).mono ?_
    rintro e w8 ⟨rfl, b8⟩
    have BA_8 := Lib.hid (chainX w3 BA_7.out b8)
    have BVi0_8 := Lib.hid (chainX w4 BVi0_7.out b8)
    have RRi0_8 := Lib.hid (Rows.below RRi0_7.out b8)
    have GLE_8 := Lib.hid (leL GLE_7.out b8)
    have RG_8 := Lib.hid (OwnV.below RG_7.out b8)
    have RRe0_8 := Lib.hid (Rows.below RRe0_7.out b8)
    have BH8 := Lib.hid (chainX w BH7.out b8)
    clear BA_7 BVi0_7 RRi0_7 GLE_7 RG_7 RRe0_7
    clear ANS
    clear HS
    have MK := Lib.hid (MKC0.out (by omega) (some ⟨qi0, 0, none⟩) d0.length (1) w3.heap.size w4 _ (by omega) (by omega) RMi0.out (Shadow.of BVi0_8.out) BVi0_8.out.size)
    go_wp2_with fail
    refine MK.out.mono ?_
    rintro e w9 ⟨ki0, rfl, ki0a, ki0b, CX⟩
    have BL := CX.below (Nat.le_trans ZLEi0.out BVi0_8.out.size)
    have BA_9 := Lib.hid (BA_8.out.trans (BL.mono QAi0.out))
    have BH9 := Lib.hid (BH8.out.trans (BL.mono (Nat.le_trans WA.out QAi0.out)))
    clear BL
    have RG_9 := Lib.hid (OwnV.high RG_8.out VCi0.out CX)
    have GLE_9 := Lib.hid (Nat.le_trans GLE_8.out CX.size)
    clear MK CX
    have dk := (decide_eq_false (by omega) : decide ((ki0 : Int) < 0) = false)
    go_wp2_with fail
    refine (EQA.out ag aw cg cw _ (OwnV.rows RG_9.out).2 (RA.out.below BA_9.out)).mono ?_
    rintro e w10 ⟨rfl, b10⟩
    have BA_10 := Lib.hid (chainX w3 BA_9.out b10)
    have GLE_10 := Lib.hid (leL GLE_9.out b10)
    have RG_10 := Lib.hid (OwnV.below RG_9.out b10)
    have BH10 := Lib.hid (chainX w BH9.out b10)
    clear BA_9 GLE_9 RG_9
    have MG := Lib.hid (MKG.out ag cg _ _ RG_10.out)
    go_wp2_with fail
    refine MG.out.mono ?_
    rintro e w11 ⟨rfl, rm, CX⟩
    have BL := CX.below GLE_10.out
    have BA_11 := Lib.hid (BA_10.out.trans (BL.mono LC.out))
    have BH11 := Lib.hid (BH10.out.trans (BL.mono (Nat.le_trans WA.out LC.out)))
    clear BL
    have RK_11 := Lib.hid rm
    clear rm CX MG
    go_wp2_with fail
    refine (HLD.out ag cg _ _ RK_11.out).mono ?_
    rintro e w12 ⟨rfl, b12⟩
    have BA_12 := Lib.hid (chainX w3 BA_11.out b12)
    have RK_12 := Lib.hid (Rows.below RK_11.out b12)
    have BH12 := Lib.hid (chainX w BH11.out b12)
    clear BA_11 RK_11
    go_wp2_with fail
    refine (CP0.out (by omega) _ BH12.out).mono ?_
    rintro e w13 ⟨qh0, rfl, rh0, -, -, -, b13⟩
    have BA_13 := Lib.hid (chainX w3 BA_12.out b13)
    have RK_13 := Lib.hid (Rows.below RK_12.out b13)
    have BH13 := Lib.hid (chainX w BH12.out b13)
    clear BA_12 RK_12
    have RRh0_13 := Lib.hid (Rows.weak rh0 (Nat.zero_le _) id)
    clear rh0
    have ANS := Lib.hid (HI.out (by omega) (some ⟨qh0, 0, none⟩) _ RRh0_13.out)
    go_wp2_with fail
    refine (ANS.out).mono ?_
    rintro e w14 ⟨ah, ch, rfl, kh, b14⟩
    have BA_14 := Lib.hid (chainX w3 BA_13.out b14)
    have RK_14 := Lib.hid (Rows.below RK_13.out b14)
    have RRh0_14 := Lib.hid (Rows.below RRh0_13.out b14)
    have BH14 := Lib.hid (chainX w BH13.out b14)
    clear BA_13 RK_13 RRh0_13
    clear ANS
    have RH_14 := Lib.hid kh
    clear kh
    go_wp2_with fail
    refine (EQA.out ah aw ch cw _ (OwnV.rows RH_14.out).2 (RA.out.below BA_14.out)).mono ?_
    rintro e w15 ⟨rfl, b15⟩
    have BA_15 := Lib.hid (chainX w3 BA_14.out b15)
    have RK_15 := Lib.hid (Rows.below RK_14.out b15)
    have RRh0_15 := Lib.hid (Rows.below RRh0_14.out b15)
    have BH15 := Lib.hid (chainX w BH14.out b15)
    clear BA_14 RK_14 RRh0_14
    go_wp2_with fail
    refine (HLD.out ag cg _ _ RK_15.out).mono ?_
    rintro e w16 ⟨rfl, b16⟩
    have BA_16 := Lib.hid (chainX w3 BA_15.out b16)
    have RK_16 := Lib.hid (Rows.below RK_15.out b16)
    have RRh0_16 := Lib.hid (Rows.below RRh0_15.out b16)
    have BH16 := Lib.hid (chainX w BH15.out b16)
    clear BA_15 RK_15 RRh0_15
    all_goals
      go_wp2
      go_ret
      exact ⟨rfl, BH16.out⟩
  · skip
    go_enter Try.func10, Try.ntmps10
    have V0 := SZ0.out (1048576) (by omega) (by omega) _ BH0.out
    unfold SzB at V0
    rw [show szI (1048576) s0 = -1 from szI_no (by omega)] at V0
    have VH0 := Lib.hid V0
    clear V0
    go_wp2_with fail
    refine (VH0.out).mono ?_
    rintro e w1 ⟨rfl, b1⟩
    have BH1 := Lib.hid (chainX w BH0.out b1)
    go_wp2
    go_ret
    exact ⟨rfl, BH1.out⟩
end Go.Proofs.Ythimpcfodbmhkaa.Rd
