/-
  The exact law of FnExactIntervalAt, given the model's answer and the program's (written by tools/gen/lawgen.py).
-/
import Derived.Test.YthimpcfodbmhkaaAtS
import Derived.Test.YthimpcfodbmhkaaMarkS
import Derived.Test.YthimpcfodbmhkaaAns
import Derived.Test.YthimpcfodbmhkaaMInterval
import Derived.Deep.RegionHeld3
namespace Go.Proofs.Ythimpcfodbmhkaa.Rd
open Go.RowKit Go.ChangeShapes Go.WideShapes
open Go.Proofs.Ythimpcfodbmhkaa.Sg (BxN)
set_option linter.unusedVariables false
set_option linter.unusedSimpArgs false

set_option maxRecDepth 100000 in
set_option maxHeartbeats 4000000 in
theorem fnFnExactIntervalAt (a0 : Option Addr) (cap0 : Nat) (d0 : List DInterval) (x1 : Int) (r : DInterval) (rb : Bool) (hr : Rdb.sz r ≤ 2097152) (hr0 : (Lit.int .i64 r.first).wf = true) (hr1 : (Lit.int .i64 r.last).wf = true) (w : World) (h0 : d0.length ≤ 9223372036854775807 ∧ Rows false 0 w a0 d0) (hS : Rdb.sz d0 ≤ 1048576 → ∀ (e0 : Option Addr) w' (k0 : Rows true 0 w' e0 d0), Calls Try.prog 34 #[.slice e0 d0.length d0.length, .int .i64 x1] w' (Ac.AnsS r rb w')) (hI : Rdb.sz d0 ≤ 1048576 → ∀ (e0 : Option Addr) w' (k0 : Rows true 0 w' e0 d0), Calls Try.prog 35 #[.slice e0 d0.length d0.length, .int .i64 x1] w' (Ac.AnsS r rb w')) :
    Calls Try.prog 9 #[.slice a0 d0.length cap0, .int .i64 x1] w (RetW (.bool true) w) := by
  obtain ⟨g0, h0⟩ := h0
  have BH0 := Lib.hid (Below.refl w.heap.size w)
  have SZ0 := Lib.hid (fun (lf : Int) (p0 : 0 ≤ lf) (p1 : lf ≤ 2097152) w' (b : Below w.heap.size w w') => szIntervalS a0 cap0 d0 lf p0 p1 w' g0 (h0.below b))
  have CP0 := Lib.hid (fun (z : Rdb.sz d0 ≤ 2097152) w' (b : Below w.heap.size w w') => toIntervalS a0 cap0 d0 w' z (h0.below b))
  have EQ0 := Lib.hid (fun (z : Rdb.sz d0 ≤ 2097152) (p q : Option Addr) w' (k1 : Rows true 0 w' p d0) (k2 : Rows true 0 w' q d0) => eqIntervalS p q d0.length d0.length d0 w' z k1 k2)
  have HS := Lib.hid hS
  have HI := Lib.hid hI
  clear hS hI
  obtain ⟨mm, hmm⟩ : ∃ mm : Int, mm = 1 + (r.acting.length : Int) := ⟨_, rfl⟩
  have MKC0 := Lib.hid (fun (z : Rdb.sz d0 ≤ 2097152) (a : Option Addr) (cap : Nat) (kk : Int) (lo : Nat) (v W : World) k0 k1 h hs hz => markIntervalSB a cap d0 kk lo v W z k0 k1 h hs hz)
  have RLN : r.acting.length ≤ 2097152 := by have h1 : Rdb.sz r = Rdb.sz r.acting := rfl; have h2 := sz_len r.acting; omega
  have EQA := Lib.hid (fun (p q : Option Addr) (c1 c2 : Nat) W {fr fr2 : Bool} {lo lo2 : Nat} (k1 : Rows fr lo W p r.acting) (k2 : Rows fr2 lo2 W q r.acting) (z1 : r.acting.length ≤ c1) (z2 : r.acting.length ≤ c2) => eqIS r p q c1 c2 W hr hr0 hr1 k1 k2 z1 z2)
  have MKG := Lib.hid (fun (p : Option Addr) (c1 lo top : Nat) W W0 (k1 : GOne lo W p r.acting) (k0 : GOne lo W0 p r.acting) ht hlt htw => markIS r p c1 mm hmm lo top W W0 RLN k1 k0 ht hlt htw)
  have HLD := Lib.hid (fun (p : Option Addr) (c1 lo : Nat) W (k1 : Rows true lo W p ((List.range r.acting.length).map (mkInt 1))) => heldIS r p c1 mm hmm lo W RLN k1)
  clear hr hr0 hr1
  have dm := (decide_eq_false (by omega) : decide (mm < 0) = false)
  have dm2 : (mm != mm) = false := by simp
  clear hmm
  clear  h0
  generalize hs0 : Rdb.sz d0 = s0 at *
  clear hs0
  by_cases q0 : (s0 : Int) ≤ 1048576
  · skip
    go_enter Try.func9, Try.ntmps9
    have V0 := SZ0.out (1048576) (by omega) (by omega) _ BH0.out
    unfold SzB at V0
    rw [show szI (1048576) s0 = 1048576 - (s0 : Int) from szI_yes (by omega)] at V0
    have VH0 := Lib.hid V0
    clear V0
    go_wp2_with fail
    refine (VH0.out).mono ?_
    rintro e w1 ⟨rfl, b1⟩
    have BH1 := Lib.hid (chainX w BH0.out b1)
    have CPx := True.intro
    go_wp2_with fail
    refine (CP0.out (by omega) _ BH1.out).mono ?_
    rintro e w2 ⟨qs0, rfl, rs0, -, -, -, b2⟩
    have BH2 := Lib.hid (chainX w BH1.out b2)
    have RRs0_2 := Lib.hid (Rows.weak rs0 (Nat.zero_le _) id)
    clear rs0
    have ANS := Lib.hid (HS.out (by omega) (some ⟨qs0, 0, none⟩) _ RRs0_2.out)
    go_wp2_with fail
    refine (ANS.out).mono ?_
    rintro e w3 ⟨aw, cw, rfl, kw, lw, b3⟩
    have RRs0_3 := Lib.hid (Rows.below RRs0_2.out b3)
    have BH3 := Lib.hid (chainX w BH2.out b3)
    clear RRs0_2
    clear ANS
    have LWH := Lib.hid lw
    clear lw
    have RA := Lib.hid kw.rows
    clear kw
    have BA_3 := Lib.hid (Below.refl w3.heap.size w3)
    have WA := Lib.hid (BH3.out.size)
    have LY := lay w3 (.cells #[.int .i64 r.first, .int .i64 r.last, .slice aw r.acting.length cw, .bool r.may] 38)
    have YN := BxN.new w3 #[.int .i64 r.first, .int .i64 r.last, .slice aw r.acting.length cw, .bool r.may] 38
    have BA_4 := Lib.hid (chainX w3 BA_3.out LY)
    have cYW_4_0 := YN.cells 0 _ rfl
    have cYW_4_1 := YN.cells 1 _ rfl
    have cYW_4_2 := YN.cells 2 _ rfl
    have cYW_4_3 := YN.cells 3 _ rfl
    have YW_4 := Lib.hid YN
    have BH4 := Lib.hid (chainX w BH3.out LY)
    clear BA_3
    clear LY YN
    have LAi0 := Lib.hid BA_4.out.size
    have XLYWi0 := Lib.hid YW_4.out.lt
    go_wp2_with fail
    refine (CP0.out (by omega) _ BH4.out).mono ?_
    rintro e w5 ⟨qi0, rfl, ri0, loi0, lti0, -, b5⟩
    have Q := YW_4.out.later b5
    have cYW_5_0 := Q.cells 0 _ rfl
    have cYW_5_1 := Q.cells 1 _ rfl
    have cYW_5_2 := Q.cells 2 _ rfl
    have cYW_5_3 := Q.cells 3 _ rfl
    have YW_5 := Lib.hid Q
    clear Q
    have BA_5 := Lib.hid (chainX w3 BA_4.out b5)
    have BH5 := Lib.hid (chainX w BH4.out b5)
    clear YW_4 cYW_4_0 cYW_4_1 cYW_4_2 cYW_4_3 BA_4
    have ZLEi0 := Lib.hid b5.size
    have QAi0 := LAi0
    have BVi0_5 := Lib.hid (Below.refl w5.heap.size w5)
    have RMi0 := Lib.hid ri0
    clear loi0 lti0
    have RRi0_5 := Lib.hid (Rows.weak ri0 (Nat.zero_le _) id)
    clear ri0
    have XCYW := Lib.hid YW_5.out.lt
    have LC := Lib.hid BA_5.out.size
    have VCi0 := Lib.hid BVi0_5.out.size
    have ANS := Lib.hid (HI.out (by omega) (some ⟨qi0, 0, none⟩) _ RRi0_5.out)
    go_wp2_with fail
    refine (ANS.out).mono ?_
    rintro e w6 ⟨ag, cg, rfl, kg, lg, b6⟩
    have Q := YW_5.out.later b6
    have cYW_6_0 := Q.cells 0 _ rfl
    have cYW_6_1 := Q.cells 1 _ rfl
    have cYW_6_2 := Q.cells 2 _ rfl
    have cYW_6_3 := Q.cells 3 _ rfl
    have YW_6 := Lib.hid Q
    clear Q
    have BA_6 := Lib.hid (chainX w3 BA_5.out b6)
    have BVi0_6 := Lib.hid (chainX w5 BVi0_5.out b6)
    have RRi0_6 := Lib.hid (Rows.below RRi0_5.out b6)
    have BH6 := Lib.hid (chainX w BH5.out b6)
    clear YW_5 cYW_5_0 cYW_5_1 cYW_5_2 cYW_5_3 BA_5 BVi0_5 RRi0_5
    clear ANS
    have LGH := Lib.hid lg
    clear lg
    have RGT := Lib.hid kg
    have GTOP := Lib.hid b6.size
    have RG_6 := Lib.hid kg
    clear kg
    have GLE_6 := Lib.hid b6.size
    have TOPL_6 := Lib.hid (Nat.le_refl w6.heap.size)
    have LY := lay w6 (.cells #[.int .i64 r.first, .int .i64 r.last, .slice ag r.acting.length cg, .bool r.may] 38)
    have YN := BxN.new w6 #[.int .i64 r.first, .int .i64 r.last, .slice ag r.acting.length cg, .bool r.may] 38
    have Q := YW_6.out.later LY
    have cYW_7_0 := Q.cells 0 _ rfl
    have cYW_7_1 := Q.cells 1 _ rfl
    have cYW_7_2 := Q.cells 2 _ rfl
    have cYW_7_3 := Q.cells 3 _ rfl
    have YW_7 := Lib.hid Q
    clear Q
    have BA_7 := Lib.hid (chainX w3 BA_6.out LY)
    have BVi0_7 := Lib.hid (chainX w5 BVi0_6.out LY)
    have RRi0_7 := Lib.hid (Rows.below RRi0_6.out LY)
    have GLE_7 := Lib.hid (leL GLE_6.out LY)
    have RG_7 := Lib.hid (GOne.below RG_6.out LY)
    have TOPL_7 := Lib.hid (leL TOPL_6.out LY)
    have cYG_7_0 := YN.cells 0 _ rfl
    have cYG_7_1 := YN.cells 1 _ rfl
    have cYG_7_2 := YN.cells 2 _ rfl
    have cYG_7_3 := YN.cells 3 _ rfl
    have YG_7 := Lib.hid YN
    have BH7 := Lib.hid (chainX w BH6.out LY)
    clear YW_6 cYW_6_0 cYW_6_1 cYW_6_2 cYW_6_3 BA_6 BVi0_6 RRi0_6 GLE_6 RG_6 TOPL_6
    clear LY YN
    go_wp2_with fail
    refine (EQA.out ag aw cg cw _ RG_7.out.rows (RA.out.below BA_7.out) LGH.out LWH.out).mono ?_
    rintro e w8 ⟨rfl, b8⟩
    have Q := YW_7.out.later b8
    have cYW_8_0 := Q.cells 0 _ rfl
    have cYW_8_1 := Q.cells 1 _ rfl
    have cYW_8_2 := Q.cells 2 _ rfl
    have cYW_8_3 := Q.cells 3 _ rfl
    have YW_8 := Lib.hid Q
    clear Q
    have Q := YG_7.out.later b8
    have cYG_8_0 := Q.cells 0 _ rfl
    have cYG_8_1 := Q.cells 1 _ rfl
    have cYG_8_2 := Q.cells 2 _ rfl
    have cYG_8_3 := Q.cells 3 _ rfl
    have YG_8 := Lib.hid Q
    clear Q
    have BA_8 := Lib.hid (chainX w3 BA_7.out b8)
    have BVi0_8 := Lib.hid (chainX w5 BVi0_7.out b8)
    have RRi0_8 := Lib.hid (Rows.below RRi0_7.out b8)
    have GLE_8 := Lib.hid (leL GLE_7.out b8)
    have RG_8 := Lib.hid (GOne.below RG_7.out b8)
    have TOPL_8 := Lib.hid (leL TOPL_7.out b8)
    have BH8 := Lib.hid (chainX w BH7.out b8)
    clear YW_7 YG_7 cYW_7_0 cYW_7_1 cYW_7_2 cYW_7_3 cYG_7_0 cYG_7_1 cYG_7_2 cYG_7_3 BA_7 BVi0_7 RRi0_7 GLE_7 RG_7 TOPL_7
    go_wp2_with fail
    refine (CP0.out (by omega) _ BH8.out).mono ?_
    rintro e w9 ⟨qe0, rfl, re0, -, -, -, b9⟩
    have Q := YW_8.out.later b9
    have cYW_9_0 := Q.cells 0 _ rfl
    have cYW_9_1 := Q.cells 1 _ rfl
    have cYW_9_2 := Q.cells 2 _ rfl
    have cYW_9_3 := Q.cells 3 _ rfl
    have YW_9 := Lib.hid Q
    clear Q
    have Q := YG_8.out.later b9
    have cYG_9_0 := Q.cells 0 _ rfl
    have cYG_9_1 := Q.cells 1 _ rfl
    have cYG_9_2 := Q.cells 2 _ rfl
    have cYG_9_3 := Q.cells 3 _ rfl
    have YG_9 := Lib.hid Q
    clear Q
    have BA_9 := Lib.hid (chainX w3 BA_8.out b9)
    have BVi0_9 := Lib.hid (chainX w5 BVi0_8.out b9)
    have RRi0_9 := Lib.hid (Rows.below RRi0_8.out b9)
    have GLE_9 := Lib.hid (leL GLE_8.out b9)
    have RG_9 := Lib.hid (GOne.below RG_8.out b9)
    have TOPL_9 := Lib.hid (leL TOPL_8.out b9)
    have BH9 := Lib.hid (chainX w BH8.out b9)
    clear YW_8 YG_8 cYW_8_0 cYW_8_1 cYW_8_2 cYW_8_3 cYG_8_0 cYG_8_1 cYG_8_2 cYG_8_3 BA_8 BVi0_8 RRi0_8 GLE_8 RG_8 TOPL_8
    have RRe0_9 := Lib.hid (Rows.weak re0 (Nat.zero_le _) id)
    clear re0
    have ANS := Lib.hid (EQ0.out (by omega) (some ⟨qi0, 0, none⟩) (some ⟨qe0, 0, none⟩) _ RRi0_9.out RRe0_9.out)
    go_wp2_with fail
    refine (ANS.out).mono ?_
    rintro e w10 ⟨rfl, b10⟩
    have Q := YW_9.out.later b10
    have cYW_10_0 := Q.cells 0 _ rfl
    have cYW_10_1 := Q.cells 1 _ rfl
    have cYW_10_2 := Q.cells 2 _ rfl
    have cYW_10_3 := Q.cells 3 _ rfl
    have YW_10 := Lib.hid Q
    clear Q
    have Q := YG_9.out.later b10
    have cYG_10_0 := Q.cells 0 _ rfl
    have cYG_10_1 := Q.cells 1 _ rfl
    have cYG_10_2 := Q.cells 2 _ rfl
    have cYG_10_3 := Q.cells 3 _ rfl
    have YG_10 := Lib.hid Q
    clear Q
    have BA_10 := Lib.hid (chainX w3 BA_9.out b10)
    have BVi0_10 := Lib.hid (chainX w5 BVi0_9.out b10)
    have RRi0_10 := Lib.hid (Rows.below RRi0_9.out b10)
    have GLE_10 := Lib.hid (leL GLE_9.out b10)
    have RG_10 := Lib.hid (GOne.below RG_9.out b10)
    have TOPL_10 := Lib.hid (leL TOPL_9.out b10)
    have RRe0_10 := Lib.hid (Rows.below RRe0_9.out b10)
    have BH10 := Lib.hid (chainX w BH9.out b10)
    clear YW_9 YG_9 cYW_9_0 cYW_9_1 cYW_9_2 cYW_9_3 cYG_9_0 cYG_9_1 cYG_9_2 cYG_9_3 BA_9 BVi0_9 RRi0_9 GLE_9 RG_9 TOPL_9 RRe0_9
    clear ANS
    clear HS
    have MK := Lib.hid (MKC0.out (by omega) (some ⟨qi0, 0, none⟩) d0.length (1) _ w5 _ (by omega) (by omega) RMi0.out (Shadow.of BVi0_10.out) BVi0_10.out.size)
    go_wp2_with fail
    refine MK.out.mono ?_
    rintro e w11 ⟨ki0, rfl, ki0a, ki0b, CX⟩
    have BL := CX.below (Nat.le_trans ZLEi0.out BVi0_10.out.size)
    have BA_11 := Lib.hid (BA_10.out.trans (BL.mono QAi0.out))
    have BH11 := Lib.hid (BH10.out.trans (BL.mono (Nat.le_trans WA.out QAi0.out)))
    clear BL
    have RG_11 := Lib.hid (GOne.high RG_10.out VCi0.out CX)
    have GLE_11 := Lib.hid (Nat.le_trans GLE_10.out CX.size)
    have TOPL_11 := Lib.hid (Nat.le_trans TOPL_10.out CX.size)
    have Q := bxChg YW_10.out CX (Or.inl XLYWi0.out)
    have cYW_11_0 := Q.cells 0 _ rfl
    have cYW_11_1 := Q.cells 1 _ rfl
    have cYW_11_2 := Q.cells 2 _ rfl
    have cYW_11_3 := Q.cells 3 _ rfl
    have YW_11 := Lib.hid Q
    clear Q
    have Q := bxChg YG_10.out CX (Or.inr (Nat.le_trans VCi0.out GTOP.out))
    have cYG_11_0 := Q.cells 0 _ rfl
    have cYG_11_1 := Q.cells 1 _ rfl
    have cYG_11_2 := Q.cells 2 _ rfl
    have cYG_11_3 := Q.cells 3 _ rfl
    have YG_11 := Lib.hid Q
    clear Q
    clear MK CX
    have dk := (decide_eq_false (by omega) : decide ((ki0 : Int) < 0) = false)
    go_wp2_with fail
    refine (EQA.out ag aw cg cw _ RG_11.out.rows (RA.out.below BA_11.out) LGH.out LWH.out).mono ?_
    rintro e w12 ⟨rfl, b12⟩
    have Q := YW_11.out.later b12
    have cYW_12_0 := Q.cells 0 _ rfl
    have cYW_12_1 := Q.cells 1 _ rfl
    have cYW_12_2 := Q.cells 2 _ rfl
    have cYW_12_3 := Q.cells 3 _ rfl
    have YW_12 := Lib.hid Q
    clear Q
    have Q := YG_11.out.later b12
    have cYG_12_0 := Q.cells 0 _ rfl
    have cYG_12_1 := Q.cells 1 _ rfl
    have cYG_12_2 := Q.cells 2 _ rfl
    have cYG_12_3 := Q.cells 3 _ rfl
    have YG_12 := Lib.hid Q
    clear Q
    have BA_12 := Lib.hid (chainX w3 BA_11.out b12)
    have GLE_12 := Lib.hid (leL GLE_11.out b12)
    have RG_12 := Lib.hid (GOne.below RG_11.out b12)
    have TOPL_12 := Lib.hid (leL TOPL_11.out b12)
    have BH12 := Lib.hid (chainX w BH11.out b12)
    clear YW_11 YG_11 cYW_11_0 cYW_11_1 cYW_11_2 cYW_11_3 cYG_11_0 cYG_11_1 cYG_11_2 cYG_11_3 BA_11 GLE_11 RG_11 TOPL_11
    have MG := Lib.hid (MKG.out ag cg _ _ _ w6 RG_12.out RGT.out rfl GTOP.out (by have := TOPL_12.out; exact this))
    go_wp2_with fail
    refine MG.out.mono ?_
    rintro e w13 ⟨xlo, xhi, rfl, rm, hx1, hx2, hx3, CX⟩
    have Q := bxChg YW_12.out CX (Or.inl (Nat.lt_of_lt_of_le XCYW.out hx1))
    have cYW_13_0 := Q.cells 0 _ rfl
    have cYW_13_1 := Q.cells 1 _ rfl
    have cYW_13_2 := Q.cells 2 _ rfl
    have cYW_13_3 := Q.cells 3 _ rfl
    have YW_13 := Lib.hid Q
    clear Q
    have Q := bxChg YG_12.out CX (Or.inr hx3)
    have cYG_13_0 := Q.cells 0 _ rfl
    have cYG_13_1 := Q.cells 1 _ rfl
    have cYG_13_2 := Q.cells 2 _ rfl
    have cYG_13_3 := Q.cells 3 _ rfl
    have YG_13 := Lib.hid Q
    clear Q
    have BL := CX.below hx2
    have BA_13 := Lib.hid (BA_12.out.trans (BL.mono (Nat.le_trans LC.out hx1)))
    have BH13 := Lib.hid (BH12.out.trans (BL.mono (Nat.le_trans WA.out (Nat.le_trans LC.out hx1))))
    clear BL
    clear hx1 hx2 hx3
    have RK_13 := Lib.hid rm
    clear rm CX MG
    go_wp2_with fail
    refine (HLD.out ag cg _ _ RK_13.out).mono ?_
    rintro e w14 ⟨rfl, b14⟩
    have Q := YW_13.out.later b14
    have cYW_14_0 := Q.cells 0 _ rfl
    have cYW_14_1 := Q.cells 1 _ rfl
    have cYW_14_2 := Q.cells 2 _ rfl
    have cYW_14_3 := Q.cells 3 _ rfl
    have YW_14 := Lib.hid Q
    clear Q
    have Q := YG_13.out.later b14
    have cYG_14_0 := Q.cells 0 _ rfl
    have cYG_14_1 := Q.cells 1 _ rfl
    have cYG_14_2 := Q.cells 2 _ rfl
    have cYG_14_3 := Q.cells 3 _ rfl
    have YG_14 := Lib.hid Q
    clear Q
    have BA_14 := Lib.hid (chainX w3 BA_13.out b14)
    have RK_14 := Lib.hid (Rows.below RK_13.out b14)
    have BH14 := Lib.hid (chainX w BH13.out b14)
    clear YW_13 YG_13 cYW_13_0 cYW_13_1 cYW_13_2 cYW_13_3 cYG_13_0 cYG_13_1 cYG_13_2 cYG_13_3 BA_13 RK_13
    go_wp2_with fail
    refine (CP0.out (by omega) _ BH14.out).mono ?_
    rintro e w15 ⟨qh0, rfl, rh0, -, -, -, b15⟩
    have Q := YW_14.out.later b15
    have cYW_15_0 := Q.cells 0 _ rfl
    have cYW_15_1 := Q.cells 1 _ rfl
    have cYW_15_2 := Q.cells 2 _ rfl
    have cYW_15_3 := Q.cells 3 _ rfl
    have YW_15 := Lib.hid Q
    clear Q
    have Q := YG_14.out.later b15
    have cYG_15_0 := Q.cells 0 _ rfl
    have cYG_15_1 := Q.cells 1 _ rfl
    have cYG_15_2 := Q.cells 2 _ rfl
    have cYG_15_3 := Q.cells 3 _ rfl
    have YG_15 := Lib.hid Q
    clear Q
    have BA_15 := Lib.hid (chainX w3 BA_14.out b15)
    have RK_15 := Lib.hid (Rows.below RK_14.out b15)
    have BH15 := Lib.hid (chainX w BH14.out b15)
    clear YW_14 YG_14 cYW_14_0 cYW_14_1 cYW_14_2 cYW_14_3 cYG_14_0 cYG_14_1 cYG_14_2 cYG_14_3 BA_14 RK_14
    have RRh0_15 := Lib.hid (Rows.weak rh0 (Nat.zero_le _) id)
    clear rh0
    have ANS := Lib.hid (HI.out (by omega) (some ⟨qh0, 0, none⟩) _ RRh0_15.out)
    go_wp2_with fail
    refine (ANS.out).mono ?_
    rintro e w16 ⟨ah, ch, rfl, kh, lh, b16⟩
    have Q := YW_15.out.later b16
    have cYW_16_0 := Q.cells 0 _ rfl
    have cYW_16_1 := Q.cells 1 _ rfl
    have cYW_16_2 := Q.cells 2 _ rfl
    have cYW_16_3 := Q.cells 3 _ rfl
    have YW_16 := Lib.hid Q
    clear Q
    have Q := YG_15.out.later b16
    have cYG_16_0 := Q.cells 0 _ rfl
    have cYG_16_1 := Q.cells 1 _ rfl
    have cYG_16_2 := Q.cells 2 _ rfl
    have cYG_16_3 := Q.cells 3 _ rfl
    have YG_16 := Lib.hid Q
    clear Q
    have BA_16 := Lib.hid (chainX w3 BA_15.out b16)
    have RK_16 := Lib.hid (Rows.below RK_15.out b16)
    have RRh0_16 := Lib.hid (Rows.below RRh0_15.out b16)
    have BH16 := Lib.hid (chainX w BH15.out b16)
    clear YW_15 YG_15 cYW_15_0 cYW_15_1 cYW_15_2 cYW_15_3 cYG_15_0 cYG_15_1 cYG_15_2 cYG_15_3 BA_15 RK_15 RRh0_15
    clear ANS
    have RH_16 := Lib.hid kh
    clear kh
    have LHH := Lib.hid lh
    clear lh
    have LY := lay w16 (.cells #[.int .i64 r.first, .int .i64 r.last, .slice ah r.acting.length ch, .bool r.may] 38)
    have YN := BxN.new w16 #[.int .i64 r.first, .int .i64 r.last, .slice ah r.acting.length ch, .bool r.may] 38
    have Q := YW_16.out.later LY
    have cYW_17_0 := Q.cells 0 _ rfl
    have cYW_17_1 := Q.cells 1 _ rfl
    have cYW_17_2 := Q.cells 2 _ rfl
    have cYW_17_3 := Q.cells 3 _ rfl
    have YW_17 := Lib.hid Q
    clear Q
    have Q := YG_16.out.later LY
    have cYG_17_0 := Q.cells 0 _ rfl
    have cYG_17_1 := Q.cells 1 _ rfl
    have cYG_17_2 := Q.cells 2 _ rfl
    have cYG_17_3 := Q.cells 3 _ rfl
    have YG_17 := Lib.hid Q
    clear Q
    have BA_17 := Lib.hid (chainX w3 BA_16.out LY)
    have RK_17 := Lib.hid (Rows.below RK_16.out LY)
    have RRh0_17 := Lib.hid (Rows.below RRh0_16.out LY)
    have RH_17 := Lib.hid (GOne.below RH_16.out LY)
    have cYK_17_0 := YN.cells 0 _ rfl
    have cYK_17_1 := YN.cells 1 _ rfl
    have cYK_17_2 := YN.cells 2 _ rfl
    have cYK_17_3 := YN.cells 3 _ rfl
    have YK_17 := Lib.hid YN
    have BH17 := Lib.hid (chainX w BH16.out LY)
    clear YW_16 YG_16 cYW_16_0 cYW_16_1 cYW_16_2 cYW_16_3 cYG_16_0 cYG_16_1 cYG_16_2 cYG_16_3 BA_16 RK_16 RRh0_16 RH_16
    clear LY YN
    go_wp2_with fail
    refine (EQA.out ah aw ch cw _ RH_17.out.rows (RA.out.below BA_17.out) LHH.out LWH.out).mono ?_
    rintro e w18 ⟨rfl, b18⟩
    have Q := YW_17.out.later b18
    have cYW_18_0 := Q.cells 0 _ rfl
    have cYW_18_1 := Q.cells 1 _ rfl
    have cYW_18_2 := Q.cells 2 _ rfl
    have cYW_18_3 := Q.cells 3 _ rfl
    have YW_18 := Lib.hid Q
    clear Q
    have Q := YG_17.out.later b18
    have cYG_18_0 := Q.cells 0 _ rfl
    have cYG_18_1 := Q.cells 1 _ rfl
    have cYG_18_2 := Q.cells 2 _ rfl
    have cYG_18_3 := Q.cells 3 _ rfl
    have YG_18 := Lib.hid Q
    clear Q
    have Q := YK_17.out.later b18
    have cYK_18_0 := Q.cells 0 _ rfl
    have cYK_18_1 := Q.cells 1 _ rfl
    have cYK_18_2 := Q.cells 2 _ rfl
    have cYK_18_3 := Q.cells 3 _ rfl
    have YK_18 := Lib.hid Q
    clear Q
    have BA_18 := Lib.hid (chainX w3 BA_17.out b18)
    have RK_18 := Lib.hid (Rows.below RK_17.out b18)
    have RRh0_18 := Lib.hid (Rows.below RRh0_17.out b18)
    have RH_18 := Lib.hid (GOne.below RH_17.out b18)
    have BH18 := Lib.hid (chainX w BH17.out b18)
    clear YW_17 YG_17 YK_17 cYW_17_0 cYW_17_1 cYW_17_2 cYW_17_3 cYG_17_0 cYG_17_1 cYG_17_2 cYG_17_3 cYK_17_0 cYK_17_1 cYK_17_2 cYK_17_3 BA_17 RK_17 RRh0_17 RH_17
    go_wp2_with fail
    refine (HLD.out ag cg _ _ RK_18.out).mono ?_
    rintro e w19 ⟨rfl, b19⟩
    have Q := YW_18.out.later b19
    have cYW_19_0 := Q.cells 0 _ rfl
    have cYW_19_1 := Q.cells 1 _ rfl
    have cYW_19_2 := Q.cells 2 _ rfl
    have cYW_19_3 := Q.cells 3 _ rfl
    have YW_19 := Lib.hid Q
    clear Q
    have Q := YG_18.out.later b19
    have cYG_19_0 := Q.cells 0 _ rfl
    have cYG_19_1 := Q.cells 1 _ rfl
    have cYG_19_2 := Q.cells 2 _ rfl
    have cYG_19_3 := Q.cells 3 _ rfl
    have YG_19 := Lib.hid Q
    clear Q
    have Q := YK_18.out.later b19
    have cYK_19_0 := Q.cells 0 _ rfl
    have cYK_19_1 := Q.cells 1 _ rfl
    have cYK_19_2 := Q.cells 2 _ rfl
    have cYK_19_3 := Q.cells 3 _ rfl
    have YK_19 := Lib.hid Q
    clear Q
    have BA_19 := Lib.hid (chainX w3 BA_18.out b19)
    have RK_19 := Lib.hid (Rows.below RK_18.out b19)
    have RRh0_19 := Lib.hid (Rows.below RRh0_18.out b19)
    have RH_19 := Lib.hid (GOne.below RH_18.out b19)
    have BH19 := Lib.hid (chainX w BH18.out b19)
    clear YW_18 YG_18 YK_18 cYW_18_0 cYW_18_1 cYW_18_2 cYW_18_3 cYG_18_0 cYG_18_1 cYG_18_2 cYG_18_3 cYK_18_0 cYK_18_1 cYK_18_2 cYK_18_3 BA_18 RK_18 RRh0_18 RH_18
    all_goals
      go_wp2
      go_ret
      exact ⟨rfl, BH19.out⟩
  · skip
    go_enter Try.func9, Try.ntmps9
    have V0 := SZ0.out (1048576) (by omega) (by omega) _ BH0.out
    unfold SzB at V0
    rw [show szI (1048576) s0 = -1 from szI_no (by omega)] at V0
    have VH0 := Lib.hid V0
    clear V0
    go_wp2_with fail
    refine (VH0.out).mono ?_
    rintro e w1 ⟨rfl, b1⟩
    have BH1 := Lib.hid (chainX w BH0.out b1)
    go_wp2
    go_ret
    exact ⟨rfl, BH1.out⟩
end Go.Proofs.Ythimpcfodbmhkaa.Rd
