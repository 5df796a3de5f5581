/-
  The exact law of FnExactNewDisk, given the model's answer and the program's (written by tools/gen/lawgen.py).
-/
import Derived.Test.YtpafhbnjefdhjaaMtk
import Derived.Deep.RegionHeld3
namespace Go.Proofs.Ytpafhbnjefdhjaa.Rd
open Go.RowKit Go.ChangeShapes Go.WideShapes
open Go.Proofs.Ytpafhbnjefdhjaa.Sg (BxN)
set_option linter.unusedVariables false
set_option linter.unusedSimpArgs false

set_option maxRecDepth 100000 in
set_option maxHeartbeats 4000000 in
theorem fnFnExactNewDisk (x0 : Int) (r : DDisk) (rc : Int) (hr : Rdb.sz r ≤ 2097152) (w : World)  (hS : ∀  w' , Calls Try.prog 19 #[.int .i64 x0] w' (AnsKR r rc w')) (hI : ∀  w' , Calls Try.prog 20 #[.int .i64 x0] w' (AnsK r rc w')) :
    Calls Try.prog 4 #[.int .i64 x0] w (RetW (.bool true) w) := by
  have BH0 := Lib.hid (Below.refl w.heap.size w)
  have HS := Lib.hid hS
  have HI := Lib.hid hI
  clear hS hI
  obtain ⟨mm, hmm⟩ : ∃ mm : Int, mm = 1 + (r.sectors.length : Int) + 2 * (r.waits.length : Int) := ⟨_, rfl⟩
  have EQA := Lib.hid (fun (p0 : Option Addr) (c0 : Nat) (p1 : Option Addr) (c1 : Nat) (q0 : Option Addr) (e0 : Nat) (q1 : Option Addr) (e1 : Nat) W (k1 : Rw2 W r p0 p1) (k2 : Rw2 W r q0 q1) (z1 : r.sectors.length ≤ c0 ∧ r.waits.length ≤ c1) (z2 : r.sectors.length ≤ e0 ∧ r.waits.length ≤ e1) => eqK r p0 c0 p1 c1 q0 e0 q1 e1 W hr k1 k2 z1 z2)
  have MKG := Lib.hid (fun (p0 : Option Addr) (c0 : Nat) (p1 : Option Addr) (c1 : Nat) (lo hi : Nat) W (k1 : Own2 lo hi W r p0 p1) => markK r p0 c0 p1 c1 mm hmm lo hi W hr k1)
  have HLD := Lib.hid (fun (p0 : Option Addr) (c0 : Nat) (p1 : Option Addr) (c1 : Nat) W (k1 : Rw2 W (mkDisk r) p0 p1) => heldK r p0 c0 p1 c1 mm hmm W hr k1)
  clear hr
  have dm := (decide_eq_false (by omega) : decide (mm < 0) = false)
  have dm2 : (mm != mm) = false := by simp
  clear hmm
  go_enter Try.func4, Try.ntmps4
  have CPx := True.intro
  have ANS := Lib.hid HS.out
  go_wp2_with fail
  refine (ANS.out _).mono ?_
  rintro e w1 ⟨aw0, cw0, aw1, cw1, rfl, kw, lw, b1⟩
  have BH1 := Lib.hid (chainX w BH0.out b1)
  clear ANS
  have LWH := Lib.hid lw
  clear lw
  have RA := Lib.hid kw
  clear kw
  have BA_1 := Lib.hid (Below.refl w1.heap.size w1)
  have WA := Lib.hid (BH1.out.size)
  have LY := lay w1 (.cells #[.slice aw0 r.sectors.length cw0, .slice aw1 r.waits.length cw1] 30)
  have YN := BxN.new w1 #[.slice aw0 r.sectors.length cw0, .slice aw1 r.waits.length cw1] 30
  have BA_2 := Lib.hid (chainX w1 BA_1.out LY)
  have cYW_2_0 := YN.cells 0 _ rfl
  have cYW_2_1 := YN.cells 1 _ rfl
  have YW_2 := Lib.hid YN
  have BH2 := Lib.hid (chainX w BH1.out LY)
  clear BA_1
  clear LY YN
  have XCYW := Lib.hid YW_2.out.lt
  have LC := Lib.hid BA_2.out.size
  have ANS := Lib.hid HI.out
  go_wp2_with fail
  refine (ANS.out _).mono ?_
  rintro e w3 ⟨ag0, cg0, ag1, cg1, rfl, kg, lg, b3⟩
  have Q := YW_2.out.later b3
  have cYW_3_0 := Q.cells 0 _ rfl
  have cYW_3_1 := Q.cells 1 _ rfl
  have YW_3 := Lib.hid Q
  clear Q
  have BA_3 := Lib.hid (chainX w1 BA_2.out b3)
  have BH3 := Lib.hid (chainX w BH2.out b3)
  clear YW_2 cYW_2_0 cYW_2_1 BA_2
  clear ANS
  have LGH := Lib.hid lg
  clear lg
  have RGT := Lib.hid kg
  have GTOP := Lib.hid b3.size
  have RG_3 := Lib.hid kg
  clear kg
  have GLE_3 := Lib.hid b3.size
  have TOPL_3 := Lib.hid (Nat.le_refl w3.heap.size)
  have LY := lay w3 (.cells #[.slice ag0 r.sectors.length cg0, .slice ag1 r.waits.length cg1] 30)
  have YN := BxN.new w3 #[.slice ag0 r.sectors.length cg0, .slice ag1 r.waits.length cg1] 30
  have Q := YW_3.out.later LY
  have cYW_4_0 := Q.cells 0 _ rfl
  have cYW_4_1 := Q.cells 1 _ rfl
  have YW_4 := Lib.hid Q
  clear Q
  have BA_4 := Lib.hid (chainX w1 BA_3.out LY)
  have GLE_4 := Lib.hid (leL GLE_3.out LY)
  have RG_4 := Lib.hid (Own2.below RG_3.out LY)
  have TOPL_4 := Lib.hid (leL TOPL_3.out LY)
  have cYG_4_0 := YN.cells 0 _ rfl
  have cYG_4_1 := YN.cells 1 _ rfl
  have YG_4 := Lib.hid YN
  have BH4 := Lib.hid (chainX w BH3.out LY)
  clear YW_3 cYW_3_0 cYW_3_1 BA_3 GLE_3 RG_3 TOPL_3
  clear LY YN
  go_wp2_with fail
  refine (EQA.out ag0 cg0 ag1 cg1 aw0 cw0 aw1 cw1 _ (Own2.rows RG_4.out) (RA.out.below BA_4.out) LGH.out LWH.out).mono ?_
  rintro e w5 ⟨rfl, b5⟩
  have Q := YW_4.out.later b5
  have cYW_5_0 := Q.cells 0 _ rfl
  have cYW_5_1 := Q.cells 1 _ rfl
  have YW_5 := Lib.hid Q
  clear Q
  have Q := YG_4.out.later b5
  have cYG_5_0 := Q.cells 0 _ rfl
  have cYG_5_1 := Q.cells 1 _ rfl
  have YG_5 := Lib.hid Q
  clear Q
  have BA_5 := Lib.hid (chainX w1 BA_4.out b5)
  have GLE_5 := Lib.hid (leL GLE_4.out b5)
  have RG_5 := Lib.hid (Own2.below RG_4.out b5)
  have TOPL_5 := Lib.hid (leL TOPL_4.out b5)
  have BH5 := Lib.hid (chainX w BH4.out b5)
  clear YW_4 YG_4 cYW_4_0 cYW_4_1 cYG_4_0 cYG_4_1 BA_4 GLE_4 RG_4 TOPL_4
  clear HS
  have MG := Lib.hid (MKG.out ag0 cg0 ag1 cg1 _ _ _ RG_5.out)
  go_wp2_with fail
  refine MG.out.mono ?_
  rintro e w6 ⟨rfl, rm, CX⟩
  have Q := bxChg YW_5.out CX (Or.inl XCYW.out)
  have cYW_6_0 := Q.cells 0 _ rfl
  have cYW_6_1 := Q.cells 1 _ rfl
  have YW_6 := Lib.hid Q
  clear Q
  have Q := bxChg YG_5.out CX (Or.inr (Nat.le_refl _))
  have cYG_6_0 := Q.cells 0 _ rfl
  have cYG_6_1 := Q.cells 1 _ rfl
  have YG_6 := Lib.hid Q
  clear Q
  have BL := CX.below (Nat.le_trans GTOP.out TOPL_5.out)
  have BA_6 := Lib.hid (BA_5.out.trans (BL.mono LC.out))
  have BH6 := Lib.hid (BH5.out.trans (BL.mono (Nat.le_trans WA.out LC.out)))
  clear BL
  have RK_6 := Lib.hid rm
  clear rm CX MG
  go_wp2_with fail
  refine (HLD.out ag0 cg0 ag1 cg1 _ RK_6.out).mono ?_
  rintro e w7 ⟨rfl, b7⟩
  have Q := YW_6.out.later b7
  have cYW_7_0 := Q.cells 0 _ rfl
  have cYW_7_1 := Q.cells 1 _ rfl
  have YW_7 := Lib.hid Q
  clear Q
  have Q := YG_6.out.later b7
  have cYG_7_0 := Q.cells 0 _ rfl
  have cYG_7_1 := Q.cells 1 _ rfl
  have YG_7 := Lib.hid Q
  clear Q
  have BA_7 := Lib.hid (chainX w1 BA_6.out b7)
  have RK_7 := Lib.hid (Rw2.below RK_6.out b7)
  have BH7 := Lib.hid (chainX w BH6.out b7)
  clear YW_6 YG_6 cYW_6_0 cYW_6_1 cYG_6_0 cYG_6_1 BA_6 RK_6
  have ANS := Lib.hid HI.out
  go_wp2_with fail
  refine (ANS.out _).mono ?_
  rintro e w8 ⟨ah0, ch0, ah1, ch1, rfl, kh, lh, b8⟩
  have Q := YW_7.out.later b8
  have cYW_8_0 := Q.cells 0 _ rfl
  have cYW_8_1 := Q.cells 1 _ rfl
  have YW_8 := Lib.hid Q
  clear Q
  have Q := YG_7.out.later b8
  have cYG_8_0 := Q.cells 0 _ rfl
  have cYG_8_1 := Q.cells 1 _ rfl
  have YG_8 := Lib.hid Q
  clear Q
  have BA_8 := Lib.hid (chainX w1 BA_7.out b8)
  have RK_8 := Lib.hid (Rw2.below RK_7.out b8)
  have BH8 := Lib.hid (chainX w BH7.out b8)
  clear YW_7 YG_7 cYW_7_0 cYW_7_1 cYG_7_0 cYG_7_1 BA_7 RK_7
  clear ANS
  have RH_8 := Lib.hid kh
  clear kh
  have LHH := Lib.hid lh
  clear lh
  have LY := lay w8 (.cells #[.slice ah0 r.sectors.length ch0, .slice ah1 r.waits.length ch1] 30)
  have YN := BxN.new w8 #[.slice ah0 r.sectors.length ch0, .slice ah1 r.waits.length ch1] 30
  have Q := YW_8.out.later LY
  have cYW_9_0 := Q.cells 0 _ rfl
  have cYW_9_1 := Q.cells 1 _ rfl
  have YW_9 := Lib.hid Q
  clear Q
  have Q := YG_8.out.later LY
  have cYG_9_0 := Q.cells 0 _ rfl
  have cYG_9_1 := Q.cells 1 _ rfl
  have YG_9 := Lib.hid Q
  clear Q
  have BA_9 := Lib.hid (chainX w1 BA_8.out LY)
  have RK_9 := Lib.hid (Rw2.below RK_8.out LY)
  have RH_9 := Lib.hid (Own2.below RH_8.out LY)
  have cYK_9_0 := YN.cells 0 _ rfl
  have cYK_9_1 := YN.cells 1 _ rfl
  have YK_9 := Lib.hid YN
  have BH9 := Lib.hid (chainX w BH8.out LY)
  clear YW_8 YG_8 cYW_8_0 cYW_8_1 cYG_8_0 cYG_8_1 BA_8 RK_8 RH_8
  clear LY YN
  go_wp2_with fail
  refine (EQA.out ah0 ch0 ah1 ch1 aw0 cw0 aw1 cw1 _ (Own2.rows RH_9.out) (RA.out.below BA_9.out) LHH.out LWH.out).mono ?_
  rintro e w10 ⟨rfl, b10⟩
  have Q := YW_9.out.later b10
  have cYW_10_0 := Q.cells 0 _ rfl
  have cYW_10_1 := Q.cells 1 _ rfl
  have YW_10 := Lib.hid Q
  clear Q
  have Q := YG_9.out.later b10
  have cYG_10_0 := Q.cells 0 _ rfl
  have cYG_10_1 := Q.cells 1 _ rfl
  have YG_10 := Lib.hid Q
  clear Q
  have Q := YK_9.out.later b10
  have cYK_10_0 := Q.cells 0 _ rfl
  have cYK_10_1 := Q.cells 1 _ rfl
  have YK_10 := Lib.hid Q
  clear Q
  have BA_10 := Lib.hid (chainX w1 BA_9.out b10)
  have RK_10 := Lib.hid (Rw2.below RK_9.out b10)
  have RH_10 := Lib.hid (Own2.below RH_9.out b10)
  have BH10 := Lib.hid (chainX w BH9.out b10)
  clear YW_9 YG_9 YK_9 cYW_9_0 cYW_9_1 cYG_9_0 cYG_9_1 cYK_9_0 cYK_9_1 BA_9 RK_9 RH_9
  go_wp2_with fail
  refine (HLD.out ag0 cg0 ag1 cg1 _ RK_10.out).mono ?_
  rintro e w11 ⟨rfl, b11⟩
  have Q := YW_10.out.later b11
  have cYW_11_0 := Q.cells 0 _ rfl
  have cYW_11_1 := Q.cells 1 _ rfl
  have YW_11 := Lib.hid Q
  clear Q
  have Q := YG_10.out.later b11
  have cYG_11_0 := Q.cells 0 _ rfl
  have cYG_11_1 := Q.cells 1 _ rfl
  have YG_11 := Lib.hid Q
  clear Q
  have Q := YK_10.out.later b11
  have cYK_11_0 := Q.cells 0 _ rfl
  have cYK_11_1 := Q.cells 1 _ rfl
  have YK_11 := Lib.hid Q
  clear Q
  have BA_11 := Lib.hid (chainX w1 BA_10.out b11)
  have RK_11 := Lib.hid (Rw2.below RK_10.out b11)
  have RH_11 := Lib.hid (Own2.below RH_10.out b11)
  have BH11 := Lib.hid (chainX w BH10.out b11)
  clear YW_10 YG_10 YK_10 cYW_10_0 cYW_10_1 cYG_10_0 cYG_10_1 cYK_10_0 cYK_10_1 BA_10 RK_10 RH_10
  all_goals
    go_wp2
    go_ret
    exact ⟨rfl, BH11.out⟩
end Go.Proofs.Ytpafhbnjefdhjaa.Rd
