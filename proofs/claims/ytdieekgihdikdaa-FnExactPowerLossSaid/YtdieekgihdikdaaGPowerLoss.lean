/-
  The exact law of FnExactPowerLoss, given the model's answer and the program's (written by tools/gen/lawgen.py).
-/
import Derived.Test.YtdieekgihdikdaaMtk
import Derived.Test.YtdieekgihdikdaaAns
import Derived.Deep.RegionHeld3
namespace Go.Proofs.Ytdieekgihdikdaa.Rd
open Go.RowKit Go.ChangeShapes Go.WideShapes
open Go.Proofs.Ytdieekgihdikdaa.Sg (BxN)
set_option linter.unusedVariables false
set_option linter.unusedSimpArgs false

set_option maxRecDepth 100000 in
set_option maxHeartbeats 4000000 in
theorem fnFnExactPowerLoss {cs0 : List Value} (d0 : DDisk) (a1 : Option Addr) (cap1 : Nat) (d1 : List Int) (x2 : Int) (r : DDisk) (rc : Int) (hr : Rdb.sz r ≤ 2097152) (w : World) (h0 : Rdb.rd false 0 w cs0 d0) (h1 : d1.length ≤ 9223372036854775807 ∧ Rows false 0 w a1 d1) (hS : Rdb.sz d0 ≤ 1048576 → d1.length ≤ 1048576 → ∀ (es0 : List Value) (e1 : Option Addr) w' (k0 : Rdb.rd true 0 w' es0 d0) (k1 : Rows true 0 w' e1 d1), Calls Try.prog 12 #[.agg es0.toArray, .slice e1 d1.length d1.length, .int .i64 x2] w' (AnsKR r rc w')) (hI : Rdb.sz d0 ≤ 1048576 → d1.length ≤ 1048576 → ∀ (es0 : List Value) (e1 : Option Addr) w' (k0 : Rdb.rd true 0 w' es0 d0) (k1 : Rows true 0 w' e1 d1), Calls Try.prog 15 #[.agg es0.toArray, .slice e1 d1.length d1.length, .int .i64 x2] w' (AnsK r rc w')) :
    Calls Try.prog 4 #[.agg cs0.toArray, .slice a1 d1.length cap1, .int .i64 x2] w (RetW (.bool true) w) := by
  obtain ⟨a0_0, c0_0, a0_1, c0_1, rfl, f0_0, g0_0, f0_1, g0_1⟩ := shape_Disk h0
  obtain ⟨g1, h1⟩ := h1
  have BH0 := Lib.hid (lay w (.cells #[.slice a0_0 d0.sectors.length c0_0, .slice a0_1 d0.waits.length c0_1] 31))
  have Q0 := BxN.new w #[.slice a0_0 d0.sectors.length c0_0, .slice a0_1 d0.waits.length c0_1] 31
  have XH0_0 := Lib.hid Q0
  clear Q0
  have SZ0 := Lib.hid (fun (lf : Int) (p0 : 0 ≤ lf) (p1 : lf ≤ 2097152) w' (b : Below w.heap.size w w') => szDisk d0 lf p0 p1 w' (mk_Disk (d := d0) (a0 := a0_0) (c0 := c0_0) (a1 := a0_1) (c1 := c0_1) (f0_0.below b) g0_0 (f0_1.below b) g0_1))
  have CP0 := Lib.hid (fun (z : Rdb.sz d0 ≤ 2097152) w' (b : Below w.heap.size w w') => toDisk d0 w' z (mk_Disk (d := d0) (a0 := a0_0) (c0 := c0_0) (a1 := a0_1) (c1 := c0_1) (f0_0.below b) g0_0 (f0_1.below b) g0_1))
  have EQ0 := Lib.hid (fun (z : Rdb.sz d0 ≤ 2097152) (cs ds : List Value) w' (k1 : Rdb.rd true 0 w' cs d0) (k2 : Rdb.rd true 0 w' ds d0) => eqDisk d0 w' z k1 k2)
  have ZL1 : Rdb.sz d1 = d1.length := sz_flat (fun _ => rfl) d1
  have CP1 := Lib.hid (fun (z : d1.length ≤ 2097152) w' (b : Below w.heap.size w w') => toInt64S a1 cap1 d1 w' (by rw [ZL1]; exact z) (h1.below b))
  have EQ1 := Lib.hid (fun (z : d1.length ≤ 2097152) (p q : Option Addr) w' (k1 : Rows true 0 w' p d1) (k2 : Rows true 0 w' q d1) => eqInt64S p q d1.length d1.length d1 w' (by rw [ZL1]; exact z) k1 k2)
  clear ZL1
  have HS := Lib.hid hS
  have HI := Lib.hid hI
  clear hS hI
  obtain ⟨mm, hmm⟩ : ∃ mm : Int, mm = 1 + (r.sectors.length : Int) + 2 * (r.waits.length : Int) := ⟨_, rfl⟩
  have MKC0 := Lib.hid (fun (z : Rdb.sz d0 ≤ 2097152) (a0 : Option Addr) (c0 : Nat) (a1 : Option Addr) (c1 : Nat) (kk : Int) (lo : Nat) (v W : World) k0 k1 h0 h1 hs hz => markDiskB d0 a0 c0 a1 c1 kk lo v W z k0 k1 h0 h1 hs hz)
  have EQA := Lib.hid (fun (p0 : Option Addr) (c0 : Nat) (p1 : Option Addr) (c1 : Nat) (q0 : Option Addr) (e0 : Nat) (q1 : Option Addr) (e1 : Nat) W (k1 : Rw2 W r p0 p1) (k2 : Rw2 W r q0 q1) (z1 : r.sectors.length ≤ c0 ∧ r.waits.length ≤ c1) (z2 : r.sectors.length ≤ e0 ∧ r.waits.length ≤ e1) => eqK r p0 c0 p1 c1 q0 e0 q1 e1 W hr k1 k2 z1 z2)
  have MKG := Lib.hid (fun (p0 : Option Addr) (c0 : Nat) (p1 : Option Addr) (c1 : Nat) (lo hi : Nat) W (k1 : Own2 lo hi W r p0 p1) => markK r p0 c0 p1 c1 mm hmm lo hi W hr k1)
  have HLD := Lib.hid (fun (p0 : Option Addr) (c0 : Nat) (p1 : Option Addr) (c1 : Nat) W (k1 : Rw2 W (mkDisk r) p0 p1) => heldK r p0 c0 p1 c1 mm hmm W hr k1)
  clear hr
  have dm := (decide_eq_false (by omega) : decide (mm < 0) = false)
  have dm2 : (mm != mm) = false := by simp
  clear hmm
  clear f0_0 f0_1 h1
  generalize hs0 : Rdb.sz d0 = s0 at *
  clear hs0
  by_cases l1 : d1.length ≤ 1048576
  · have dl1 : decide ((1048576 : Int) < (d1.length : Int)) = false := decide_eq_false (by omega)
    by_cases q0 : (s0 : Int) ≤ 1048576
    · skip
      go_enter Try.func4, Try.ntmps4
      have V0 := SZ0.out (1048576) (by omega) (by omega) _ BH0.out
      unfold SzB at V0
      rw [show szI (1048576) s0 = 1048576 - (s0 : Int) from szI_yes (by omega)] at V0
      have VH0 := Lib.hid V0
      clear V0
      go_wp2_with fail
      refine (VH0.out).mono ?_
      rintro e w1 ⟨rfl, b1⟩
      have Q := XH0_0.out.later b1
      have cXH0_1_0 := Q.cells 0 _ rfl
      have cXH0_1_1 := Q.cells 1 _ rfl
      have XH0_1 := Lib.hid Q
      clear Q
      have BH1 := Lib.hid (chainX w BH0.out b1)
      clear XH0_0
      have CPx := True.intro
      go_wp2_with fail
      refine (CP0.out (by omega) _ BH1.out).mono ?_
      rintro e w2 ⟨ess0, rfl, rs0, b2⟩
      have Q := XH0_1.out.later b2
      have cXH0_2_0 := Q.cells 0 _ rfl
      have cXH0_2_1 := Q.cells 1 _ rfl
      have XH0_2 := Lib.hid Q
      clear Q
      have BH2 := Lib.hid (chainX w BH1.out b2)
      clear XH0_1 cXH0_1_0 cXH0_1_1
      have RRs0_2 := Lib.hid (Rdb.weak rs0 (Nat.zero_le _) id)
      obtain ⟨avs0_0, cvs0_0, avs0_1, cvs0_1, rfl, fvs0_0, gvs0_0, fvs0_1, gvs0_1⟩ := shape_Disk rs0
      have RMs0_0 := Lib.hid fvs0_0
      have RMs0_1 := Lib.hid fvs0_1
      clear rs0 fvs0_0 fvs0_1
      go_wp2_with fail
      refine (CP1.out (by omega) _ BH2.out).mono ?_
      rintro e w3 ⟨qs1, rfl, rs1, -, -, -, b3⟩
      have Q := XH0_2.out.later b3
      have cXH0_3_0 := Q.cells 0 _ rfl
      have cXH0_3_1 := Q.cells 1 _ rfl
      have XH0_3 := Lib.hid Q
      clear Q
      have RRs0_3 := Lib.hid (Rdb.below RRs0_2.out b3)
      have BH3 := Lib.hid (chainX w BH2.out b3)
      clear XH0_2 cXH0_2_0 cXH0_2_1 RRs0_2
      have RRs1_3 := Lib.hid (Rows.weak rs1 (Nat.zero_le _) id)
      clear rs1
      have ANS := Lib.hid (HS.out (by omega) (by omega) ([.slice avs0_0 d0.sectors.length cvs0_0, .slice avs0_1 d0.waits.length cvs0_1]) (some ⟨qs1, 0, none⟩) _ RRs0_3.out RRs1_3.out)
      go_wp2_with fail
      refine (ANS.out).mono ?_
      rintro e w4 ⟨aw0, cw0, aw1, cw1, rfl, kw, lw, b4⟩
      have Q := XH0_3.out.later b4
      have cXH0_4_0 := Q.cells 0 _ rfl
      have cXH0_4_1 := Q.cells 1 _ rfl
      have XH0_4 := Lib.hid Q
      clear Q
      have RRs0_4 := Lib.hid (Rdb.below RRs0_3.out b4)
      have RRs1_4 := Lib.hid (Rows.below RRs1_3.out b4)
      have BH4 := Lib.hid (chainX w BH3.out b4)
      clear XH0_3 cXH0_3_0 cXH0_3_1 RRs0_3 RRs1_3
      clear ANS
      have LWH := Lib.hid lw
      clear lw
      have RA := Lib.hid kw
      clear kw
      have BA_4 := Lib.hid (Below.refl w4.heap.size w4)
      have WA := Lib.hid (BH4.out.size)
      have LY := lay w4 (.cells #[.slice aw0 r.sectors.length cw0, .slice aw1 r.waits.length cw1] 36)
      have YN := BxN.new w4 #[.slice aw0 r.sectors.length cw0, .slice aw1 r.waits.length cw1] 36
      have Q := XH0_4.out.later LY
      have cXH0_5_0 := Q.cells 0 _ rfl
      have cXH0_5_1 := Q.cells 1 _ rfl
      have XH0_5 := Lib.hid Q
      clear Q
      have BA_5 := Lib.hid (chainX w4 BA_4.out LY)
      have cYW_5_0 := YN.cells 0 _ rfl
      have cYW_5_1 := YN.cells 1 _ rfl
      have YW_5 := Lib.hid YN
      have BH5 := Lib.hid (chainX w BH4.out LY)
      clear XH0_4 cXH0_4_0 cXH0_4_1 BA_4
      clear LY YN
      have LAi0 := Lib.hid BA_5.out.size
      have XLXH0i0 := Lib.hid XH0_5.out.lt
      have XLYWi0 := Lib.hid YW_5.out.lt
      go_wp2_with fail
      refine (CP0.out (by omega) _ BH5.out).mono ?_
      rintro e w6 ⟨esi0, rfl, ri0, b6⟩
      have Q := XH0_5.out.later b6
      have cXH0_6_0 := Q.cells 0 _ rfl
      have cXH0_6_1 := Q.cells 1 _ rfl
      have XH0_6 := Lib.hid Q
      clear Q
      have Q := YW_5.out.later b6
      have cYW_6_0 := Q.cells 0 _ rfl
      have cYW_6_1 := Q.cells 1 _ rfl
      have YW_6 := Lib.hid Q
      clear Q
      have BA_6 := Lib.hid (chainX w4 BA_5.out b6)
      have BH6 := Lib.hid (chainX w BH5.out b6)
      clear XH0_5 YW_5 cXH0_5_0 cXH0_5_1 cYW_5_0 cYW_5_1 BA_5
      have ZLEi0 := Lib.hid b6.size
      have QAi0 := LAi0
      have BVi0_6 := Lib.hid (Below.refl w6.heap.size w6)
      have RRi0_6 := Lib.hid (Rdb.weak ri0 (Nat.zero_le _) id)
      obtain ⟨avi0_0, cvi0_0, avi0_1, cvi0_1, rfl, fvi0_0, gvi0_0, fvi0_1, gvi0_1⟩ := shape_Disk ri0
      have RMi0_0 := Lib.hid fvi0_0
      have RMi0_1 := Lib.hid fvi0_1
      clear ri0 fvi0_0 fvi0_1
      have LY := lay w6 (.cells #[.slice avi0_0 d0.sectors.length cvi0_0, .slice avi0_1 d0.waits.length cvi0_1] 36)
      have YN := BxN.new w6 #[.slice avi0_0 d0.sectors.length cvi0_0, .slice avi0_1 d0.waits.length cvi0_1] 36
      have Q := XH0_6.out.later LY
      have cXH0_7_0 := Q.cells 0 _ rfl
      have cXH0_7_1 := Q.cells 1 _ rfl
      have XH0_7 := Lib.hid Q
      clear Q
      have Q := YW_6.out.later LY
      have cYW_7_0 := Q.cells 0 _ rfl
      have cYW_7_1 := Q.cells 1 _ rfl
      have YW_7 := Lib.hid Q
      clear Q
      have BA_7 := Lib.hid (chainX w4 BA_6.out LY)
      have BVi0_7 := Lib.hid (chainX w6 BVi0_6.out LY)
      have RRi0_7 := Lib.hid (Rdb.below RRi0_6.out LY)
      have cYH0_7_0 := YN.cells 0 _ rfl
      have cYH0_7_1 := YN.cells 1 _ rfl
      have YH0_7 := Lib.hid YN
      have BH7 := Lib.hid (chainX w BH6.out LY)
      clear XH0_6 YW_6 cXH0_6_0 cXH0_6_1 cYW_6_0 cYW_6_1 BA_6 BVi0_6 RRi0_6
      clear LY YN
      have LAi1 := Lib.hid BA_7.out.size
      have XLXH0i1 := Lib.hid XH0_7.out.lt
      have XLYWi1 := Lib.hid YW_7.out.lt
      have XLYH0i1 := Lib.hid YH0_7.out.lt
      have VVi0i1 := Lib.hid BVi0_7.out.size
      go_wp2_with fail
      refine (CP1.out (by omega) _ BH7.out).mono ?_
      rintro e w8 ⟨qi1, rfl, ri1, loi1, lti1, -, b8⟩
      have Q := XH0_7.out.later b8
      have cXH0_8_0 := Q.cells 0 _ rfl
      have cXH0_8_1 := Q.cells 1 _ rfl
      have XH0_8 := Lib.hid Q
      clear Q
      have Q := YW_7.out.later b8
      have cYW_8_0 := Q.cells 0 _ rfl
      have cYW_8_1 := Q.cells 1 _ rfl
      have YW_8 := Lib.hid Q
      clear Q
      have Q := YH0_7.out.later b8
      have cYH0_8_0 := Q.cells 0 _ rfl
      have cYH0_8_1 := Q.cells 1 _ rfl
      have YH0_8 := Lib.hid Q
      clear Q
      have BA_8 := Lib.hid (chainX w4 BA_7.out b8)
      have BVi0_8 := Lib.hid (chainX w6 BVi0_7.out b8)
      have RRi0_8 := Lib.hid (Rdb.below RRi0_7.out b8)
      have BH8 := Lib.hid (chainX w BH7.out b8)
      clear XH0_7 YW_7 YH0_7 cXH0_7_0 cXH0_7_1 cYW_7_0 cYW_7_1 cYH0_7_0 cYH0_7_1 BA_7 BVi0_7 RRi0_7
      have RFi1_8 := Lib.hid ri1
      have XLXH0i1 := Lib.hid (Nat.lt_of_lt_of_le XLXH0i1.out loi1)
      have XLYWi1 := Lib.hid (Nat.lt_of_lt_of_le XLYWi1.out loi1)
      have XLYH0i1 := Lib.hid (Nat.lt_of_lt_of_le XLYH0i1.out loi1)
      have QAi1 := Lib.hid (Nat.le_trans LAi1.out loi1)
      have QTi1_8 := Lib.hid lti1
      clear loi1 lti1
      have RRi1_8 := Lib.hid (Rows.weak ri1 (Nat.zero_le _) id)
      clear ri1
      have XCXH0 := Lib.hid XH0_8.out.lt
      have XCYW := Lib.hid YW_8.out.lt
      have XCYH0 := Lib.hid YH0_8.out.lt
      have LC := Lib.hid BA_8.out.size
      have QCi1 := QTi1_8
      have VCi0 := Lib.hid BVi0_8.out.size
      have ANS := Lib.hid (HI.out (by omega) (by omega) ([.slice avi0_0 d0.sectors.length cvi0_0, .slice avi0_1 d0.waits.length cvi0_1]) (some ⟨qi1, 0, none⟩) _ RRi0_8.out RRi1_8.out)
      go_wp2_with fail
      refine (ANS.out).mono ?_
      rintro e w9 ⟨ag0, cg0, ag1, cg1, rfl, kg, lg, b9⟩
      have Q := XH0_8.out.later b9
      have cXH0_9_0 := Q.cells 0 _ rfl
      have cXH0_9_1 := Q.cells 1 _ rfl
      have XH0_9 := Lib.hid Q
      clear Q
      have Q := YW_8.out.later b9
      have cYW_9_0 := Q.cells 0 _ rfl
      have cYW_9_1 := Q.cells 1 _ rfl
      have YW_9 := Lib.hid Q
      clear Q
      have Q := YH0_8.out.later b9
      have cYH0_9_0 := Q.cells 0 _ rfl
      have cYH0_9_1 := Q.cells 1 _ rfl
      have YH0_9 := Lib.hid Q
      clear Q
      have BA_9 := Lib.hid (chainX w4 BA_8.out b9)
      have BVi0_9 := Lib.hid (chainX w6 BVi0_8.out b9)
      have RRi0_9 := Lib.hid (Rdb.below RRi0_8.out b9)
      have RFi1_9 := Lib.hid (Rows.below RFi1_8.out b9)
      have QTi1_9 := Lib.hid (ltL QTi1_8.out b9)
      have RRi1_9 := Lib.hid (Rows.below RRi1_8.out b9)
      have BH9 := Lib.hid (chainX w BH8.out b9)
      clear XH0_8 YW_8 YH0_8 cXH0_8_0 cXH0_8_1 cYW_8_0 cYW_8_1 cYH0_8_0 cYH0_8_1 BA_8 BVi0_8 RRi0_8 RFi1_8 QTi1_8 RRi1_8
      clear ANS
      have LGH := Lib.hid lg
      clear lg
      have RGT := Lib.hid kg
      have GTOP := Lib.hid b9.size
      have RG_9 := Lib.hid kg
      clear kg
      have GLE_9 := Lib.hid b9.size
      have TOPL_9 := Lib.hid (Nat.le_refl w9.heap.size)
      have LY := lay w9 (.cells #[.slice ag0 r.sectors.length cg0, .slice ag1 r.waits.length cg1] 36)
      have YN := BxN.new w9 #[.slice ag0 r.sectors.length cg0, .slice ag1 r.waits.length cg1] 36
      have Q := XH0_9.out.later LY
      have cXH0_10_0 := Q.cells 0 _ rfl
      have cXH0_10_1 := Q.cells 1 _ rfl
      have XH0_10 := Lib.hid Q
      clear Q
      have Q := YW_9.out.later LY
      have cYW_10_0 := Q.cells 0 _ rfl
      have cYW_10_1 := Q.cells 1 _ rfl
      have YW_10 := Lib.hid Q
      clear Q
      have Q := YH0_9.out.later LY
      have cYH0_10_0 := Q.cells 0 _ rfl
      have cYH0_10_1 := Q.cells 1 _ rfl
      have YH0_10 := Lib.hid Q
      clear Q
      have BA_10 := Lib.hid (chainX w4 BA_9.out LY)
      have BVi0_10 := Lib.hid (chainX w6 BVi0_9.out LY)
      have RRi0_10 := Lib.hid (Rdb.below RRi0_9.out LY)
      have RFi1_10 := Lib.hid (Rows.below RFi1_9.out LY)
      have QTi1_10 := Lib.hid (ltL QTi1_9.out LY)
      have RRi1_10 := Lib.hid (Rows.below RRi1_9.out LY)
      have GLE_10 := Lib.hid (leL GLE_9.out LY)
      have RG_10 := Lib.hid (Own2.below RG_9.out LY)
      have TOPL_10 := Lib.hid (leL TOPL_9.out LY)
      have cYG_10_0 := YN.cells 0 _ rfl
      have cYG_10_1 := YN.cells 1 _ rfl
      have YG_10 := Lib.hid YN
      have BH10 := Lib.hid (chainX w BH9.out LY)
      clear XH0_9 YW_9 YH0_9 cXH0_9_0 cXH0_9_1 cYW_9_0 cYW_9_1 cYH0_9_0 cYH0_9_1 BA_9 BVi0_9 RRi0_9 RFi1_9 QTi1_9 RRi1_9 GLE_9 RG_9 TOPL_9
      clear LY YN
      go_wp2_with fail
      refine (EQA.out ag0 cg0 ag1 cg1 aw0 cw0 aw1 cw1 _ (Own2.rows RG_10.out) (RA.out.below BA_10.out) LGH.out LWH.out).mono ?_
      rintro e w11 ⟨rfl, b11⟩
      have Q := XH0_10.out.later b11
      have cXH0_11_0 := Q.cells 0 _ rfl
      have cXH0_11_1 := Q.cells 1 _ rfl
      have XH0_11 := Lib.hid Q
      clear Q
      have Q := YW_10.out.later b11
      have cYW_11_0 := Q.cells 0 _ rfl
      have cYW_11_1 := Q.cells 1 _ rfl
      have YW_11 := Lib.hid Q
      clear Q
      have Q := YH0_10.out.later b11
      have cYH0_11_0 := Q.cells 0 _ rfl
      have cYH0_11_1 := Q.cells 1 _ rfl
      have YH0_11 := Lib.hid Q
      clear Q
      have Q := YG_10.out.later b11
      have cYG_11_0 := Q.cells 0 _ rfl
      have cYG_11_1 := Q.cells 1 _ rfl
      have YG_11 := Lib.hid Q
      clear Q
      have BA_11 := Lib.hid (chainX w4 BA_10.out b11)
      have BVi0_11 := Lib.hid (chainX w6 BVi0_10.out b11)
      have RRi0_11 := Lib.hid (Rdb.below RRi0_10.out b11)
      have RFi1_11 := Lib.hid (Rows.below RFi1_10.out b11)
      have QTi1_11 := Lib.hid (ltL QTi1_10.out b11)
      have RRi1_11 := Lib.hid (Rows.below RRi1_10.out b11)
      have GLE_11 := Lib.hid (leL GLE_10.out b11)
      have RG_11 := Lib.hid (Own2.below RG_10.out b11)
      have TOPL_11 := Lib.hid (leL TOPL_10.out b11)
      have BH11 := Lib.hid (chainX w BH10.out b11)
      clear XH0_10 YW_10 YH0_10 YG_10 cXH0_10_0 cXH0_10_1 cYW_10_0 cYW_10_1 cYH0_10_0 cYH0_10_1 cYG_10_0 cYG_10_1 BA_10 BVi0_10 RRi0_10 RFi1_10 QTi1_10 RRi1_10 GLE_10 RG_10 TOPL_10
      go_wp2_with fail
      go_region_held3 (fun w' => w'.cell? ⟨w.heap.size, 0, none⟩ = some (.slice a0_0 d0.sectors.length c0_0) ∧ w'.cell? ⟨w.heap.size, 1, none⟩ = some (.slice a0_1 d0.waits.length c0_1) ∧ w'.cell? ⟨w4.heap.size, 0, none⟩ = some (.slice aw0 r.sectors.length cw0) ∧ w'.cell? ⟨w4.heap.size, 1, none⟩ = some (.slice aw1 r.waits.length cw1) ∧ w'.cell? ⟨w6.heap.size, 0, none⟩ = some (.slice avi0_0 d0.sectors.length cvi0_0) ∧ w'.cell? ⟨w6.heap.size, 1, none⟩ = some (.slice avi0_1 d0.waits.length cvi0_1) ∧ w'.cell? ⟨w9.heap.size, 0, none⟩ = some (.slice ag0 r.sectors.length cg0) ∧ w'.cell? ⟨w9.heap.size, 1, none⟩ = some (.slice ag1 r.waits.length cg1)) (go_keep)
        (first
          | (go_at_call 13; refine (CP0.out (by omega) _ BH11.out.drew).mono ?_; rintro e w12 ⟨ese0, rfl, re0, b12⟩; have b12 := undrewX b12; have Q := XH0_11.out.later b12; have cXH0_12_0 := Q.cells 0 _ rfl; have cXH0_12_1 := Q.cells 1 _ rfl; have XH0_12 := Lib.hid Q; clear Q; have Q := YW_11.out.later b12; have cYW_12_0 := Q.cells 0 _ rfl; have cYW_12_1 := Q.cells 1 _ rfl; have YW_12 := Lib.hid Q; clear Q; have Q := YH0_11.out.later b12; have cYH0_12_0 := Q.cells 0 _ rfl; have cYH0_12_1 := Q.cells 1 _ rfl; have YH0_12 := Lib.hid Q; clear Q; have Q := YG_11.out.later b12; have cYG_12_0 := Q.cells 0 _ rfl; have cYG_12_1 := Q.cells 1 _ rfl; have YG_12 := Lib.hid Q; clear Q; have BA_12 := Lib.hid (chainX w4 BA_11.out b12); have BVi0_12 := Lib.hid (chainX w6 BVi0_11.out b12); have RRi0_12 := Lib.hid (Rdb.below RRi0_11.out b12); have RFi1_12 := Lib.hid (Rows.below RFi1_11.out b12); have QTi1_12 := Lib.hid (ltL QTi1_11.out b12); have RRi1_12 := Lib.hid (Rows.below RRi1_11.out b12); have GLE_12 := Lib.hid (leL GLE_11.out b12); have RG_12 := Lib.hid (Own2.below RG_11.out b12); have TOPL_12 := Lib.hid (leL TOPL_11.out b12); have BH12 := Lib.hid (chainX w BH11.out b12); clear b12; have RRe0_12 := Lib.hid (Rdb.weak re0 (Nat.zero_le _) id); obtain ⟨ave0_0, cve0_0, ave0_1, cve0_1, rfl, fve0_0, gve0_0, fve0_1, gve0_1⟩ := shape_Disk re0; have RMe0_0 := Lib.hid fve0_0; have RMe0_1 := Lib.hid fve0_1; clear re0 fve0_0 fve0_1)
          | (go_at_call 16; refine (EQ0.out (by omega) ([.slice avi0_0 d0.sectors.length cvi0_0, .slice avi0_1 d0.waits.length cvi0_1]) ([.slice ave0_0 d0.sectors.length cve0_0, .slice ave0_1 d0.waits.length cve0_1]) _ RRi0_12.out RRe0_12.out).mono ?_; rintro e w13 ⟨rfl, b13⟩; have Q := XH0_12.out.later b13; have cXH0_13_0 := Q.cells 0 _ rfl; have cXH0_13_1 := Q.cells 1 _ rfl; have XH0_13 := Lib.hid Q; clear Q; have Q := YW_12.out.later b13; have cYW_13_0 := Q.cells 0 _ rfl; have cYW_13_1 := Q.cells 1 _ rfl; have YW_13 := Lib.hid Q; clear Q; have Q := YH0_12.out.later b13; have cYH0_13_0 := Q.cells 0 _ rfl; have cYH0_13_1 := Q.cells 1 _ rfl; have YH0_13 := Lib.hid Q; clear Q; have Q := YG_12.out.later b13; have cYG_13_0 := Q.cells 0 _ rfl; have cYG_13_1 := Q.cells 1 _ rfl; have YG_13 := Lib.hid Q; clear Q; have BA_13 := Lib.hid (chainX w4 BA_12.out b13); have BVi0_13 := Lib.hid (chainX w6 BVi0_12.out b13); have RRi0_13 := Lib.hid (Rdb.below RRi0_12.out b13); have RFi1_13 := Lib.hid (Rows.below RFi1_12.out b13); have QTi1_13 := Lib.hid (ltL QTi1_12.out b13); have RRi1_13 := Lib.hid (Rows.below RRi1_12.out b13); have GLE_13 := Lib.hid (leL GLE_12.out b13); have RG_13 := Lib.hid (Own2.below RG_12.out b13); have TOPL_13 := Lib.hid (leL TOPL_12.out b13); have RRe0_13 := Lib.hid (Rdb.below RRe0_12.out b13); have BH13 := Lib.hid (chainX w BH12.out b13); clear b13))
      go_wp2_with fail
      refine (CP1.out (by omega) _ BH13.out).mono ?_
      rintro e w14 ⟨qe1, rfl, re1, -, -, -, b14⟩
      have Q := XH0_13.out.later b14
      have cXH0_14_0 := Q.cells 0 _ rfl
      have cXH0_14_1 := Q.cells 1 _ rfl
      have XH0_14 := Lib.hid Q
      clear Q
      have Q := YW_13.out.later b14
      have cYW_14_0 := Q.cells 0 _ rfl
      have cYW_14_1 := Q.cells 1 _ rfl
      have YW_14 := Lib.hid Q
      clear Q
      have Q := YH0_13.out.later b14
      have cYH0_14_0 := Q.cells 0 _ rfl
      have cYH0_14_1 := Q.cells 1 _ rfl
      have YH0_14 := Lib.hid Q
      clear Q
      have Q := YG_13.out.later b14
      have cYG_14_0 := Q.cells 0 _ rfl
      have cYG_14_1 := Q.cells 1 _ rfl
      have YG_14 := Lib.hid Q
      clear Q
      have BA_14 := Lib.hid (chainX w4 BA_13.out b14)
      have BVi0_14 := Lib.hid (chainX w6 BVi0_13.out b14)
      have RRi0_14 := Lib.hid (Rdb.below RRi0_13.out b14)
      have RFi1_14 := Lib.hid (Rows.below RFi1_13.out b14)
      have QTi1_14 := Lib.hid (ltL QTi1_13.out b14)
      have RRi1_14 := Lib.hid (Rows.below RRi1_13.out b14)
      have GLE_14 := Lib.hid (leL GLE_13.out b14)
      have RG_14 := Lib.hid (Own2.below RG_13.out b14)
      have TOPL_14 := Lib.hid (leL TOPL_13.out b14)
      have BH14 := Lib.hid (chainX w BH13.out b14)
      clear XH0_13 YW_13 YH0_13 YG_13 cXH0_13_0 cXH0_13_1 cYW_13_0 cYW_13_1 cYH0_13_0 cYH0_13_1 cYG_13_0 cYG_13_1 BA_13 BVi0_13 RRi0_13 RFi1_13 QTi1_13 RRi1_13 GLE_13 RG_13 TOPL_13
      have RRe1_14 := Lib.hid (Rows.weak re1 (Nat.zero_le _) id)
      clear re1
      have ANS := Lib.hid (EQ1.out (by omega) (some ⟨qi1, 0, none⟩) (some ⟨qe1, 0, none⟩) _ RRi1_14.out RRe1_14.out)
      go_wp2_with fail
      refine (ANS.out).mono ?_
      rintro e w15 ⟨rfl, b15⟩
      have Q := XH0_14.out.later b15
      have cXH0_15_0 := Q.cells 0 _ rfl
      have cXH0_15_1 := Q.cells 1 _ rfl
      have XH0_15 := Lib.hid Q
      clear Q
      have Q := YW_14.out.later b15
      have cYW_15_0 := Q.cells 0 _ rfl
      have cYW_15_1 := Q.cells 1 _ rfl
      have YW_15 := Lib.hid Q
      clear Q
      have Q := YH0_14.out.later b15
      have cYH0_15_0 := Q.cells 0 _ rfl
      have cYH0_15_1 := Q.cells 1 _ rfl
      have YH0_15 := Lib.hid Q
      clear Q
      have Q := YG_14.out.later b15
      have cYG_15_0 := Q.cells 0 _ rfl
      have cYG_15_1 := Q.cells 1 _ rfl
      have YG_15 := Lib.hid Q
      clear Q
      have BA_15 := Lib.hid (chainX w4 BA_14.out b15)
      have BVi0_15 := Lib.hid (chainX w6 BVi0_14.out b15)
      have RRi0_15 := Lib.hid (Rdb.below RRi0_14.out b15)
      have RFi1_15 := Lib.hid (Rows.below RFi1_14.out b15)
      have QTi1_15 := Lib.hid (ltL QTi1_14.out b15)
      have RRi1_15 := Lib.hid (Rows.below RRi1_14.out b15)
      have GLE_15 := Lib.hid (leL GLE_14.out b15)
      have RG_15 := Lib.hid (Own2.below RG_14.out b15)
      have TOPL_15 := Lib.hid (leL TOPL_14.out b15)
      have RRe1_15 := Lib.hid (Rows.below RRe1_14.out b15)
      have BH15 := Lib.hid (chainX w BH14.out b15)
      clear XH0_14 YW_14 YH0_14 YG_14 cXH0_14_0 cXH0_14_1 cYW_14_0 cYW_14_1 cYH0_14_0 cYH0_14_1 cYG_14_0 cYG_14_1 BA_14 BVi0_14 RRi0_14 RFi1_14 QTi1_14 RRi1_14 GLE_14 RG_14 TOPL_14 RRe1_14
      clear ANS
      clear HS
      have MK := Lib.hid (MKC0.out (by omega) avi0_0 cvi0_0 avi0_1 cvi0_1 (1) _ w6 _ (by omega) (by omega) RMi0_0.out RMi0_1.out (Shadow.of BVi0_15.out) BVi0_15.out.size)
      go_wp2_with fail
      refine MK.out.mono ?_
      rintro e w16 ⟨ki0, rfl, ki0a, ki0b, CX⟩
      have BL := CX.below (Nat.le_trans ZLEi0.out BVi0_15.out.size)
      have BA_16 := Lib.hid (BA_15.out.trans (BL.mono QAi0.out))
      have BH16 := Lib.hid (BH15.out.trans (BL.mono (Nat.le_trans WA.out QAi0.out)))
      clear BL
      have RG_16 := Lib.hid (Own2.high RG_15.out VCi0.out CX)
      have GLE_16 := Lib.hid (Nat.le_trans GLE_15.out CX.size)
      have TOPL_16 := Lib.hid (Nat.le_trans TOPL_15.out CX.size)
      have Q := bxChg XH0_15.out CX (Or.inl XLXH0i0.out)
      have cXH0_16_0 := Q.cells 0 _ rfl
      have cXH0_16_1 := Q.cells 1 _ rfl
      have XH0_16 := Lib.hid Q
      clear Q
      have Q := bxChg YW_15.out CX (Or.inl XLYWi0.out)
      have cYW_16_0 := Q.cells 0 _ rfl
      have cYW_16_1 := Q.cells 1 _ rfl
      have YW_16 := Lib.hid Q
      clear Q
      have Q := bxChg YG_15.out CX (Or.inr (Nat.le_trans VCi0.out GTOP.out))
      have cYG_16_0 := Q.cells 0 _ rfl
      have cYG_16_1 := Q.cells 1 _ rfl
      have YG_16 := Lib.hid Q
      clear Q
      have QTi1_16 := Lib.hid (Nat.lt_of_lt_of_le QTi1_15.out CX.size)
      have RFi1_16 := Lib.hid (CX.high (Rows.weak RFi1_15.out VVi0i1.out id))
      clear MK CX
      have MK := Lib.hid (markI qi1 d1.length d1 (ki0) _ _ (by omega) (by omega) (by omega) RFi1_16.out)
      go_wp2_with fail
      refine MK.out.mono ?_
      rintro e w17 ⟨ki1, rfl, ki1a, ki1b, CX⟩
      have BL := CX.below (Nat.le_of_lt QTi1_16.out)
      have BA_17 := Lib.hid (BA_16.out.trans (BL.mono QAi1.out))
      have BH17 := Lib.hid (BH16.out.trans (BL.mono (Nat.le_trans WA.out QAi1.out)))
      clear BL
      have RG_17 := Lib.hid (Own2.high RG_16.out QCi1.out CX)
      have GLE_17 := Lib.hid (Nat.le_trans GLE_16.out CX.size)
      have TOPL_17 := Lib.hid (Nat.le_trans TOPL_16.out CX.size)
      have Q := bxChg XH0_16.out CX (Or.inl XLXH0i1.out)
      have cXH0_17_0 := Q.cells 0 _ rfl
      have cXH0_17_1 := Q.cells 1 _ rfl
      have XH0_17 := Lib.hid Q
      clear Q
      have Q := bxChg YW_16.out CX (Or.inl XLYWi1.out)
      have cYW_17_0 := Q.cells 0 _ rfl
      have cYW_17_1 := Q.cells 1 _ rfl
      have YW_17 := Lib.hid Q
      clear Q
      have Q := bxChg YG_16.out CX (Or.inr (Nat.le_trans QCi1.out GTOP.out))
      have cYG_17_0 := Q.cells 0 _ rfl
      have cYG_17_1 := Q.cells 1 _ rfl
      have YG_17 := Lib.hid Q
      clear Q
      clear MK CX
      have dk := (decide_eq_false (by omega) : decide ((ki1 : Int) < 0) = false)
      go_wp2_with fail
      refine (EQA.out ag0 cg0 ag1 cg1 aw0 cw0 aw1 cw1 _ (Own2.rows RG_17.out) (RA.out.below BA_17.out) LGH.out LWH.out).mono ?_
      rintro e w18 ⟨rfl, b18⟩
      have Q := XH0_17.out.later b18
      have cXH0_18_0 := Q.cells 0 _ rfl
      have cXH0_18_1 := Q.cells 1 _ rfl
      have XH0_18 := Lib.hid Q
      clear Q
      have Q := YW_17.out.later b18
      have cYW_18_0 := Q.cells 0 _ rfl
      have cYW_18_1 := Q.cells 1 _ rfl
      have YW_18 := Lib.hid Q
      clear Q
      have Q := YG_17.out.later b18
      have cYG_18_0 := Q.cells 0 _ rfl
      have cYG_18_1 := Q.cells 1 _ rfl
      have YG_18 := Lib.hid Q
      clear Q
      have BA_18 := Lib.hid (chainX w4 BA_17.out b18)
      have GLE_18 := Lib.hid (leL GLE_17.out b18)
      have RG_18 := Lib.hid (Own2.below RG_17.out b18)
      have TOPL_18 := Lib.hid (leL TOPL_17.out b18)
      have BH18 := Lib.hid (chainX w BH17.out b18)
      clear XH0_17 YW_17 YG_17 cXH0_17_0 cXH0_17_1 cYW_17_0 cYW_17_1 cYG_17_0 cYG_17_1 BA_17 GLE_17 RG_17 TOPL_17
      have MG := Lib.hid (MKG.out ag0 cg0 ag1 cg1 _ _ _ RG_18.out)
      go_wp2_with fail
      refine MG.out.mono ?_
      rintro e w19 ⟨rfl, rm, CX⟩
      have Q := bxChg XH0_18.out CX (Or.inl XCXH0.out)
      have cXH0_19_0 := Q.cells 0 _ rfl
      have cXH0_19_1 := Q.cells 1 _ rfl
      have XH0_19 := Lib.hid Q
      clear Q
      have Q := bxChg YW_18.out CX (Or.inl XCYW.out)
      have cYW_19_0 := Q.cells 0 _ rfl
      have cYW_19_1 := Q.cells 1 _ rfl
      have YW_19 := Lib.hid Q
      clear Q
      have Q := bxChg YG_18.out CX (Or.inr (Nat.le_refl _))
      have cYG_19_0 := Q.cells 0 _ rfl
      have cYG_19_1 := Q.cells 1 _ rfl
      have YG_19 := Lib.hid Q
      clear Q
      have BL := CX.below (Nat.le_trans GTOP.out TOPL_18.out)
      have BA_19 := Lib.hid (BA_18.out.trans (BL.mono LC.out))
      have BH19 := Lib.hid (BH18.out.trans (BL.mono (Nat.le_trans WA.out LC.out)))
      clear BL
      have RK_19 := Lib.hid rm
      clear rm CX MG
      go_wp2_with fail
      refine (HLD.out ag0 cg0 ag1 cg1 _ RK_19.out).mono ?_
      rintro e w20 ⟨rfl, b20⟩
      have Q := XH0_19.out.later b20
      have cXH0_20_0 := Q.cells 0 _ rfl
      have cXH0_20_1 := Q.cells 1 _ rfl
      have XH0_20 := Lib.hid Q
      clear Q
      have Q := YW_19.out.later b20
      have cYW_20_0 := Q.cells 0 _ rfl
      have cYW_20_1 := Q.cells 1 _ rfl
      have YW_20 := Lib.hid Q
      clear Q
      have Q := YG_19.out.later b20
      have cYG_20_0 := Q.cells 0 _ rfl
      have cYG_20_1 := Q.cells 1 _ rfl
      have YG_20 := Lib.hid Q
      clear Q
      have BA_20 := Lib.hid (chainX w4 BA_19.out b20)
      have RK_20 := Lib.hid (Rw2.below RK_19.out b20)
      have BH20 := Lib.hid (chainX w BH19.out b20)
      clear XH0_19 YW_19 YG_19 cXH0_19_0 cXH0_19_1 cYW_19_0 cYW_19_1 cYG_19_0 cYG_19_1 BA_19 RK_19
      go_wp2_with fail
      refine (CP0.out (by omega) _ BH20.out).mono ?_
      rintro e w21 ⟨esh0, rfl, rh0, b21⟩
      have Q := XH0_20.out.later b21
      have cXH0_21_0 := Q.cells 0 _ rfl
      have cXH0_21_1 := Q.cells 1 _ rfl
      have XH0_21 := Lib.hid Q
      clear Q
      have Q := YW_20.out.later b21
      have cYW_21_0 := Q.cells 0 _ rfl
      have cYW_21_1 := Q.cells 1 _ rfl
      have YW_21 := Lib.hid Q
      clear Q
      have Q := YG_20.out.later b21
      have cYG_21_0 := Q.cells 0 _ rfl
      have cYG_21_1 := Q.cells 1 _ rfl
      have YG_21 := Lib.hid Q
      clear Q
      have BA_21 := Lib.hid (chainX w4 BA_20.out b21)
      have RK_21 := Lib.hid (Rw2.below RK_20.out b21)
      have BH21 := Lib.hid (chainX w BH20.out b21)
      clear XH0_20 YW_20 YG_20 cXH0_20_0 cXH0_20_1 cYW_20_0 cYW_20_1 cYG_20_0 cYG_20_1 BA_20 RK_20
      have RRh0_21 := Lib.hid (Rdb.weak rh0 (Nat.zero_le _) id)
      obtain ⟨avh0_0, cvh0_0, avh0_1, cvh0_1, rfl, fvh0_0, gvh0_0, fvh0_1, gvh0_1⟩ := shape_Disk rh0
      have RMh0_0 := Lib.hid fvh0_0
      have RMh0_1 := Lib.hid fvh0_1
      clear rh0 fvh0_0 fvh0_1
      go_wp2_with fail
      refine (CP1.out (by omega) _ BH21.out).mono ?_
      rintro e w22 ⟨qh1, rfl, rh1, -, -, -, b22⟩
      have Q := XH0_21.out.later b22
      have cXH0_22_0 := Q.cells 0 _ rfl
      have cXH0_22_1 := Q.cells 1 _ rfl
      have XH0_22 := Lib.hid Q
      clear Q
      have Q := YW_21.out.later b22
      have cYW_22_0 := Q.cells 0 _ rfl
      have cYW_22_1 := Q.cells 1 _ rfl
      have YW_22 := Lib.hid Q
      clear Q
      have Q := YG_21.out.later b22
      have cYG_22_0 := Q.cells 0 _ rfl
      have cYG_22_1 := Q.cells 1 _ rfl
      have YG_22 := Lib.hid Q
      clear Q
      have BA_22 := Lib.hid (chainX w4 BA_21.out b22)
      have RK_22 := Lib.hid (Rw2.below RK_21.out b22)
      have RRh0_22 := Lib.hid (Rdb.below RRh0_21.out b22)
      have BH22 := Lib.hid (chainX w BH21.out b22)
      clear XH0_21 YW_21 YG_21 cXH0_21_0 cXH0_21_1 cYW_21_0 cYW_21_1 cYG_21_0 cYG_21_1 BA_21 RK_21 RRh0_21
      have RRh1_22 := Lib.hid (Rows.weak rh1 (Nat.zero_le _) id)
      clear rh1
      have ANS := Lib.hid (HI.out (by omega) (by omega) ([.slice avh0_0 d0.sectors.length cvh0_0, .slice avh0_1 d0.waits.length cvh0_1]) (some ⟨qh1, 0, none⟩) _ RRh0_22.out RRh1_22.out)
      go_wp2_with fail
      refine (ANS.out).mono ?_
      rintro e w23 ⟨ah0, ch0, ah1, ch1, rfl, kh, lh, b23⟩
      have Q := XH0_22.out.later b23
      have cXH0_23_0 := Q.cells 0 _ rfl
      have cXH0_23_1 := Q.cells 1 _ rfl
      have XH0_23 := Lib.hid Q
      clear Q
      have Q := YW_22.out.later b23
      have cYW_23_0 := Q.cells 0 _ rfl
      have cYW_23_1 := Q.cells 1 _ rfl
      have YW_23 := Lib.hid Q
      clear Q
      have Q := YG_22.out.later b23
      have cYG_23_0 := Q.cells 0 _ rfl
      have cYG_23_1 := Q.cells 1 _ rfl
      have YG_23 := Lib.hid Q
      clear Q
      have BA_23 := Lib.hid (chainX w4 BA_22.out b23)
      have RK_23 := Lib.hid (Rw2.below RK_22.out b23)
      have RRh0_23 := Lib.hid (Rdb.below RRh0_22.out b23)
      have RRh1_23 := Lib.hid (Rows.below RRh1_22.out b23)
      have BH23 := Lib.hid (chainX w BH22.out b23)
      clear XH0_22 YW_22 YG_22 cXH0_22_0 cXH0_22_1 cYW_22_0 cYW_22_1 cYG_22_0 cYG_22_1 BA_22 RK_22 RRh0_22 RRh1_22
      clear ANS
      have RH_23 := Lib.hid kh
      clear kh
      have LHH := Lib.hid lh
      clear lh
      have LY := lay w23 (.cells #[.slice ah0 r.sectors.length ch0, .slice ah1 r.waits.length ch1] 36)
      have YN := BxN.new w23 #[.slice ah0 r.sectors.length ch0, .slice ah1 r.waits.length ch1] 36
      have Q := XH0_23.out.later LY
      have cXH0_24_0 := Q.cells 0 _ rfl
      have cXH0_24_1 := Q.cells 1 _ rfl
      have XH0_24 := Lib.hid Q
      clear Q
      have Q := YW_23.out.later LY
      have cYW_24_0 := Q.cells 0 _ rfl
      have cYW_24_1 := Q.cells 1 _ rfl
      have YW_24 := Lib.hid Q
      clear Q
      have Q := YG_23.out.later LY
      have cYG_24_0 := Q.cells 0 _ rfl
      have cYG_24_1 := Q.cells 1 _ rfl
      have YG_24 := Lib.hid Q
      clear Q
      have BA_24 := Lib.hid (chainX w4 BA_23.out LY)
      have RK_24 := Lib.hid (Rw2.below RK_23.out LY)
      have RRh0_24 := Lib.hid (Rdb.below RRh0_23.out LY)
      have RRh1_24 := Lib.hid (Rows.below RRh1_23.out LY)
      have RH_24 := Lib.hid (Own2.below RH_23.out LY)
      have cYK_24_0 := YN.cells 0 _ rfl
      have cYK_24_1 := YN.cells 1 _ rfl
      have YK_24 := Lib.hid YN
      have BH24 := Lib.hid (chainX w BH23.out LY)
      clear XH0_23 YW_23 YG_23 cXH0_23_0 cXH0_23_1 cYW_23_0 cYW_23_1 cYG_23_0 cYG_23_1 BA_23 RK_23 RRh0_23 RRh1_23 RH_23
      clear LY YN
      go_wp2_with fail
      refine (EQA.out ah0 ch0 ah1 ch1 aw0 cw0 aw1 cw1 _ (Own2.rows RH_24.out) (RA.out.below BA_24.out) LHH.out LWH.out).mono ?_
      rintro e w25 ⟨rfl, b25⟩
      have Q := XH0_24.out.later b25
      have cXH0_25_0 := Q.cells 0 _ rfl
      have cXH0_25_1 := Q.cells 1 _ rfl
      have XH0_25 := Lib.hid Q
      clear Q
      have Q := YW_24.out.later b25
      have cYW_25_0 := Q.cells 0 _ rfl
      have cYW_25_1 := Q.cells 1 _ rfl
      have YW_25 := Lib.hid Q
      clear Q
      have Q := YG_24.out.later b25
      have cYG_25_0 := Q.cells 0 _ rfl
      have cYG_25_1 := Q.cells 1 _ rfl
      have YG_25 := Lib.hid Q
      clear Q
      have Q := YK_24.out.later b25
      have cYK_25_0 := Q.cells 0 _ rfl
      have cYK_25_1 := Q.cells 1 _ rfl
      have YK_25 := Lib.hid Q
      clear Q
      have BA_25 := Lib.hid (chainX w4 BA_24.out b25)
      have RK_25 := Lib.hid (Rw2.below RK_24.out b25)
      have RRh0_25 := Lib.hid (Rdb.below RRh0_24.out b25)
      have RRh1_25 := Lib.hid (Rows.below RRh1_24.out b25)
      have RH_25 := Lib.hid (Own2.below RH_24.out b25)
      have BH25 := Lib.hid (chainX w BH24.out b25)
      clear XH0_24 YW_24 YG_24 YK_24 cXH0_24_0 cXH0_24_1 cYW_24_0 cYW_24_1 cYG_24_0 cYG_24_1 cYK_24_0 cYK_24_1 BA_24 RK_24 RRh0_24 RRh1_24 RH_24
      go_wp2_with fail
      refine (HLD.out ag0 cg0 ag1 cg1 _ RK_25.out).mono ?_
      rintro e w26 ⟨rfl, b26⟩
      have Q := XH0_25.out.later b26
      have cXH0_26_0 := Q.cells 0 _ rfl
      have cXH0_26_1 := Q.cells 1 _ rfl
      have XH0_26 := Lib.hid Q
      clear Q
      have Q := YW_25.out.later b26
      have cYW_26_0 := Q.cells 0 _ rfl
      have cYW_26_1 := Q.cells 1 _ rfl
      have YW_26 := Lib.hid Q
      clear Q
      have Q := YG_25.out.later b26
      have cYG_26_0 := Q.cells 0 _ rfl
      have cYG_26_1 := Q.cells 1 _ rfl
      have YG_26 := Lib.hid Q
      clear Q
      have Q := YK_25.out.later b26
      have cYK_26_0 := Q.cells 0 _ rfl
      have cYK_26_1 := Q.cells 1 _ rfl
      have YK_26 := Lib.hid Q
      clear Q
      have BA_26 := Lib.hid (chainX w4 BA_25.out b26)
      have RK_26 := Lib.hid (Rw2.below RK_25.out b26)
      have RRh0_26 := Lib.hid (Rdb.below RRh0_25.out b26)
      have RRh1_26 := Lib.hid (Rows.below RRh1_25.out b26)
      have RH_26 := Lib.hid (Own2.below RH_25.out b26)
      have BH26 := Lib.hid (chainX w BH25.out b26)
      clear XH0_25 YW_25 YG_25 YK_25 cXH0_25_0 cXH0_25_1 cYW_25_0 cYW_25_1 cYG_25_0 cYG_25_1 cYK_25_0 cYK_25_1 BA_25 RK_25 RRh0_25 RRh1_25 RH_25
      all_goals
        go_wp2
        go_ret
        exact ⟨rfl, BH26.out⟩
    · skip
      go_enter Try.func4, Try.ntmps4
      have V0 := SZ0.out (1048576) (by omega) (by omega) _ BH0.out
      unfold SzB at V0
      rw [show szI (1048576) s0 = -1 from szI_no (by omega)] at V0
      have VH0 := Lib.hid V0
      clear V0
      go_wp2_with fail
      refine (VH0.out).mono ?_
      rintro e w1 ⟨rfl, b1⟩
      have Q := XH0_0.out.later b1
      have cXH0_1_0 := Q.cells 0 _ rfl
      have cXH0_1_1 := Q.cells 1 _ rfl
      have XH0_1 := Lib.hid Q
      clear Q
      have BH1 := Lib.hid (chainX w BH0.out b1)
      clear XH0_0
      go_wp2
      go_ret
      exact ⟨rfl, BH1.out⟩
  · have dl1 : decide ((1048576 : Int) < (d1.length : Int)) = true := decide_eq_true (by omega)
    go_enter Try.func4, Try.ntmps4
    go_wp2
    go_ret
    exact ⟨rfl, BH0.out⟩
end Go.Proofs.Ytdieekgihdikdaa.Rd
