/-
  The exact law of FnExactWriteAll, given the model's answer and the program's (written by tools/gen/lawgen.py).
-/
import Derived.Test.YtpafhbnjefdhjaaMtk
import Derived.Deep.RegionHeld3
namespace Go.Proofs.Ytpafhbnjefdhjaa.Rd
open Go.RowKit Go.ChangeShapes Go.WideShapes
open Go.Proofs.Ytpafhbnjefdhjaa.Sg (BxN)
set_option linter.unusedVariables false
set_option linter.unusedSimpArgs false

set_option maxRecDepth 100000 in
set_option maxHeartbeats 4000000 in
theorem fnFnExactWriteAll {cs0 : List Value} (d0 : DDisk) (x1 : Int) (a2 : Option Addr) (cap2 : Nat) (d2 : List ByteArray) (r : DDisk) (rc : Int) (hr : Rdb.sz r ≤ 2097152) (w : World) (h0 : Rdb.rd false 0 w cs0 d0) (h2 : d2.length ≤ 9223372036854775807 ∧ Rows false 0 w a2 d2) (hS : Rdb.sz d0 ≤ 1048576 → Rdb.sz d2 ≤ 1048576 → ∀ (es0 : List Value) (e2 : Option Addr) w' (k0 : Rdb.rd true 0 w' es0 d0) (k2 : Rows true 0 w' e2 d2), Calls Try.prog 28 #[.agg es0.toArray, .int .i64 x1, .slice e2 d2.length d2.length] w' (AnsKR r rc w')) (hI : Rdb.sz d0 ≤ 1048576 → Rdb.sz d2 ≤ 1048576 → ∀ (es0 : List Value) (e2 : Option Addr) w' (k0 : Rdb.rd true 0 w' es0 d0) (k2 : Rows true 0 w' e2 d2), Calls Try.prog 30 #[.agg es0.toArray, .int .i64 x1, .slice e2 d2.length d2.length] w' (AnsK r rc w')) :
    Calls Try.prog 7 #[.agg cs0.toArray, .int .i64 x1, .slice a2 d2.length cap2] w (RetW (.bool true) w) := by
  obtain ⟨a0_0, c0_0, a0_1, c0_1, rfl, f0_0, g0_0, f0_1, g0_1⟩ := shape_Disk h0
  obtain ⟨g2, h2⟩ := h2
  have BH0 := Lib.hid (lay w (.cells #[.slice a0_0 d0.sectors.length c0_0, .slice a0_1 d0.waits.length c0_1] 25))
  have Q0 := BxN.new w #[.slice a0_0 d0.sectors.length c0_0, .slice a0_1 d0.waits.length c0_1] 25
  have XH0_0 := Lib.hid Q0
  clear Q0
  have SZ0 := Lib.hid (fun (lf : Int) (p0 : 0 ≤ lf) (p1 : lf ≤ 2097152) w' (b : Below w.heap.size w w') => szDisk d0 lf p0 p1 w' (mk_Disk (d := d0) (a0 := a0_0) (c0 := c0_0) (a1 := a0_1) (c1 := c0_1) (f0_0.below b) g0_0 (f0_1.below b) g0_1))
  have CP0 := Lib.hid (fun (z : Rdb.sz d0 ≤ 2097152) w' (b : Below w.heap.size w w') => toDisk d0 w' z (mk_Disk (d := d0) (a0 := a0_0) (c0 := c0_0) (a1 := a0_1) (c1 := c0_1) (f0_0.below b) g0_0 (f0_1.below b) g0_1))
  have EQ0 := Lib.hid (fun (z : Rdb.sz d0 ≤ 2097152) (cs ds : List Value) w' (k1 : Rdb.rd true 0 w' cs d0) (k2 : Rdb.rd true 0 w' ds d0) => eqDisk d0 w' z k1 k2)
  have SZ2 := Lib.hid (fun (lf : Int) (p0 : 0 ≤ lf) (p1 : lf ≤ 2097152) w' (b : Below w.heap.size w w') => szStringS a2 cap2 d2 lf p0 p1 w' g2 (h2.below b))
  have CP2 := Lib.hid (fun (z : Rdb.sz d2 ≤ 2097152) w' (b : Below w.heap.size w w') => toStringS a2 cap2 d2 w' z (h2.below b))
  have EQ2 := Lib.hid (fun (z : Rdb.sz d2 ≤ 2097152) (p q : Option Addr) w' (k1 : Rows true 0 w' p d2) (k2 : Rows true 0 w' q d2) => eqStringS p q d2.length d2.length d2 w' z k1 k2)
  have HS := Lib.hid hS
  have HI := Lib.hid hI
  clear hS hI
  obtain ⟨mm, hmm⟩ : ∃ mm : Int, mm = 1 + (r.sectors.length : Int) + 2 * (r.waits.length : Int) := ⟨_, rfl⟩
  have MKC0 := Lib.hid (fun (z : Rdb.sz d0 ≤ 2097152) (a0 : Option Addr) (c0 : Nat) (a1 : Option Addr) (c1 : Nat) (kk : Int) (lo : Nat) (v W : World) k0 k1 h0 h1 hs hz => markDiskB d0 a0 c0 a1 c1 kk lo v W z k0 k1 h0 h1 hs hz)
  have MKC2 := Lib.hid (fun (z : Rdb.sz d2 ≤ 2097152) (a : Option Addr) (cap : Nat) (kk : Int) (lo : Nat) (v W : World) k0 k1 h hs hz => markStringSB a cap d2 kk lo v W z k0 k1 h hs hz)
  have EQA := Lib.hid (fun (p0 : Option Addr) (c0 : Nat) (p1 : Option Addr) (c1 : Nat) (q0 : Option Addr) (e0 : Nat) (q1 : Option Addr) (e1 : Nat) W (k1 : Rw2 W r p0 p1) (k2 : Rw2 W r q0 q1) (z1 : r.sectors.length ≤ c0 ∧ r.waits.length ≤ c1) (z2 : r.sectors.length ≤ e0 ∧ r.waits.length ≤ e1) => eqK r p0 c0 p1 c1 q0 e0 q1 e1 W hr k1 k2 z1 z2)
  have MKG := Lib.hid (fun (p0 : Option Addr) (c0 : Nat) (p1 : Option Addr) (c1 : Nat) (lo hi : Nat) W (k1 : Own2 lo hi W r p0 p1) => markK r p0 c0 p1 c1 mm hmm lo hi W hr k1)
  have HLD := Lib.hid (fun (p0 : Option Addr) (c0 : Nat) (p1 : Option Addr) (c1 : Nat) W (k1 : Rw2 W (mkDisk r) p0 p1) => heldK r p0 c0 p1 c1 mm hmm W hr k1)
  clear hr
  have dm := (decide_eq_false (by omega) : decide (mm < 0) = false)
  have dm2 : (mm != mm) = false := by simp
  clear hmm
  clear f0_0 f0_1 h2
  have LNT2 := Lib.hid (sz_len d2)
  generalize hs0 : Rdb.sz d0 = s0 at *
  clear hs0
  generalize hs2 : Rdb.sz d2 = s2 at *
  clear hs2
  by_cases q0 : (s0 : Int) ≤ 1048576
  · skip
    by_cases q1 : (s0 : Int) + (s2 : Int) ≤ 1048576
    · skip
      go_enter Try.func7, Try.ntmps7
      have V0 := SZ0.out (1048576) (by omega) (by omega) _ BH0.out
      unfold SzB at V0
      rw [show szI (1048576) s0 = 1048576 - (s0 : Int) from szI_yes (by omega)] at V0
      have VH0 := Lib.hid V0
      clear V0
      go_wp2_with fail
      refine (VH0.out).mono ?_
      rintro e w1 ⟨rfl, b1⟩
      have Q := XH0_0.out.later b1
      have cXH0_1_0 := Q.cells 0 _ rfl
      have cXH0_1_1 := Q.cells 1 _ rfl
      have XH0_1 := Lib.hid Q
      clear Q
      have BH1 := Lib.hid (chainX w BH0.out b1)
      clear XH0_0
      have V1 := SZ2.out (1048576 - (s0 : Int)) (by omega) (by omega) _ BH1.out
      unfold SzB at V1
      rw [show szI (1048576 - (s0 : Int)) s2 = 1048576 - (s0 : Int) - (s2 : Int) from szI_yes (by omega)] at V1
      have VH1 := Lib.hid V1
      clear V1
      go_wp2_with fail
      refine (VH1.out).mono ?_
      rintro e w2 ⟨rfl, b2⟩
      have Q := XH0_1.out.later b2
      have cXH0_2_0 := Q.cells 0 _ rfl
      have cXH0_2_1 := Q.cells 1 _ rfl
      have XH0_2 := Lib.hid Q
      clear Q
      have BH2 := Lib.hid (chainX w BH1.out b2)
      clear XH0_1 cXH0_1_0 cXH0_1_1
      have CPx := True.intro
      go_wp2_with fail
      refine (CP0.out (by omega) _ BH2.out).mono ?_
      rintro e w3 ⟨ess0, rfl, rs0, b3⟩
      have Q := XH0_2.out.later b3
      have cXH0_3_0 := Q.cells 0 _ rfl
      have cXH0_3_1 := Q.cells 1 _ rfl
      have XH0_3 := Lib.hid Q
      clear Q
      have BH3 := Lib.hid (chainX w BH2.out b3)
      clear XH0_2 cXH0_2_0 cXH0_2_1
      have RRs0_3 := Lib.hid (Rdb.weak rs0 (Nat.zero_le _) id)
      obtain ⟨avs0_0, cvs0_0, avs0_1, cvs0_1, rfl, fvs0_0, gvs0_0, fvs0_1, gvs0_1⟩ := shape_Disk rs0
      have RMs0_0 := Lib.hid fvs0_0
      have RMs0_1 := Lib.hid fvs0_1
      clear rs0 fvs0_0 fvs0_1
      go_wp2_with fail
      refine (CP2.out (by omega) _ BH3.out).mono ?_
      rintro e w4 ⟨qs2, rfl, rs2, -, -, -, b4⟩
      have Q := XH0_3.out.later b4
      have cXH0_4_0 := Q.cells 0 _ rfl
      have cXH0_4_1 := Q.cells 1 _ rfl
      have XH0_4 := Lib.hid Q
      clear Q
      have RRs0_4 := Lib.hid (Rdb.below RRs0_3.out b4)
      have BH4 := Lib.hid (chainX w BH3.out b4)
      clear XH0_3 cXH0_3_0 cXH0_3_1 RRs0_3
      have RRs2_4 := Lib.hid (Rows.weak rs2 (Nat.zero_le _) id)
      clear rs2
      have ANS := Lib.hid (HS.out (by omega) (by omega) ([.slice avs0_0 d0.sectors.length cvs0_0, .slice avs0_1 d0.waits.length cvs0_1]) (some ⟨qs2, 0, none⟩) _ RRs0_4.out RRs2_4.out)
      go_wp2_with fail
      refine (ANS.out).mono ?_
      rintro e w5 ⟨aw0, cw0, aw1, cw1, rfl, kw, lw, b5⟩
      have Q := XH0_4.out.later b5
      have cXH0_5_0 := Q.cells 0 _ rfl
      have cXH0_5_1 := Q.cells 1 _ rfl
      have XH0_5 := Lib.hid Q
      clear Q
      have RRs0_5 := Lib.hid (Rdb.below RRs0_4.out b5)
      have RRs2_5 := Lib.hid (Rows.below RRs2_4.out b5)
      have BH5 := Lib.hid (chainX w BH4.out b5)
      clear XH0_4 cXH0_4_0 cXH0_4_1 RRs0_4 RRs2_4
      clear ANS
      have LWH := Lib.hid lw
      clear lw
      have RA := Lib.hid kw
      clear kw
      have BA_5 := Lib.hid (Below.refl w5.heap.size w5)
      have WA := Lib.hid (BH5.out.size)
      have LY := lay w5 (.cells #[.slice aw0 r.sectors.length cw0, .slice aw1 r.waits.length cw1] 30)
      have YN := BxN.new w5 #[.slice aw0 r.sectors.length cw0, .slice aw1 r.waits.length cw1] 30
      have Q := XH0_5.out.later LY
      have cXH0_6_0 := Q.cells 0 _ rfl
      have cXH0_6_1 := Q.cells 1 _ rfl
      have XH0_6 := Lib.hid Q
      clear Q
      have BA_6 := Lib.hid (chainX w5 BA_5.out LY)
      have cYW_6_0 := YN.cells 0 _ rfl
      have cYW_6_1 := YN.cells 1 _ rfl
      have YW_6 := Lib.hid YN
      have BH6 := Lib.hid (chainX w BH5.out LY)
      clear XH0_5 cXH0_5_0 cXH0_5_1 BA_5
      clear LY YN
      have LAi0 := Lib.hid BA_6.out.size
      have XLXH0i0 := Lib.hid XH0_6.out.lt
      have XLYWi0 := Lib.hid YW_6.out.lt
      go_wp2_with fail
      refine (CP0.out (by omega) _ BH6.out).mono ?_
      rintro e w7 ⟨esi0, rfl, ri0, b7⟩
      have Q := XH0_6.out.later b7
      have cXH0_7_0 := Q.cells 0 _ rfl
      have cXH0_7_1 := Q.cells 1 _ rfl
      have XH0_7 := Lib.hid Q
      clear Q
      have Q := YW_6.out.later b7
      have cYW_7_0 := Q.cells 0 _ rfl
      have cYW_7_1 := Q.cells 1 _ rfl
      have YW_7 := Lib.hid Q
      clear Q
      have BA_7 := Lib.hid (chainX w5 BA_6.out b7)
      have BH7 := Lib.hid (chainX w BH6.out b7)
      clear XH0_6 YW_6 cXH0_6_0 cXH0_6_1 cYW_6_0 cYW_6_1 BA_6
      have ZLEi0 := Lib.hid b7.size
      have QAi0 := LAi0
      have BVi0_7 := Lib.hid (Below.refl w7.heap.size w7)
      have RRi0_7 := Lib.hid (Rdb.weak ri0 (Nat.zero_le _) id)
      obtain ⟨avi0_0, cvi0_0, avi0_1, cvi0_1, rfl, fvi0_0, gvi0_0, fvi0_1, gvi0_1⟩ := shape_Disk ri0
      have RMi0_0 := Lib.hid fvi0_0
      have RMi0_1 := Lib.hid fvi0_1
      clear ri0 fvi0_0 fvi0_1
      have LY := lay w7 (.cells #[.slice avi0_0 d0.sectors.length cvi0_0, .slice avi0_1 d0.waits.length cvi0_1] 30)
      have YN := BxN.new w7 #[.slice avi0_0 d0.sectors.length cvi0_0, .slice avi0_1 d0.waits.length cvi0_1] 30
      have Q := XH0_7.out.later LY
      have cXH0_8_0 := Q.cells 0 _ rfl
      have cXH0_8_1 := Q.cells 1 _ rfl
      have XH0_8 := Lib.hid Q
      clear Q
      have Q := YW_7.out.later LY
      have cYW_8_0 := Q.cells 0 _ rfl
      have cYW_8_1 := Q.cells 1 _ rfl
      have YW_8 := Lib.hid Q
      clear Q
      have BA_8 := Lib.hid (chainX w5 BA_7.out LY)
      have BVi0_8 := Lib.hid (chainX w7 BVi0_7.out LY)
      have RRi0_8 := Lib.hid (Rdb.below RRi0_7.out LY)
      have cYH0_8_0 := YN.cells 0 _ rfl
      have cYH0_8_1 := YN.cells 1 _ rfl
      have YH0_8 := Lib.hid YN
      have BH8 := Lib.hid (chainX w BH7.out LY)
      clear XH0_7 YW_7 cXH0_7_0 cXH0_7_1 cYW_7_0 cYW_7_1 BA_7 BVi0_7 RRi0_7
      clear LY YN
      have LAi2 := Lib.hid BA_8.out.size
      have XLXH0i2 := Lib.hid XH0_8.out.lt
      have XLYWi2 := Lib.hid YW_8.out.lt
      have XLYH0i2 := Lib.hid YH0_8.out.lt
      have VVi0i2 := Lib.hid BVi0_8.out.size
      go_wp2_with fail
      refine (CP2.out (by omega) _ BH8.out).mono ?_
      rintro e w9 ⟨qi2, rfl, ri2, loi2, lti2, -, b9⟩
      have Q := XH0_8.out.later b9
      have cXH0_9_0 := Q.cells 0 _ rfl
      have cXH0_9_1 := Q.cells 1 _ rfl
      have XH0_9 := Lib.hid Q
      clear Q
      have Q := YW_8.out.later b9
      have cYW_9_0 := Q.cells 0 _ rfl
      have cYW_9_1 := Q.cells 1 _ rfl
      have YW_9 := Lib.hid Q
      clear Q
      have Q := YH0_8.out.later b9
      have cYH0_9_0 := Q.cells 0 _ rfl
      have cYH0_9_1 := Q.cells 1 _ rfl
      have YH0_9 := Lib.hid Q
      clear Q
      have BA_9 := Lib.hid (chainX w5 BA_8.out b9)
      have BVi0_9 := Lib.hid (chainX w7 BVi0_8.out b9)
      have RRi0_9 := Lib.hid (Rdb.below RRi0_8.out b9)
      have BH9 := Lib.hid (chainX w BH8.out b9)
      clear XH0_8 YW_8 YH0_8 cXH0_8_0 cXH0_8_1 cYW_8_0 cYW_8_1 cYH0_8_0 cYH0_8_1 BA_8 BVi0_8 RRi0_8
      have RFi2_9 := Lib.hid ri2
      have XLXH0i2 := Lib.hid (Nat.lt_of_lt_of_le XLXH0i2.out loi2)
      have XLYWi2 := Lib.hid (Nat.lt_of_lt_of_le XLYWi2.out loi2)
      have XLYH0i2 := Lib.hid (Nat.lt_of_lt_of_le XLYH0i2.out loi2)
      have QAi2 := Lib.hid (Nat.le_trans LAi2.out loi2)
      have QTi2_9 := Lib.hid lti2
      clear loi2 lti2
      have RRi2_9 := Lib.hid (Rows.weak ri2 (Nat.zero_le _) id)
      clear ri2
      have XCXH0 := Lib.hid XH0_9.out.lt
      have XCYW := Lib.hid YW_9.out.lt
      have XCYH0 := Lib.hid YH0_9.out.lt
      have LC := Lib.hid BA_9.out.size
      have QCi2 := QTi2_9
      have VCi0 := Lib.hid BVi0_9.out.size
      have ANS := Lib.hid (HI.out (by omega) (by omega) ([.slice avi0_0 d0.sectors.length cvi0_0, .slice avi0_1 d0.waits.length cvi0_1]) (some ⟨qi2, 0, none⟩) _ RRi0_9.out RRi2_9.out)
      go_wp2_with fail
      refine (ANS.out).mono ?_
      rintro e w10 ⟨ag0, cg0, ag1, cg1, rfl, kg, lg, b10⟩
      have Q := XH0_9.out.later b10
      have cXH0_10_0 := Q.cells 0 _ rfl
      have cXH0_10_1 := Q.cells 1 _ rfl
      have XH0_10 := Lib.hid Q
      clear Q
      have Q := YW_9.out.later b10
      have cYW_10_0 := Q.cells 0 _ rfl
      have cYW_10_1 := Q.cells 1 _ rfl
      have YW_10 := Lib.hid Q
      clear Q
      have Q := YH0_9.out.later b10
      have cYH0_10_0 := Q.cells 0 _ rfl
      have cYH0_10_1 := Q.cells 1 _ rfl
      have YH0_10 := Lib.hid Q
      clear Q
      have BA_10 := Lib.hid (chainX w5 BA_9.out b10)
      have BVi0_10 := Lib.hid (chainX w7 BVi0_9.out b10)
      have RRi0_10 := Lib.hid (Rdb.below RRi0_9.out b10)
      have RFi2_10 := Lib.hid (Rows.below RFi2_9.out b10)
      have QTi2_10 := Lib.hid (ltL QTi2_9.out b10)
      have RRi2_10 := Lib.hid (Rows.below RRi2_9.out b10)
      have BH10 := Lib.hid (chainX w BH9.out b10)
      clear XH0_9 YW_9 YH0_9 cXH0_9_0 cXH0_9_1 cYW_9_0 cYW_9_1 cYH0_9_0 cYH0_9_1 BA_9 BVi0_9 RRi0_9 RFi2_9 QTi2_9 RRi2_9
      clear ANS
      have LGH := Lib.hid lg
      clear lg
      have RGT := Lib.hid kg
      have GTOP := Lib.hid b10.size
      have RG_10 := Lib.hid kg
      clear kg
      have GLE_10 := Lib.hid b10.size
      have TOPL_10 := Lib.hid (Nat.le_refl w10.heap.size)
      have LY := lay w10 (.cells #[.slice ag0 r.sectors.length cg0, .slice ag1 r.waits.length cg1] 30)
      have YN := BxN.new w10 #[.slice ag0 r.sectors.length cg0, .slice ag1 r.waits.length cg1] 30
      have Q := XH0_10.out.later LY
      have cXH0_11_0 := Q.cells 0 _ rfl
      have cXH0_11_1 := Q.cells 1 _ rfl
      have XH0_11 := Lib.hid Q
      clear Q
      have Q := YW_10.out.later LY
      have cYW_11_0 := Q.cells 0 _ rfl
      have cYW_11_1 := Q.cells 1 _ rfl
      have YW_11 := Lib.hid Q
      clear Q
      have Q := YH0_10.out.later LY
      have cYH0_11_0 := Q.cells 0 _ rfl
      have cYH0_11_1 := Q.cells 1 _ rfl
      have YH0_11 := Lib.hid Q
      clear Q
      have BA_11 := Lib.hid (chainX w5 BA_10.out LY)
      have BVi0_11 := Lib.hid (chainX w7 BVi0_10.out LY)
      have RRi0_11 := Lib.hid (Rdb.below RRi0_10.out LY)
      have RFi2_11 := Lib.hid (Rows.below RFi2_10.out LY)
      have QTi2_11 := Lib.hid (ltL QTi2_10.out LY)
      have RRi2_11 := Lib.hid (Rows.below RRi2_10.out LY)
      have GLE_11 := Lib.hid (leL GLE_10.out LY)
      have RG_11 := Lib.hid (Own2.below RG_10.out LY)
      have TOPL_11 := Lib.hid (leL TOPL_10.out LY)
      have cYG_11_0 := YN.cells 0 _ rfl
      have cYG_11_1 := YN.cells 1 _ rfl
      have YG_11 := Lib.hid YN
      have BH11 := Lib.hid (chainX w BH10.out LY)
      clear XH0_10 YW_10 YH0_10 cXH0_10_0 cXH0_10_1 cYW_10_0 cYW_10_1 cYH0_10_0 cYH0_10_1 BA_10 BVi0_10 RRi0_10 RFi2_10 QTi2_10 RRi2_10 GLE_10 RG_10 TOPL_10
      clear LY YN
      go_wp2_with fail
      refine (EQA.out ag0 cg0 ag1 cg1 aw0 cw0 aw1 cw1 _ (Own2.rows RG_11.out) (RA.out.below BA_11.out) LGH.out LWH.out).mono ?_
      rintro e w12 ⟨rfl, b12⟩
      have Q := XH0_11.out.later b12
      have cXH0_12_0 := Q.cells 0 _ rfl
      have cXH0_12_1 := Q.cells 1 _ rfl
      have XH0_12 := Lib.hid Q
      clear Q
      have Q := YW_11.out.later b12
      have cYW_12_0 := Q.cells 0 _ rfl
      have cYW_12_1 := Q.cells 1 _ rfl
      have YW_12 := Lib.hid Q
      clear Q
      have Q := YH0_11.out.later b12
      have cYH0_12_0 := Q.cells 0 _ rfl
      have cYH0_12_1 := Q.cells 1 _ rfl
      have YH0_12 := Lib.hid Q
      clear Q
      have Q := YG_11.out.later b12
      have cYG_12_0 := Q.cells 0 _ rfl
      have cYG_12_1 := Q.cells 1 _ rfl
      have YG_12 := Lib.hid Q
      clear Q
      have BA_12 := Lib.hid (chainX w5 BA_11.out b12)
      have BVi0_12 := Lib.hid (chainX w7 BVi0_11.out b12)
      have RRi0_12 := Lib.hid (Rdb.below RRi0_11.out b12)
      have RFi2_12 := Lib.hid (Rows.below RFi2_11.out b12)
      have QTi2_12 := Lib.hid (ltL QTi2_11.out b12)
      have RRi2_12 := Lib.hid (Rows.below RRi2_11.out b12)
      have GLE_12 := Lib.hid (leL GLE_11.out b12)
      have RG_12 := Lib.hid (Own2.below RG_11.out b12)
      have TOPL_12 := Lib.hid (leL TOPL_11.out b12)
      have BH12 := Lib.hid (chainX w BH11.out b12)
      clear XH0_11 YW_11 YH0_11 YG_11 cXH0_11_0 cXH0_11_1 cYW_11_0 cYW_11_1 cYH0_11_0 cYH0_11_1 cYG_11_0 cYG_11_1 BA_11 BVi0_11 RRi0_11 RFi2_11 QTi2_11 RRi2_11 GLE_11 RG_11 TOPL_11
      go_wp2_with fail
      go_region_held3 (fun w' => w'.cell? ⟨w.heap.size, 0, none⟩ = some (.slice a0_0 d0.sectors.length c0_0) ∧ w'.cell? ⟨w.heap.size, 1, none⟩ = some (.slice a0_1 d0.waits.length c0_1) ∧ w'.cell? ⟨w5.heap.size, 0, none⟩ = some (.slice aw0 r.sectors.length cw0) ∧ w'.cell? ⟨w5.heap.size, 1, none⟩ = some (.slice aw1 r.waits.length cw1) ∧ w'.cell? ⟨w7.heap.size, 0, none⟩ = some (.slice avi0_0 d0.sectors.length cvi0_0) ∧ w'.cell? ⟨w7.heap.size, 1, none⟩ = some (.slice avi0_1 d0.waits.length cvi0_1) ∧ w'.cell? ⟨w10.heap.size, 0, none⟩ = some (.slice ag0 r.sectors.length cg0) ∧ w'.cell? ⟨w10.heap.size, 1, none⟩ = some (.slice ag1 r.waits.length cg1)) (go_keep)
        (first
          | (go_at_call 16; refine (CP0.out (by omega) _ BH12.out.drew).mono ?_; rintro e w13 ⟨ese0, rfl, re0, b13⟩; have b13 := undrewX b13; have Q := XH0_12.out.later b13; have cXH0_13_0 := Q.cells 0 _ rfl; have cXH0_13_1 := Q.cells 1 _ rfl; have XH0_13 := Lib.hid Q; clear Q; have Q := YW_12.out.later b13; have cYW_13_0 := Q.cells 0 _ rfl; have cYW_13_1 := Q.cells 1 _ rfl; have YW_13 := Lib.hid Q; clear Q; have Q := YH0_12.out.later b13; have cYH0_13_0 := Q.cells 0 _ rfl; have cYH0_13_1 := Q.cells 1 _ rfl; have YH0_13 := Lib.hid Q; clear Q; have Q := YG_12.out.later b13; have cYG_13_0 := Q.cells 0 _ rfl; have cYG_13_1 := Q.cells 1 _ rfl; have YG_13 := Lib.hid Q; clear Q; have BA_13 := Lib.hid (chainX w5 BA_12.out b13); have BVi0_13 := Lib.hid (chainX w7 BVi0_12.out b13); have RRi0_13 := Lib.hid (Rdb.below RRi0_12.out b13); have RFi2_13 := Lib.hid (Rows.below RFi2_12.out b13); have QTi2_13 := Lib.hid (ltL QTi2_12.out b13); have RRi2_13 := Lib.hid (Rows.below RRi2_12.out b13); have GLE_13 := Lib.hid (leL GLE_12.out b13); have RG_13 := Lib.hid (Own2.below RG_12.out b13); have TOPL_13 := Lib.hid (leL TOPL_12.out b13); have BH13 := Lib.hid (chainX w BH12.out b13); clear b13; have RRe0_13 := Lib.hid (Rdb.weak re0 (Nat.zero_le _) id); obtain ⟨ave0_0, cve0_0, ave0_1, cve0_1, rfl, fve0_0, gve0_0, fve0_1, gve0_1⟩ := shape_Disk re0; have RMe0_0 := Lib.hid fve0_0; have RMe0_1 := Lib.hid fve0_1; clear re0 fve0_0 fve0_1)
          | (go_at_call 18; refine (EQ0.out (by omega) ([.slice avi0_0 d0.sectors.length cvi0_0, .slice avi0_1 d0.waits.length cvi0_1]) ([.slice ave0_0 d0.sectors.length cve0_0, .slice ave0_1 d0.waits.length cve0_1]) _ RRi0_13.out RRe0_13.out).mono ?_; rintro e w14 ⟨rfl, b14⟩; have Q := XH0_13.out.later b14; have cXH0_14_0 := Q.cells 0 _ rfl; have cXH0_14_1 := Q.cells 1 _ rfl; have XH0_14 := Lib.hid Q; clear Q; have Q := YW_13.out.later b14; have cYW_14_0 := Q.cells 0 _ rfl; have cYW_14_1 := Q.cells 1 _ rfl; have YW_14 := Lib.hid Q; clear Q; have Q := YH0_13.out.later b14; have cYH0_14_0 := Q.cells 0 _ rfl; have cYH0_14_1 := Q.cells 1 _ rfl; have YH0_14 := Lib.hid Q; clear Q; have Q := YG_13.out.later b14; have cYG_14_0 := Q.cells 0 _ rfl; have cYG_14_1 := Q.cells 1 _ rfl; have YG_14 := Lib.hid Q; clear Q; have BA_14 := Lib.hid (chainX w5 BA_13.out b14); have BVi0_14 := Lib.hid (chainX w7 BVi0_13.out b14); have RRi0_14 := Lib.hid (Rdb.below RRi0_13.out b14); have RFi2_14 := Lib.hid (Rows.below RFi2_13.out b14); have QTi2_14 := Lib.hid (ltL QTi2_13.out b14); have RRi2_14 := Lib.hid (Rows.below RRi2_13.out b14); have GLE_14 := Lib.hid (leL GLE_13.out b14); have RG_14 := Lib.hid (Own2.below RG_13.out b14); have TOPL_14 := Lib.hid (leL TOPL_13.out b14); have RRe0_14 := Lib.hid (Rdb.below RRe0_13.out b14); have BH14 := Lib.hid (chainX w BH13.out b14); clear b14))
      go_wp2_with fail
      refine (CP2.out (by omega) _ BH14.out).mono ?_
      rintro e w15 ⟨qe2, rfl, re2, -, -, -, b15⟩
      have Q := XH0_14.out.later b15
      have cXH0_15_0 := Q.cells 0 _ rfl
      have cXH0_15_1 := Q.cells 1 _ rfl
      have XH0_15 := Lib.hid Q
      clear Q
      have Q := YW_14.out.later b15
      have cYW_15_0 := Q.cells 0 _ rfl
      have cYW_15_1 := Q.cells 1 _ rfl
      have YW_15 := Lib.hid Q
      clear Q
      have Q := YH0_14.out.later b15
      have cYH0_15_0 := Q.cells 0 _ rfl
      have cYH0_15_1 := Q.cells 1 _ rfl
      have YH0_15 := Lib.hid Q
      clear Q
      have Q := YG_14.out.later b15
      have cYG_15_0 := Q.cells 0 _ rfl
      have cYG_15_1 := Q.cells 1 _ rfl
      have YG_15 := Lib.hid Q
      clear Q
      have BA_15 := Lib.hid (chainX w5 BA_14.out b15)
      have BVi0_15 := Lib.hid (chainX w7 BVi0_14.out b15)
      have RRi0_15 := Lib.hid (Rdb.below RRi0_14.out b15)
      have RFi2_15 := Lib.hid (Rows.below RFi2_14.out b15)
      have QTi2_15 := Lib.hid (ltL QTi2_14.out b15)
      have RRi2_15 := Lib.hid (Rows.below RRi2_14.out b15)
      have GLE_15 := Lib.hid (leL GLE_14.out b15)
      have RG_15 := Lib.hid (Own2.below RG_14.out b15)
      have TOPL_15 := Lib.hid (leL TOPL_14.out b15)
      have BH15 := Lib.hid (chainX w BH14.out b15)
      clear XH0_14 YW_14 YH0_14 YG_14 cXH0_14_0 cXH0_14_1 cYW_14_0 cYW_14_1 cYH0_14_0 cYH0_14_1 cYG_14_0 cYG_14_1 BA_14 BVi0_14 RRi0_14 RFi2_14 QTi2_14 RRi2_14 GLE_14 RG_14 TOPL_14
      have RRe2_15 := Lib.hid (Rows.weak re2 (Nat.zero_le _) id)
      clear re2
      have ANS := Lib.hid (EQ2.out (by omega) (some ⟨qi2, 0, none⟩) (some ⟨qe2, 0, none⟩) _ RRi2_15.out RRe2_15.out)
      go_wp2_with fail
      refine (ANS.out).mono ?_
      rintro e w16 ⟨rfl, b16⟩
      have Q := XH0_15.out.later b16
      have cXH0_16_0 := Q.cells 0 _ rfl
      have cXH0_16_1 := Q.cells 1 _ rfl
      have XH0_16 := Lib.hid Q
      clear Q
      have Q := YW_15.out.later b16
      have cYW_16_0 := Q.cells 0 _ rfl
      have cYW_16_1 := Q.cells 1 _ rfl
      have YW_16 := Lib.hid Q
      clear Q
      have Q := YH0_15.out.later b16
      have cYH0_16_0 := Q.cells 0 _ rfl
      have cYH0_16_1 := Q.cells 1 _ rfl
      have YH0_16 := Lib.hid Q
      clear Q
      have Q := YG_15.out.later b16
      have cYG_16_0 := Q.cells 0 _ rfl
      have cYG_16_1 := Q.cells 1 _ rfl
      have YG_16 := Lib.hid Q
      clear Q
      have BA_16 := Lib.hid (chainX w5 BA_15.out b16)
      have BVi0_16 := Lib.hid (chainX w7 BVi0_15.out b16)
      have RRi0_16 := Lib.hid (Rdb.below RRi0_15.out b16)
      have RFi2_16 := Lib.hid (Rows.below RFi2_15.out b16)
      have QTi2_16 := Lib.hid (ltL QTi2_15.out b16)
      have RRi2_16 := Lib.hid (Rows.below RRi2_15.out b16)
      have GLE_16 := Lib.hid (leL GLE_15.out b16)
      have RG_16 := Lib.hid (Own2.below RG_15.out b16)
      have TOPL_16 := Lib.hid (leL TOPL_15.out b16)
      have RRe2_16 := Lib.hid (Rows.below RRe2_15.out b16)
      have BH16 := Lib.hid (chainX w BH15.out b16)
      clear XH0_15 YW_15 YH0_15 YG_15 cXH0_15_0 cXH0_15_1 cYW_15_0 cYW_15_1 cYH0_15_0 cYH0_15_1 cYG_15_0 cYG_15_1 BA_15 BVi0_15 RRi0_15 RFi2_15 QTi2_15 RRi2_15 GLE_15 RG_15 TOPL_15 RRe2_15
      clear ANS
      clear HS
      have MK := Lib.hid (MKC0.out (by omega) avi0_0 cvi0_0 avi0_1 cvi0_1 (1) _ w7 _ (by omega) (by omega) RMi0_0.out RMi0_1.out (Shadow.of BVi0_16.out) BVi0_16.out.size)
      go_wp2_with fail
      refine MK.out.mono ?_
      rintro e w17 ⟨ki0, rfl, ki0a, ki0b, CX⟩
      have BL := CX.below (Nat.le_trans ZLEi0.out BVi0_16.out.size)
      have BA_17 := Lib.hid (BA_16.out.trans (BL.mono QAi0.out))
      have BH17 := Lib.hid (BH16.out.trans (BL.mono (Nat.le_trans WA.out QAi0.out)))
      clear BL
      have RG_17 := Lib.hid (Own2.high RG_16.out VCi0.out CX)
      have GLE_17 := Lib.hid (Nat.le_trans GLE_16.out CX.size)
      have TOPL_17 := Lib.hid (Nat.le_trans TOPL_16.out CX.size)
      have Q := bxChg XH0_16.out CX (Or.inl XLXH0i0.out)
      have cXH0_17_0 := Q.cells 0 _ rfl
      have cXH0_17_1 := Q.cells 1 _ rfl
      have XH0_17 := Lib.hid Q
      clear Q
      have Q := bxChg YW_16.out CX (Or.inl XLYWi0.out)
      have cYW_17_0 := Q.cells 0 _ rfl
      have cYW_17_1 := Q.cells 1 _ rfl
      have YW_17 := Lib.hid Q
      clear Q
      have Q := bxChg YG_16.out CX (Or.inr (Nat.le_trans VCi0.out GTOP.out))
      have cYG_17_0 := Q.cells 0 _ rfl
      have cYG_17_1 := Q.cells 1 _ rfl
      have YG_17 := Lib.hid Q
      clear Q
      have QTi2_17 := Lib.hid (Nat.lt_of_lt_of_le QTi2_16.out CX.size)
      have RFi2_17 := Lib.hid (CX.high (Rows.weak RFi2_16.out VVi0i2.out id))
      clear MK CX
      have MK := Lib.hid (markT qi2 d2.length d2 (ki0) _ _ (by have := LNT2.out; omega) (by omega) (by omega) RFi2_17.out)
      go_wp2_with fail
      refine MK.out.mono ?_
      rintro e w18 ⟨ki2, rfl, ki2a, ki2b, CX⟩
      have BL := CX.below (Nat.le_of_lt QTi2_17.out)
      have BA_18 := Lib.hid (BA_17.out.trans (BL.mono QAi2.out))
      have BH18 := Lib.hid (BH17.out.trans (BL.mono (Nat.le_trans WA.out QAi2.out)))
      clear BL
      have RG_18 := Lib.hid (Own2.high RG_17.out QCi2.out CX)
      have GLE_18 := Lib.hid (Nat.le_trans GLE_17.out CX.size)
      have TOPL_18 := Lib.hid (Nat.le_trans TOPL_17.out CX.size)
      have Q := bxChg XH0_17.out CX (Or.inl XLXH0i2.out)
      have cXH0_18_0 := Q.cells 0 _ rfl
      have cXH0_18_1 := Q.cells 1 _ rfl
      have XH0_18 := Lib.hid Q
      clear Q
      have Q := bxChg YW_17.out CX (Or.inl XLYWi2.out)
      have cYW_18_0 := Q.cells 0 _ rfl
      have cYW_18_1 := Q.cells 1 _ rfl
      have YW_18 := Lib.hid Q
      clear Q
      have Q := bxChg YG_17.out CX (Or.inr (Nat.le_trans QCi2.out GTOP.out))
      have cYG_18_0 := Q.cells 0 _ rfl
      have cYG_18_1 := Q.cells 1 _ rfl
      have YG_18 := Lib.hid Q
      clear Q
      clear MK CX
      have dk := (decide_eq_false (by omega) : decide ((ki2 : Int) < 0) = false)
      go_wp2_with fail
      refine (EQA.out ag0 cg0 ag1 cg1 aw0 cw0 aw1 cw1 _ (Own2.rows RG_18.out) (RA.out.below BA_18.out) LGH.out LWH.out).mono ?_
      rintro e w19 ⟨rfl, b19⟩
      have Q := XH0_18.out.later b19
      have cXH0_19_0 := Q.cells 0 _ rfl
      have cXH0_19_1 := Q.cells 1 _ rfl
      have XH0_19 := Lib.hid Q
      clear Q
      have Q := YW_18.out.later b19
      have cYW_19_0 := Q.cells 0 _ rfl
      have cYW_19_1 := Q.cells 1 _ rfl
      have YW_19 := Lib.hid Q
      clear Q
      have Q := YG_18.out.later b19
      have cYG_19_0 := Q.cells 0 _ rfl
      have cYG_19_1 := Q.cells 1 _ rfl
      have YG_19 := Lib.hid Q
      clear Q
      have BA_19 := Lib.hid (chainX w5 BA_18.out b19)
      have GLE_19 := Lib.hid (leL GLE_18.out b19)
      have RG_19 := Lib.hid (Own2.below RG_18.out b19)
      have TOPL_19 := Lib.hid (leL TOPL_18.out b19)
      have BH19 := Lib.hid (chainX w BH18.out b19)
      clear XH0_18 YW_18 YG_18 cXH0_18_0 cXH0_18_1 cYW_18_0 cYW_18_1 cYG_18_0 cYG_18_1 BA_18 GLE_18 RG_18 TOPL_18
      have MG := Lib.hid (MKG.out ag0 cg0 ag1 cg1 _ _ _ RG_19.out)
      go_wp2_with fail
      refine MG.out.mono ?_
      rintro e w20 ⟨rfl, rm, CX⟩
      have Q := bxChg XH0_19.out CX (Or.inl XCXH0.out)
      have cXH0_20_0 := Q.cells 0 _ rfl
      have cXH0_20_1 := Q.cells 1 _ rfl
      have XH0_20 := Lib.hid Q
      clear Q
      have Q := bxChg YW_19.out CX (Or.inl XCYW.out)
      have cYW_20_0 := Q.cells 0 _ rfl
      have cYW_20_1 := Q.cells 1 _ rfl
      have YW_20 := Lib.hid Q
      clear Q
      have Q := bxChg YG_19.out CX (Or.inr (Nat.le_refl _))
      have cYG_20_0 := Q.cells 0 _ rfl
      have cYG_20_1 := Q.cells 1 _ rfl
      have YG_20 := Lib.hid Q
      clear Q
      have BL := CX.below (Nat.le_trans GTOP.out TOPL_19.out)
      have BA_20 := Lib.hid (BA_19.out.trans (BL.mono LC.out))
      have BH20 := Lib.hid (BH19.out.trans (BL.mono (Nat.le_trans WA.out LC.out)))
      clear BL
      have RK_20 := Lib.hid rm
      clear rm CX MG
      go_wp2_with fail
      refine (HLD.out ag0 cg0 ag1 cg1 _ RK_20.out).mono ?_
      rintro e w21 ⟨rfl, b21⟩
      have Q := XH0_20.out.later b21
      have cXH0_21_0 := Q.cells 0 _ rfl
      have cXH0_21_1 := Q.cells 1 _ rfl
      have XH0_21 := Lib.hid Q
      clear Q
      have Q := YW_20.out.later b21
      have cYW_21_0 := Q.cells 0 _ rfl
      have cYW_21_1 := Q.cells 1 _ rfl
      have YW_21 := Lib.hid Q
      clear Q
      have Q := YG_20.out.later b21
      have cYG_21_0 := Q.cells 0 _ rfl
      have cYG_21_1 := Q.cells 1 _ rfl
      have YG_21 := Lib.hid Q
      clear Q
      have BA_21 := Lib.hid (chainX w5 BA_20.out b21)
      have RK_21 := Lib.hid (Rw2.below RK_20.out b21)
      have BH21 := Lib.hid (chainX w BH20.out b21)
      clear XH0_20 YW_20 YG_20 cXH0_20_0 cXH0_20_1 cYW_20_0 cYW_20_1 cYG_20_0 cYG_20_1 BA_20 RK_20
      go_wp2_with fail
      refine (CP0.out (by omega) _ BH21.out).mono ?_
      rintro e w22 ⟨esh0, rfl, rh0, b22⟩
      have Q := XH0_21.out.later b22
      have cXH0_22_0 := Q.cells 0 _ rfl
      have cXH0_22_1 := Q.cells 1 _ rfl
      have XH0_22 := Lib.hid Q
      clear Q
      have Q := YW_21.out.later b22
      have cYW_22_0 := Q.cells 0 _ rfl
      have cYW_22_1 := Q.cells 1 _ rfl
      have YW_22 := Lib.hid Q
      clear Q
      have Q := YG_21.out.later b22
      have cYG_22_0 := Q.cells 0 _ rfl
      have cYG_22_1 := Q.cells 1 _ rfl
      have YG_22 := Lib.hid Q
      clear Q
      have BA_22 := Lib.hid (chainX w5 BA_21.out b22)
      have RK_22 := Lib.hid (Rw2.below RK_21.out b22)
      have BH22 := Lib.hid (chainX w BH21.out b22)
      clear XH0_21 YW_21 YG_21 cXH0_21_0 cXH0_21_1 cYW_21_0 cYW_21_1 cYG_21_0 cYG_21_1 BA_21 RK_21
      have RRh0_22 := Lib.hid (Rdb.weak rh0 (Nat.zero_le _) id)
      obtain ⟨avh0_0, cvh0_0, avh0_1, cvh0_1, rfl, fvh0_0, gvh0_0, fvh0_1, gvh0_1⟩ := shape_Disk rh0
      have RMh0_0 := Lib.hid fvh0_0
      have RMh0_1 := Lib.hid fvh0_1
      clear rh0 fvh0_0 fvh0_1
      go_wp2_with fail
      refine (CP2.out (by omega) _ BH22.out).mono ?_
      rintro e w23 ⟨qh2, rfl, rh2, -, -, -, b23⟩
      have Q := XH0_22.out.later b23
      have cXH0_23_0 := Q.cells 0 _ rfl
      have cXH0_23_1 := Q.cells 1 _ rfl
      have XH0_23 := Lib.hid Q
      clear Q
      have Q := YW_22.out.later b23
      have cYW_23_0 := Q.cells 0 _ rfl
      have cYW_23_1 := Q.cells 1 _ rfl
      have YW_23 := Lib.hid Q
      clear Q
      have Q := YG_22.out.later b23
      have cYG_23_0 := Q.cells 0 _ rfl
      have cYG_23_1 := Q.cells 1 _ rfl
      have YG_23 := Lib.hid Q
      clear Q
      have BA_23 := Lib.hid (chainX w5 BA_22.out b23)
      have RK_23 := Lib.hid (Rw2.below RK_22.out b23)
      have RRh0_23 := Lib.hid (Rdb.below RRh0_22.out b23)
      have BH23 := Lib.hid (chainX w BH22.out b23)
      clear XH0_22 YW_22 YG_22 cXH0_22_0 cXH0_22_1 cYW_22_0 cYW_22_1 cYG_22_0 cYG_22_1 BA_22 RK_22 RRh0_22
      have RRh2_23 := Lib.hid (Rows.weak rh2 (Nat.zero_le _) id)
      clear rh2
      have ANS := Lib.hid (HI.out (by omega) (by omega) ([.slice avh0_0 d0.sectors.length cvh0_0, .slice avh0_1 d0.waits.length cvh0_1]) (some ⟨qh2, 0, none⟩) _ RRh0_23.out RRh2_23.out)
      go_wp2_with fail
      refine (ANS.out).mono ?_
      rintro e w24 ⟨ah0, ch0, ah1, ch1, rfl, kh, lh, b24⟩
      have Q := XH0_23.out.later b24
      have cXH0_24_0 := Q.cells 0 _ rfl
      have cXH0_24_1 := Q.cells 1 _ rfl
      have XH0_24 := Lib.hid Q
      clear Q
      have Q := YW_23.out.later b24
      have cYW_24_0 := Q.cells 0 _ rfl
      have cYW_24_1 := Q.cells 1 _ rfl
      have YW_24 := Lib.hid Q
      clear Q
      have Q := YG_23.out.later b24
      have cYG_24_0 := Q.cells 0 _ rfl
      have cYG_24_1 := Q.cells 1 _ rfl
      have YG_24 := Lib.hid Q
      clear Q
      have BA_24 := Lib.hid (chainX w5 BA_23.out b24)
      have RK_24 := Lib.hid (Rw2.below RK_23.out b24)
      have RRh0_24 := Lib.hid (Rdb.below RRh0_23.out b24)
      have RRh2_24 := Lib.hid (Rows.below RRh2_23.out b24)
      have BH24 := Lib.hid (chainX w BH23.out b24)
      clear XH0_23 YW_23 YG_23 cXH0_23_0 cXH0_23_1 cYW_23_0 cYW_23_1 cYG_23_0 cYG_23_1 BA_23 RK_23 RRh0_23 RRh2_23
      clear ANS
      have RH_24 := Lib.hid kh
      clear kh
      have LHH := Lib.hid lh
      clear lh
      have LY := lay w24 (.cells #[.slice ah0 r.sectors.length ch0, .slice ah1 r.waits.length ch1] 30)
      have YN := BxN.new w24 #[.slice ah0 r.sectors.length ch0, .slice ah1 r.waits.length ch1] 30
      have Q := XH0_24.out.later LY
      have cXH0_25_0 := Q.cells 0 _ rfl
      have cXH0_25_1 := Q.cells 1 _ rfl
      have XH0_25 := Lib.hid Q
      clear Q
      have Q := YW_24.out.later LY
      have cYW_25_0 := Q.cells 0 _ rfl
      have cYW_25_1 := Q.cells 1 _ rfl
      have YW_25 := Lib.hid Q
      clear Q
      have Q := YG_24.out.later LY
      have cYG_25_0 := Q.cells 0 _ rfl
      have cYG_25_1 := Q.cells 1 _ rfl
      have YG_25 := Lib.hid Q
      clear Q
      have BA_25 := Lib.hid (chainX w5 BA_24.out LY)
      have RK_25 := Lib.hid (Rw2.below RK_24.out LY)
      have RRh0_25 := Lib.hid (Rdb.below RRh0_24.out LY)
      have RRh2_25 := Lib.hid (Rows.below RRh2_24.out LY)
      have RH_25 := Lib.hid (Own2.below RH_24.out LY)
      have cYK_25_0 := YN.cells 0 _ rfl
      have cYK_25_1 := YN.cells 1 _ rfl
      have YK_25 := Lib.hid YN
      have BH25 := Lib.hid (chainX w BH24.out LY)
      clear XH0_24 YW_24 YG_24 cXH0_24_0 cXH0_24_1 cYW_24_0 cYW_24_1 cYG_24_0 cYG_24_1 BA_24 RK_24 RRh0_24 RRh2_24 RH_24
      clear LY YN
      go_wp2_with fail
      refine (EQA.out ah0 ch0 ah1 ch1 aw0 cw0 aw1 cw1 _ (Own2.rows RH_25.out) (RA.out.below BA_25.out) LHH.out LWH.out).mono ?_
      rintro e w26 ⟨rfl, b26⟩
      have Q := XH0_25.out.later b26
      have cXH0_26_0 := Q.cells 0 _ rfl
      have cXH0_26_1 := Q.cells 1 _ rfl
      have XH0_26 := Lib.hid Q
      clear Q
      have Q := YW_25.out.later b26
      have cYW_26_0 := Q.cells 0 _ rfl
      have cYW_26_1 := Q.cells 1 _ rfl
      have YW_26 := Lib.hid Q
      clear Q
      have Q := YG_25.out.later b26
      have cYG_26_0 := Q.cells 0 _ rfl
      have cYG_26_1 := Q.cells 1 _ rfl
      have YG_26 := Lib.hid Q
      clear Q
      have Q := YK_25.out.later b26
      have cYK_26_0 := Q.cells 0 _ rfl
      have cYK_26_1 := Q.cells 1 _ rfl
      have YK_26 := Lib.hid Q
      clear Q
      have BA_26 := Lib.hid (chainX w5 BA_25.out b26)
      have RK_26 := Lib.hid (Rw2.below RK_25.out b26)
      have RRh0_26 := Lib.hid (Rdb.below RRh0_25.out b26)
      have RRh2_26 := Lib.hid (Rows.below RRh2_25.out b26)
      have RH_26 := Lib.hid (Own2.below RH_25.out b26)
      have BH26 := Lib.hid (chainX w BH25.out b26)
      clear XH0_25 YW_25 YG_25 YK_25 cXH0_25_0 cXH0_25_1 cYW_25_0 cYW_25_1 cYG_25_0 cYG_25_1 cYK_25_0 cYK_25_1 BA_25 RK_25 RRh0_25 RRh2_25 RH_25
      go_wp2_with fail
      refine (HLD.out ag0 cg0 ag1 cg1 _ RK_26.out).mono ?_
      rintro e w27 ⟨rfl, b27⟩
      have Q := XH0_26.out.later b27
      have cXH0_27_0 := Q.cells 0 _ rfl
      have cXH0_27_1 := Q.cells 1 _ rfl
      have XH0_27 := Lib.hid Q
      clear Q
      have Q := YW_26.out.later b27
      have cYW_27_0 := Q.cells 0 _ rfl
      have cYW_27_1 := Q.cells 1 _ rfl
      have YW_27 := Lib.hid Q
      clear Q
      have Q := YG_26.out.later b27
      have cYG_27_0 := Q.cells 0 _ rfl
      have cYG_27_1 := Q.cells 1 _ rfl
      have YG_27 := Lib.hid Q
      clear Q
      have Q := YK_26.out.later b27
      have cYK_27_0 := Q.cells 0 _ rfl
      have cYK_27_1 := Q.cells 1 _ rfl
      have YK_27 := Lib.hid Q
      clear Q
      have BA_27 := Lib.hid (chainX w5 BA_26.out b27)
      have RK_27 := Lib.hid (Rw2.below RK_26.out b27)
      have RRh0_27 := Lib.hid (Rdb.below RRh0_26.out b27)
      have RRh2_27 := Lib.hid (Rows.below RRh2_26.out b27)
      have RH_27 := Lib.hid (Own2.below RH_26.out b27)
      have BH27 := Lib.hid (chainX w BH26.out b27)
      clear XH0_26 YW_26 YG_26 YK_26 cXH0_26_0 cXH0_26_1 cYW_26_0 cYW_26_1 cYG_26_0 cYG_26_1 cYK_26_0 cYK_26_1 BA_26 RK_26 RRh0_26 RRh2_26 RH_26
      all_goals
        go_wp2
        go_ret
        exact ⟨rfl, BH27.out⟩
    · skip
      go_enter Try.func7, Try.ntmps7
      have V0 := SZ0.out (1048576) (by omega) (by omega) _ BH0.out
      unfold SzB at V0
      rw [show szI (1048576) s0 = 1048576 - (s0 : Int) from szI_yes (by omega)] at V0
      have VH0 := Lib.hid V0
      clear V0
      go_wp2_with fail
      refine (VH0.out).mono ?_
      rintro e w1 ⟨rfl, b1⟩
      have Q := XH0_0.out.later b1
      have cXH0_1_0 := Q.cells 0 _ rfl
      have cXH0_1_1 := Q.cells 1 _ rfl
      have XH0_1 := Lib.hid Q
      clear Q
      have BH1 := Lib.hid (chainX w BH0.out b1)
      clear XH0_0
      have V1 := SZ2.out (1048576 - (s0 : Int)) (by omega) (by omega) _ BH1.out
      unfold SzB at V1
      rw [show szI (1048576 - (s0 : Int)) s2 = -1 from szI_no (by omega)] at V1
      have VH1 := Lib.hid V1
      clear V1
      go_wp2_with fail
      refine (VH1.out).mono ?_
      rintro e w2 ⟨rfl, b2⟩
      have Q := XH0_1.out.later b2
      have cXH0_2_0 := Q.cells 0 _ rfl
      have cXH0_2_1 := Q.cells 1 _ rfl
      have XH0_2 := Lib.hid Q
      clear Q
      have BH2 := Lib.hid (chainX w BH1.out b2)
      clear XH0_1 cXH0_1_0 cXH0_1_1
      go_wp2
      go_ret
      exact ⟨rfl, BH2.out⟩
  · skip
    go_enter Try.func7, Try.ntmps7
    have V0 := SZ0.out (1048576) (by omega) (by omega) _ BH0.out
    unfold SzB at V0
    rw [show szI (1048576) s0 = -1 from szI_no (by omega)] at V0
    have VH0 := Lib.hid V0
    clear V0
    go_wp2_with fail
    refine (VH0.out).mono ?_
    rintro e w1 ⟨rfl, b1⟩
    have Q := XH0_0.out.later b1
    have cXH0_1_0 := Q.cells 0 _ rfl
    have cXH0_1_1 := Q.cells 1 _ rfl
    have XH0_1 := Lib.hid Q
    clear Q
    have BH1 := Lib.hid (chainX w BH0.out b1)
    clear XH0_0
    go_wp2
    go_ret
    exact ⟨rfl, BH1.out⟩
end Go.Proofs.Ytpafhbnjefdhjaa.Rd
