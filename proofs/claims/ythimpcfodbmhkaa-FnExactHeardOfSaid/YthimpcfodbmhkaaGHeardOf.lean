/-
  The exact law of FnExactHeardOf, given the model's answer and the program's (written by tools/gen/lawgen.py).
-/
import Derived.Test.YthimpcfodbmhkaaAns
import Derived.Test.YthimpcfodbmhkaaMInterval
import Derived.Test.YthimpcfodbmhkaaHrdJ
import Derived.Test.YthimpcfodbmhkaaHrdS
import Derived.Deep.RegionHeld3
namespace Go.Proofs.Ythimpcfodbmhkaa.Rd
open Go.RowKit Go.ChangeShapes Go.WideShapes
open Go.Proofs.Ythimpcfodbmhkaa.Sg (BxN)
set_option linter.unusedVariables false
set_option linter.unusedSimpArgs false

set_option maxRecDepth 100000 in
set_option maxHeartbeats 4000000 in
theorem fnFnExactHeardOf {cs0 : List Value} (d0 : DInterval) (a1 : Option Addr) (cap1 : Nat) (d1 : List Int) (r : List Int) (hr : r.length ≤ 2097152) (w : World) (h0 : Rdb.rd false 0 w cs0 d0) (h1 : d1.length ≤ 9223372036854775807 ∧ Rows false 0 w a1 d1) (hS : Rdb.sz d0 ≤ 1048576 → d1.length ≤ 1048576 → ∀ (es0 : List Value) (e1 : Option Addr) w' (k0 : Rdb.rd true 0 w' es0 d0) (k1 : Rows true 0 w' e1 d1), Calls Try.prog 48 #[.agg es0.toArray, .slice e1 d1.length d1.length] w' (AnsR r w')) (hI : Rdb.sz d0 ≤ 1048576 → d1.length ≤ 1048576 → ∀ (es0 : List Value) (e1 : Option Addr) w' (k0 : Rdb.rd true 0 w' es0 d0) (k1 : Rows true 0 w' e1 d1), Calls Try.prog 50 #[.agg es0.toArray, .slice e1 d1.length d1.length] w' (AnsI r w')) :
    Calls Try.prog 13 #[.agg cs0.toArray, .slice a1 d1.length cap1] w (RetW (.bool true) w) := by
  obtain ⟨a0_2, c0_2, rfl, f0_0, f0_1, f0_2, g0_2⟩ := shape_Interval h0
  obtain ⟨g1, h1⟩ := h1
  have BH0 := Lib.hid (lay w (.cells #[.int .i64 d0.first, .int .i64 d0.last, .slice a0_2 d0.acting.length c0_2, .bool d0.may] 47))
  have Q0 := BxN.new w #[.int .i64 d0.first, .int .i64 d0.last, .slice a0_2 d0.acting.length c0_2, .bool d0.may] 47
  have XH0_0 := Lib.hid Q0
  clear Q0
  have SZ0 := Lib.hid (fun (lf : Int) (p0 : 0 ≤ lf) (p1 : lf ≤ 2097152) w' (b : Below w.heap.size w w') => szInterval d0 lf p0 p1 w' (mk_Interval (d := d0) (a2 := a0_2) (c2 := c0_2) f0_0 f0_1 (f0_2.below b) g0_2))
  have CP0 := Lib.hid (fun (z : Rdb.sz d0 ≤ 2097152) w' (b : Below w.heap.size w w') => toInterval d0 w' z (mk_Interval (d := d0) (a2 := a0_2) (c2 := c0_2) f0_0 f0_1 (f0_2.below b) g0_2))
  have EQ0 := Lib.hid (fun (z : Rdb.sz d0 ≤ 2097152) (cs ds : List Value) w' (k1 : Rdb.rd true 0 w' cs d0) (k2 : Rdb.rd true 0 w' ds d0) => eqInterval d0 w' z k1 k2)
  have ZL1 : Rdb.sz d1 = d1.length := sz_flat (fun _ => rfl) d1
  have CP1 := Lib.hid (fun (z : d1.length ≤ 2097152) w' (b : Below w.heap.size w w') => toInt64S a1 cap1 d1 w' (by rw [ZL1]; exact z) (h1.below b))
  have EQ1 := Lib.hid (fun (z : d1.length ≤ 2097152) (p q : Option Addr) w' (k1 : Rows true 0 w' p d1) (k2 : Rows true 0 w' q d1) => eqInt64S p q d1.length d1.length d1 w' (by rw [ZL1]; exact z) k1 k2)
  clear ZL1
  have HS := Lib.hid hS
  have HI := Lib.hid hI
  clear hS hI
  obtain ⟨mm, hmm⟩ : ∃ mm : Int, mm = 1 + (r.length : Int) := ⟨_, rfl⟩
  have MKC0 := Lib.hid (fun (z : Rdb.sz d0 ≤ 2097152) (a2 : Option Addr) (c2 : Nat) (kk : Int) (lo : Nat) (v W : World) k0 k1 h2 hs hz => markIntervalB d0 a2 c2 kk lo v W z k0 k1 h2 hs hz)
  have EQA := Lib.hid (fun (p q : Option Addr) (c1 c2 : Nat) W {fr fr2 : Bool} {lo lo2 : Nat} (k1 : Rows fr lo W p r) (k2 : Rows fr2 lo2 W q r) => eqAns p q c1 c2 r W hr k1 k2)
  have MKG := Lib.hid (fun (p : Option Addr) (c1 lo : Nat) W (k1 : GOne lo W p r) => markG1 p c1 r mm hmm lo W hr k1)
  have HLD := Lib.hid (fun (p : Option Addr) (c1 lo : Nat) W (k1 : Rows true lo W p ((List.range r.length).map (mkInt 1))) => heldG1 p c1 r mm hmm lo W hr k1)
  have dm := (decide_eq_false (by omega) : decide (mm < 0) = false)
  have dm2 : (mm != mm) = false := by simp
  clear hmm
  clear f0_2 h1
  generalize hs0 : Rdb.sz d0 = s0 at *
  clear hs0
  by_cases l1 : d1.length ≤ 1048576
  · have dl1 : decide ((1048576 : Int) < (d1.length : Int)) = false := decide_eq_false (by omega)
    by_cases q0 : (s0 : Int) ≤ 1048576
    · skip
      go_enter Try.func13, Try.ntmps13
      have V0 := SZ0.out (1048576) (by omega) (by omega) _ BH0.out
      unfold SzB at V0
      rw [show szI (1048576) s0 = 1048576 - (s0 : Int) from szI_yes (by omega)] at V0
      have VH0 := Lib.hid V0
      clear V0
      go_wp2_with fail
      refine (VH0.out).mono ?_
      rintro e w1 ⟨rfl, b1⟩
      have Q := XH0_0.out.later b1
      have cXH0_1_0 := Q.cells 0 _ rfl
      have cXH0_1_1 := Q.cells 1 _ rfl
      have cXH0_1_2 := Q.cells 2 _ rfl
      have cXH0_1_3 := Q.cells 3 _ rfl
      have XH0_1 := Lib.hid Q
      clear Q
      have BH1 := Lib.hid (chainX w BH0.out b1)
      clear XH0_0
      have CPx := True.intro
      go_wp2_with fail
      refine (CP0.out (by omega) _ BH1.out).mono ?_
      rintro e w2 ⟨ess0, rfl, rs0, b2⟩
      have Q := XH0_1.out.later b2
      have cXH0_2_0 := Q.cells 0 _ rfl
      have cXH0_2_1 := Q.cells 1 _ rfl
      have cXH0_2_2 := Q.cells 2 _ rfl
      have cXH0_2_3 := Q.cells 3 _ rfl
      have XH0_2 := Lib.hid Q
      clear Q
      have BH2 := Lib.hid (chainX w BH1.out b2)
      clear XH0_1 cXH0_1_0 cXH0_1_1 cXH0_1_2 cXH0_1_3
      have RRs0_2 := Lib.hid (Rdb.weak rs0 (Nat.zero_le _) id)
      obtain ⟨avs0_2, cvs0_2, rfl, fvs0_0, fvs0_1, fvs0_2, gvs0_2⟩ := shape_Interval rs0
      have RMs0_2 := Lib.hid fvs0_2
      clear rs0 fvs0_2
      go_wp2_with fail
      refine (CP1.out (by omega) _ BH2.out).mono ?_
      rintro e w3 ⟨qs1, rfl, rs1, -, -, -, b3⟩
      have Q := XH0_2.out.later b3
      have cXH0_3_0 := Q.cells 0 _ rfl
      have cXH0_3_1 := Q.cells 1 _ rfl
      have cXH0_3_2 := Q.cells 2 _ rfl
      have cXH0_3_3 := Q.cells 3 _ rfl
      have XH0_3 := Lib.hid Q
      clear Q
      have RRs0_3 := Lib.hid (Rdb.below RRs0_2.out b3)
      have BH3 := Lib.hid (chainX w BH2.out b3)
      clear XH0_2 cXH0_2_0 cXH0_2_1 cXH0_2_2 cXH0_2_3 RRs0_2
      have RRs1_3 := Lib.hid (Rows.weak rs1 (Nat.zero_le _) id)
      clear rs1
      have ANS := Lib.hid (HS.out (by omega) (by omega) ([.int .i64 d0.first, .int .i64 d0.last, .slice avs0_2 d0.acting.length cvs0_2, .bool d0.may]) (some ⟨qs1, 0, none⟩) _ RRs0_3.out RRs1_3.out)
      go_wp2_with fail
      refine (ANS.out).mono ?_
      rintro e w4 ⟨aw, cw, rfl, kw, b4⟩
      have Q := XH0_3.out.later b4
      have cXH0_4_0 := Q.cells 0 _ rfl
      have cXH0_4_1 := Q.cells 1 _ rfl
      have cXH0_4_2 := Q.cells 2 _ rfl
      have cXH0_4_3 := Q.cells 3 _ rfl
      have XH0_4 := Lib.hid Q
      clear Q
      have RRs0_4 := Lib.hid (Rdb.below RRs0_3.out b4)
      have RRs1_4 := Lib.hid (Rows.below RRs1_3.out b4)
      have BH4 := Lib.hid (chainX w BH3.out b4)
      clear XH0_3 cXH0_3_0 cXH0_3_1 cXH0_3_2 cXH0_3_3 RRs0_3 RRs1_3
      clear ANS
      have RA := Lib.hid kw
      clear kw
      have BA_4 := Lib.hid (Below.refl w4.heap.size w4)
      have WA := Lib.hid (BH4.out.size)
      have LAi0 := Lib.hid BA_4.out.size
      have XLXH0i0 := Lib.hid XH0_4.out.lt
      go_wp2_with fail
      refine (CP0.out (by omega) _ BH4.out).mono ?_
      rintro e w5 ⟨esi0, rfl, ri0, b5⟩
      have Q := XH0_4.out.later b5
      have cXH0_5_0 := Q.cells 0 _ rfl
      have cXH0_5_1 := Q.cells 1 _ rfl
      have cXH0_5_2 := Q.cells 2 _ rfl
      have cXH0_5_3 := Q.cells 3 _ rfl
      have XH0_5 := Lib.hid Q
      clear Q
      have BA_5 := Lib.hid (chainX w4 BA_4.out b5)
      have BH5 := Lib.hid (chainX w BH4.out b5)
      clear XH0_4 cXH0_4_0 cXH0_4_1 cXH0_4_2 cXH0_4_3 BA_4
      have ZLEi0 := Lib.hid b5.size
      have QAi0 := LAi0
      have BVi0_5 := Lib.hid (Below.refl w5.heap.size w5)
      have RRi0_5 := Lib.hid (Rdb.weak ri0 (Nat.zero_le _) id)
      obtain ⟨avi0_2, cvi0_2, rfl, fvi0_0, fvi0_1, fvi0_2, gvi0_2⟩ := shape_Interval ri0
      have RMi0_2 := Lib.hid fvi0_2
      clear ri0 fvi0_2
      have LY := lay w5 (.cells #[.int .i64 d0.first, .int .i64 d0.last, .slice avi0_2 d0.acting.length cvi0_2, .bool d0.may] 38)
      have YN := BxN.new w5 #[.int .i64 d0.first, .int .i64 d0.last, .slice avi0_2 d0.acting.length cvi0_2, .bool d0.may] 38
      have Q := XH0_5.out.later LY
      have cXH0_6_0 := Q.cells 0 _ rfl
      have cXH0_6_1 := Q.cells 1 _ rfl
      have cXH0_6_2 := Q.cells 2 _ rfl
      have cXH0_6_3 := Q.cells 3 _ rfl
      have XH0_6 := Lib.hid Q
      clear Q
      have BA_6 := Lib.hid (chainX w4 BA_5.out LY)
      have BVi0_6 := Lib.hid (chainX w5 BVi0_5.out LY)
      have RRi0_6 := Lib.hid (Rdb.below RRi0_5.out LY)
      have cYH0_6_0 := YN.cells 0 _ rfl
      have cYH0_6_1 := YN.cells 1 _ rfl
      have cYH0_6_2 := YN.cells 2 _ rfl
      have cYH0_6_3 := YN.cells 3 _ rfl
      have YH0_6 := Lib.hid YN
      have BH6 := Lib.hid (chainX w BH5.out LY)
      clear XH0_5 cXH0_5_0 cXH0_5_1 cXH0_5_2 cXH0_5_3 BA_5 BVi0_5 RRi0_5
      clear LY YN
      have LAi1 := Lib.hid BA_6.out.size
      have XLXH0i1 := Lib.hid XH0_6.out.lt
      have XLYH0i1 := Lib.hid YH0_6.out.lt
      have VVi0i1 := Lib.hid BVi0_6.out.size
      go_wp2_with fail
      refine (CP1.out (by omega) _ BH6.out).mono ?_
      rintro e w7 ⟨qi1, rfl, ri1, loi1, lti1, -, b7⟩
      have Q := XH0_6.out.later b7
      have cXH0_7_0 := Q.cells 0 _ rfl
      have cXH0_7_1 := Q.cells 1 _ rfl
      have cXH0_7_2 := Q.cells 2 _ rfl
      have cXH0_7_3 := Q.cells 3 _ rfl
      have XH0_7 := Lib.hid Q
      clear Q
      have Q := YH0_6.out.later b7
      have cYH0_7_0 := Q.cells 0 _ rfl
      have cYH0_7_1 := Q.cells 1 _ rfl
      have cYH0_7_2 := Q.cells 2 _ rfl
      have cYH0_7_3 := Q.cells 3 _ rfl
      have YH0_7 := Lib.hid Q
      clear Q
      have BA_7 := Lib.hid (chainX w4 BA_6.out b7)
      have BVi0_7 := Lib.hid (chainX w5 BVi0_6.out b7)
      have RRi0_7 := Lib.hid (Rdb.below RRi0_6.out b7)
      have BH7 := Lib.hid (chainX w BH6.out b7)
      clear XH0_6 YH0_6 cXH0_6_0 cXH0_6_1 cXH0_6_2 cXH0_6_3 cYH0_6_0 cYH0_6_1 cYH0_6_2 cYH0_6_3 BA_6 BVi0_6 RRi0_6
      have RFi1_7 := Lib.hid ri1
      have XLXH0i1 := Lib.hid (Nat.lt_of_lt_of_le XLXH0i1.out loi1)
      have XLYH0i1 := Lib.hid (Nat.lt_of_lt_of_le XLYH0i1.out loi1)
      have QAi1 := Lib.hid (Nat.le_trans LAi1.out loi1)
      have QTi1_7 := Lib.hid lti1
      clear loi1 lti1
      have RRi1_7 := Lib.hid (Rows.weak ri1 (Nat.zero_le _) id)
      clear ri1
      have XCXH0 := Lib.hid XH0_7.out.lt
      have XCYH0 := Lib.hid YH0_7.out.lt
      have LC := Lib.hid BA_7.out.size
      have QCi1 := QTi1_7
      have VCi0 := Lib.hid BVi0_7.out.size
      have ANS := Lib.hid (HI.out (by omega) (by omega) ([.int .i64 d0.first, .int .i64 d0.last, .slice avi0_2 d0.acting.length cvi0_2, .bool d0.may]) (some ⟨qi1, 0, none⟩) _ RRi0_7.out RRi1_7.out)
      go_wp2_with fail
      refine (ANS.out).mono ?_
      rintro e w8 ⟨ag, cg, rfl, kg, b8⟩
      have Q := XH0_7.out.later b8
      have cXH0_8_0 := Q.cells 0 _ rfl
      have cXH0_8_1 := Q.cells 1 _ rfl
      have cXH0_8_2 := Q.cells 2 _ rfl
      have cXH0_8_3 := Q.cells 3 _ rfl
      have XH0_8 := Lib.hid Q
      clear Q
      have Q := YH0_7.out.later b8
      have cYH0_8_0 := Q.cells 0 _ rfl
      have cYH0_8_1 := Q.cells 1 _ rfl
      have cYH0_8_2 := Q.cells 2 _ rfl
      have cYH0_8_3 := Q.cells 3 _ rfl
      have YH0_8 := Lib.hid Q
      clear Q
      have BA_8 := Lib.hid (chainX w4 BA_7.out b8)
      have BVi0_8 := Lib.hid (chainX w5 BVi0_7.out b8)
      have RRi0_8 := Lib.hid (Rdb.below RRi0_7.out b8)
      have RFi1_8 := Lib.hid (Rows.below RFi1_7.out b8)
      have QTi1_8 := Lib.hid (ltL QTi1_7.out b8)
      have RRi1_8 := Lib.hid (Rows.below RRi1_7.out b8)
      have BH8 := Lib.hid (chainX w BH7.out b8)
      clear XH0_7 YH0_7 cXH0_7_0 cXH0_7_1 cXH0_7_2 cXH0_7_3 cYH0_7_0 cYH0_7_1 cYH0_7_2 cYH0_7_3 BA_7 BVi0_7 RRi0_7 RFi1_7 QTi1_7 RRi1_7
      clear ANS
      have RG_8 := Lib.hid kg
      clear kg
      have GLE_8 := Lib.hid b8.size
      go_wp2_with fail
      refine (EQA.out ag aw cg cw _ RG_8.out.rows (RA.out.below BA_8.out)).mono ?_
      rintro e w9 ⟨rfl, b9⟩
      have Q := XH0_8.out.later b9
      have cXH0_9_0 := Q.cells 0 _ rfl
      have cXH0_9_1 := Q.cells 1 _ rfl
      have cXH0_9_2 := Q.cells 2 _ rfl
      have cXH0_9_3 := Q.cells 3 _ rfl
      have XH0_9 := Lib.hid Q
      clear Q
      have Q := YH0_8.out.later b9
      have cYH0_9_0 := Q.cells 0 _ rfl
      have cYH0_9_1 := Q.cells 1 _ rfl
      have cYH0_9_2 := Q.cells 2 _ rfl
      have cYH0_9_3 := Q.cells 3 _ rfl
      have YH0_9 := Lib.hid Q
      clear Q
      have BA_9 := Lib.hid (chainX w4 BA_8.out b9)
      have BVi0_9 := Lib.hid (chainX w5 BVi0_8.out b9)
      have RRi0_9 := Lib.hid (Rdb.below RRi0_8.out b9)
      have RFi1_9 := Lib.hid (Rows.below RFi1_8.out b9)
      have QTi1_9 := Lib.hid (ltL QTi1_8.out b9)
      have RRi1_9 := Lib.hid (Rows.below RRi1_8.out b9)
      have GLE_9 := Lib.hid (leL GLE_8.out b9)
      have RG_9 := Lib.hid (GOne.below RG_8.out b9)
      have BH9 := Lib.hid (chainX w BH8.out b9)
      clear XH0_8 YH0_8 cXH0_8_0 cXH0_8_1 cXH0_8_2 cXH0_8_3 cYH0_8_0 cYH0_8_1 cYH0_8_2 cYH0_8_3 BA_8 BVi0_8 RRi0_8 RFi1_8 QTi1_8 RRi1_8 GLE_8 RG_8
      go_wp2_with fail
      go_region_held3 (fun w' => w'.cell? ⟨w.heap.size, 0, none⟩ = some (.int .i64 d0.first) ∧ w'.cell? ⟨w.heap.size, 1, none⟩ = some (.int .i64 d0.last) ∧ w'.cell? ⟨w.heap.size, 2, none⟩ = some (.slice a0_2 d0.acting.length c0_2) ∧ w'.cell? ⟨w.heap.size, 3, none⟩ = some (.bool d0.may) ∧ w'.cell? ⟨w5.heap.size, 0, none⟩ = some (.int .i64 d0.first) ∧ w'.cell? ⟨w5.heap.size, 1, none⟩ = some (.int .i64 d0.last) ∧ w'.cell? ⟨w5.heap.size, 2, none⟩ = some (.slice avi0_2 d0.acting.length cvi0_2) ∧ w'.cell? ⟨w5.heap.size, 3, none⟩ = some (.bool d0.may)) (go_keep)
        (first
          | (go_at_call 49; refine (CP0.out (by omega) _ BH9.out.drew).mono ?_; rintro e w10 ⟨ese0, rfl, re0, b10⟩; have b10 := undrewX b10; have Q := XH0_9.out.later b10; have cXH0_10_0 := Q.cells 0 _ rfl; have cXH0_10_1 := Q.cells 1 _ rfl; have cXH0_10_2 := Q.cells 2 _ rfl; have cXH0_10_3 := Q.cells 3 _ rfl; have XH0_10 := Lib.hid Q; clear Q; have Q := YH0_9.out.later b10; have cYH0_10_0 := Q.cells 0 _ rfl; have cYH0_10_1 := Q.cells 1 _ rfl; have cYH0_10_2 := Q.cells 2 _ rfl; have cYH0_10_3 := Q.cells 3 _ rfl; have YH0_10 := Lib.hid Q; clear Q; have BA_10 := Lib.hid (chainX w4 BA_9.out b10); have BVi0_10 := Lib.hid (chainX w5 BVi0_9.out b10); have RRi0_10 := Lib.hid (Rdb.below RRi0_9.out b10); have RFi1_10 := Lib.hid (Rows.below RFi1_9.out b10); have QTi1_10 := Lib.hid (ltL QTi1_9.out b10); have RRi1_10 := Lib.hid (Rows.below RRi1_9.out b10); have GLE_10 := Lib.hid (leL GLE_9.out b10); have RG_10 := Lib.hid (GOne.below RG_9.out b10); have BH10 := Lib.hid (chainX w BH9.out b10); clear b10; have RRe0_10 := Lib.hid (Rdb.weak re0 (Nat.zero_le _) id); obtain ⟨ave0_2, cve0_2, rfl, fve0_0, fve0_1, fve0_2, gve0_2⟩ := shape_Interval re0; have RMe0_2 := Lib.hid fve0_2; clear re0 fve0_2)
          | (go_at_call 36; refine (EQ0.out (by omega) ([.int .i64 d0.first, .int .i64 d0.last, .slice avi0_2 d0.acting.length cvi0_2, .bool d0.may]) ([.int .i64 d0.first, .int .i64 d0.last, .slice ave0_2 d0.acting.length cve0_2, .bool d0.may]) _ RRi0_10.out RRe0_10.out).mono ?_; rintro e w11 ⟨rfl, b11⟩; have Q := XH0_10.out.later b11; have cXH0_11_0 := Q.cells 0 _ rfl; have cXH0_11_1 := Q.cells 1 _ rfl; have cXH0_11_2 := Q.cells 2 _ rfl; have cXH0_11_3 := Q.cells 3 _ rfl; have XH0_11 := Lib.hid Q; clear Q; have Q := YH0_10.out.later b11; have cYH0_11_0 := Q.cells 0 _ rfl; have cYH0_11_1 := Q.cells 1 _ rfl; have cYH0_11_2 := Q.cells 2 _ rfl; have cYH0_11_3 := Q.cells 3 _ rfl; have YH0_11 := Lib.hid Q; clear Q; have BA_11 := Lib.hid (chainX w4 BA_10.out b11); have BVi0_11 := Lib.hid (chainX w5 BVi0_10.out b11); have RRi0_11 := Lib.hid (Rdb.below RRi0_10.out b11); have RFi1_11 := Lib.hid (Rows.below RFi1_10.out b11); have QTi1_11 := Lib.hid (ltL QTi1_10.out b11); have RRi1_11 := Lib.hid (Rows.below RRi1_10.out b11); have GLE_11 := Lib.hid (leL GLE_10.out b11); have RG_11 := Lib.hid (GOne.below RG_10.out b11); have RRe0_11 := Lib.hid (Rdb.below RRe0_10.out b11); have BH11 := Lib.hid (chainX w BH10.out b11); clear b11))
      go_wp2_with fail
      refine (CP1.out (by omega) _ BH11.out).mono ?_
      rintro e w12 ⟨qe1, rfl, re1, -, -, -, b12⟩
      have Q := XH0_11.out.later b12
      have cXH0_12_0 := Q.cells 0 _ rfl
      have cXH0_12_1 := Q.cells 1 _ rfl
      have cXH0_12_2 := Q.cells 2 _ rfl
      have cXH0_12_3 := Q.cells 3 _ rfl
      have XH0_12 := Lib.hid Q
      clear Q
      have Q := YH0_11.out.later b12
      have cYH0_12_0 := Q.cells 0 _ rfl
      have cYH0_12_1 := Q.cells 1 _ rfl
      have cYH0_12_2 := Q.cells 2 _ rfl
      have cYH0_12_3 := Q.cells 3 _ rfl
      have YH0_12 := Lib.hid Q
      clear Q
      have BA_12 := Lib.hid (chainX w4 BA_11.out b12)
      have BVi0_12 := Lib.hid (chainX w5 BVi0_11.out b12)
      have RRi0_12 := Lib.hid (Rdb.below RRi0_11.out b12)
      have RFi1_12 := Lib.hid (Rows.below RFi1_11.out b12)
      have QTi1_12 := Lib.hid (ltL QTi1_11.out b12)
      have RRi1_12 := Lib.hid (Rows.below RRi1_11.out b12)
      have GLE_12 := Lib.hid (leL GLE_11.out b12)
      have RG_12 := Lib.hid (GOne.below RG_11.out b12)
      have BH12 := Lib.hid (chainX w BH11.out b12)
      clear XH0_11 YH0_11 cXH0_11_0 cXH0_11_1 cXH0_11_2 cXH0_11_3 cYH0_11_0 cYH0_11_1 cYH0_11_2 cYH0_11_3 BA_11 BVi0_11 RRi0_11 RFi1_11 QTi1_11 RRi1_11 GLE_11 RG_11
      have RRe1_12 := Lib.hid (Rows.weak re1 (Nat.zero_le _) id)
      clear re1
      have ANS := Lib.hid (EQ1.out (by omega) (some ⟨qi1, 0, none⟩) (some ⟨qe1, 0, none⟩) _ RRi1_12.out RRe1_12.out)
      go_wp2_with fail
      refine (ANS.out).mono ?_
      rintro e w13 ⟨rfl, b13⟩
      have Q := XH0_12.out.later b13
      have cXH0_13_0 := Q.cells 0 _ rfl
      have cXH0_13_1 := Q.cells 1 _ rfl
      have cXH0_13_2 := Q.cells 2 _ rfl
      have cXH0_13_3 := Q.cells 3 _ rfl
      have XH0_13 := Lib.hid Q
      clear Q
      have Q := YH0_12.out.later b13
      have cYH0_13_0 := Q.cells 0 _ rfl
      have cYH0_13_1 := Q.cells 1 _ rfl
      have cYH0_13_2 := Q.cells 2 _ rfl
      have cYH0_13_3 := Q.cells 3 _ rfl
      have YH0_13 := Lib.hid Q
      clear Q
      have BA_13 := Lib.hid (chainX w4 BA_12.out b13)
      have BVi0_13 := Lib.hid (chainX w5 BVi0_12.out b13)
      have RRi0_13 := Lib.hid (Rdb.below RRi0_12.out b13)
      have RFi1_13 := Lib.hid (Rows.below RFi1_12.out b13)
      have QTi1_13 := Lib.hid (ltL QTi1_12.out b13)
      have RRi1_13 := Lib.hid (Rows.below RRi1_12.out b13)
      have GLE_13 := Lib.hid (leL GLE_12.out b13)
      have RG_13 := Lib.hid (GOne.below RG_12.out b13)
      have RRe1_13 := Lib.hid (Rows.below RRe1_12.out b13)
      have BH13 := Lib.hid (chainX w BH12.out b13)
      clear XH0_12 YH0_12 cXH0_12_0 cXH0_12_1 cXH0_12_2 cXH0_12_3 cYH0_12_0 cYH0_12_1 cYH0_12_2 cYH0_12_3 BA_12 BVi0_12 RRi0_12 RFi1_12 QTi1_12 RRi1_12 GLE_12 RG_12 RRe1_12
      clear ANS
      clear HS
      have MK := Lib.hid (MKC0.out (by omega) avi0_2 cvi0_2 (1) w4.heap.size w5 _ (by omega) (by omega) RMi0_2.out (Shadow.of BVi0_13.out) BVi0_13.out.size)
      go_wp2_with fail
      refine MK.out.mono ?_
      rintro e w14 ⟨ki0, rfl, ki0a, ki0b, CX⟩
      have BL := CX.below (Nat.le_trans ZLEi0.out BVi0_13.out.size)
      have BA_14 := Lib.hid (BA_13.out.trans (BL.mono QAi0.out))
      have BH14 := Lib.hid (BH13.out.trans (BL.mono (Nat.le_trans WA.out QAi0.out)))
      clear BL
      have RG_14 := Lib.hid (GOne.high RG_13.out VCi0.out CX)
      have GLE_14 := Lib.hid (Nat.le_trans GLE_13.out CX.size)
      have Q := bxChg XH0_13.out CX (Or.inl XLXH0i0.out)
      have cXH0_14_0 := Q.cells 0 _ rfl
      have cXH0_14_1 := Q.cells 1 _ rfl
      have cXH0_14_2 := Q.cells 2 _ rfl
      have cXH0_14_3 := Q.cells 3 _ rfl
      have XH0_14 := Lib.hid Q
      clear Q
      have QTi1_14 := Lib.hid (Nat.lt_of_lt_of_le QTi1_13.out CX.size)
      have RFi1_14 := Lib.hid (CX.high (Rows.weak RFi1_13.out VVi0i1.out id))
      clear MK CX
      have MK := Lib.hid (markI qi1 d1.length d1 (ki0) _ _ (by omega) (by omega) (by omega) RFi1_14.out)
      go_wp2_with fail
      refine MK.out.mono ?_
      rintro e w15 ⟨ki1, rfl, ki1a, ki1b, CX⟩
      have BL := CX.below (Nat.le_of_lt QTi1_14.out)
      have BA_15 := Lib.hid (BA_14.out.trans (BL.mono QAi1.out))
      have BH15 := Lib.hid (BH14.out.trans (BL.mono (Nat.le_trans WA.out QAi1.out)))
      clear BL
      have RG_15 := Lib.hid (GOne.high RG_14.out QCi1.out CX)
      have GLE_15 := Lib.hid (Nat.le_trans GLE_14.out CX.size)
      have Q := bxChg XH0_14.out CX (Or.inl XLXH0i1.out)
      have cXH0_15_0 := Q.cells 0 _ rfl
      have cXH0_15_1 := Q.cells 1 _ rfl
      have cXH0_15_2 := Q.cells 2 _ rfl
      have cXH0_15_3 := Q.cells 3 _ rfl
      have XH0_15 := Lib.hid Q
      clear Q
      clear MK CX
      have dk := (decide_eq_false (by omega) : decide ((ki1 : Int) < 0) = false)
      go_wp2_with fail
      refine (EQA.out ag aw cg cw _ RG_15.out.rows (RA.out.below BA_15.out)).mono ?_
      rintro e w16 ⟨rfl, b16⟩
      have Q := XH0_15.out.later b16
      have cXH0_16_0 := Q.cells 0 _ rfl
      have cXH0_16_1 := Q.cells 1 _ rfl
      have cXH0_16_2 := Q.cells 2 _ rfl
      have cXH0_16_3 := Q.cells 3 _ rfl
      have XH0_16 := Lib.hid Q
      clear Q
      have BA_16 := Lib.hid (chainX w4 BA_15.out b16)
      have GLE_16 := Lib.hid (leL GLE_15.out b16)
      have RG_16 := Lib.hid (GOne.below RG_15.out b16)
      have BH16 := Lib.hid (chainX w BH15.out b16)
      clear XH0_15 cXH0_15_0 cXH0_15_1 cXH0_15_2 cXH0_15_3 BA_15 GLE_15 RG_15
      have MG := Lib.hid (MKG.out ag cg _ _ RG_16.out)
      go_wp2_with fail
      refine MG.out.mono ?_
      rintro e w17 ⟨rfl, rm, CX⟩
      have Q := bxChg XH0_16.out CX (Or.inl XCXH0.out)
      have cXH0_17_0 := Q.cells 0 _ rfl
      have cXH0_17_1 := Q.cells 1 _ rfl
      have cXH0_17_2 := Q.cells 2 _ rfl
      have cXH0_17_3 := Q.cells 3 _ rfl
      have XH0_17 := Lib.hid Q
      clear Q
      have BL := CX.below GLE_16.out
      have BA_17 := Lib.hid (BA_16.out.trans (BL.mono LC.out))
      have BH17 := Lib.hid (BH16.out.trans (BL.mono (Nat.le_trans WA.out LC.out)))
      clear BL
      have RK_17 := Lib.hid rm
      clear rm CX MG
      go_wp2_with fail
      refine (HLD.out ag cg _ _ RK_17.out).mono ?_
      rintro e w18 ⟨rfl, b18⟩
      have Q := XH0_17.out.later b18
      have cXH0_18_0 := Q.cells 0 _ rfl
      have cXH0_18_1 := Q.cells 1 _ rfl
      have cXH0_18_2 := Q.cells 2 _ rfl
      have cXH0_18_3 := Q.cells 3 _ rfl
      have XH0_18 := Lib.hid Q
      clear Q
      have BA_18 := Lib.hid (chainX w4 BA_17.out b18)
      have RK_18 := Lib.hid (Rows.below RK_17.out b18)
      have BH18 := Lib.hid (chainX w BH17.out b18)
      clear XH0_17 cXH0_17_0 cXH0_17_1 cXH0_17_2 cXH0_17_3 BA_17 RK_17
      go_wp2_with fail
      refine (CP0.out (by omega) _ BH18.out).mono ?_
      rintro e w19 ⟨esh0, rfl, rh0, b19⟩
      have Q := XH0_18.out.later b19
      have cXH0_19_0 := Q.cells 0 _ rfl
      have cXH0_19_1 := Q.cells 1 _ rfl
      have cXH0_19_2 := Q.cells 2 _ rfl
      have cXH0_19_3 := Q.cells 3 _ rfl
      have XH0_19 := Lib.hid Q
      clear Q
      have BA_19 := Lib.hid (chainX w4 BA_18.out b19)
      have RK_19 := Lib.hid (Rows.below RK_18.out b19)
      have BH19 := Lib.hid (chainX w BH18.out b19)
      clear XH0_18 cXH0_18_0 cXH0_18_1 cXH0_18_2 cXH0_18_3 BA_18 RK_18
      have RRh0_19 := Lib.hid (Rdb.weak rh0 (Nat.zero_le _) id)
      obtain ⟨avh0_2, cvh0_2, rfl, fvh0_0, fvh0_1, fvh0_2, gvh0_2⟩ := shape_Interval rh0
      have RMh0_2 := Lib.hid fvh0_2
      clear rh0 fvh0_2
      go_wp2_with fail
      refine (CP1.out (by omega) _ BH19.out).mono ?_
      rintro e w20 ⟨qh1, rfl, rh1, -, -, -, b20⟩
      have Q := XH0_19.out.later b20
      have cXH0_20_0 := Q.cells 0 _ rfl
      have cXH0_20_1 := Q.cells 1 _ rfl
      have cXH0_20_2 := Q.cells 2 _ rfl
      have cXH0_20_3 := Q.cells 3 _ rfl
      have XH0_20 := Lib.hid Q
      clear Q
      have BA_20 := Lib.hid (chainX w4 BA_19.out b20)
      have RK_20 := Lib.hid (Rows.below RK_19.out b20)
      have RRh0_20 := Lib.hid (Rdb.below RRh0_19.out b20)
      have BH20 := Lib.hid (chainX w BH19.out b20)
      clear XH0_19 cXH0_19_0 cXH0_19_1 cXH0_19_2 cXH0_19_3 BA_19 RK_19 RRh0_19
      have RRh1_20 := Lib.hid (Rows.weak rh1 (Nat.zero_le _) id)
      clear rh1
      have ANS := Lib.hid (HI.out (by omega) (by omega) ([.int .i64 d0.first, .int .i64 d0.last, .slice avh0_2 d0.acting.length cvh0_2, .bool d0.may]) (some ⟨qh1, 0, none⟩) _ RRh0_20.out RRh1_20.out)
      go_wp2_with fail
      refine (ANS.out).mono ?_
      rintro e w21 ⟨ah, ch, rfl, kh, b21⟩
      have Q := XH0_20.out.later b21
      have cXH0_21_0 := Q.cells 0 _ rfl
      have cXH0_21_1 := Q.cells 1 _ rfl
      have cXH0_21_2 := Q.cells 2 _ rfl
      have cXH0_21_3 := Q.cells 3 _ rfl
      have XH0_21 := Lib.hid Q
      clear Q
      have BA_21 := Lib.hid (chainX w4 BA_20.out b21)
      have RK_21 := Lib.hid (Rows.below RK_20.out b21)
      have RRh0_21 := Lib.hid (Rdb.below RRh0_20.out b21)
      have RRh1_21 := Lib.hid (Rows.below RRh1_20.out b21)
      have BH21 := Lib.hid (chainX w BH20.out b21)
      clear XH0_20 cXH0_20_0 cXH0_20_1 cXH0_20_2 cXH0_20_3 BA_20 RK_20 RRh0_20 RRh1_20
      clear ANS
      have RH_21 := Lib.hid kh
      clear kh
      go_wp2_with fail
      refine (EQA.out ah aw ch cw _ RH_21.out.rows (RA.out.below BA_21.out)).mono ?_
      rintro e w22 ⟨rfl, b22⟩
      have Q := XH0_21.out.later b22
      have cXH0_22_0 := Q.cells 0 _ rfl
      have cXH0_22_1 := Q.cells 1 _ rfl
      have cXH0_22_2 := Q.cells 2 _ rfl
      have cXH0_22_3 := Q.cells 3 _ rfl
      have XH0_22 := Lib.hid Q
      clear Q
      have BA_22 := Lib.hid (chainX w4 BA_21.out b22)
      have RK_22 := Lib.hid (Rows.below RK_21.out b22)
      have RRh0_22 := Lib.hid (Rdb.below RRh0_21.out b22)
      have RRh1_22 := Lib.hid (Rows.below RRh1_21.out b22)
      have BH22 := Lib.hid (chainX w BH21.out b22)
      clear XH0_21 cXH0_21_0 cXH0_21_1 cXH0_21_2 cXH0_21_3 BA_21 RK_21 RRh0_21 RRh1_21
      go_wp2_with fail
      refine (HLD.out ag cg _ _ RK_22.out).mono ?_
      rintro e w23 ⟨rfl, b23⟩
      have Q := XH0_22.out.later b23
      have cXH0_23_0 := Q.cells 0 _ rfl
      have cXH0_23_1 := Q.cells 1 _ rfl
      have cXH0_23_2 := Q.cells 2 _ rfl
      have cXH0_23_3 := Q.cells 3 _ rfl
      have XH0_23 := Lib.hid Q
      clear Q
      have BA_23 := Lib.hid (chainX w4 BA_22.out b23)
      have RK_23 := Lib.hid (Rows.below RK_22.out b23)
      have RRh0_23 := Lib.hid (Rdb.below RRh0_22.out b23)
      have RRh1_23 := Lib.hid (Rows.below RRh1_22.out b23)
      have BH23 := Lib.hid (chainX w BH22.out b23)
      clear XH0_22 cXH0_22_0 cXH0_22_1 cXH0_22_2 cXH0_22_3 BA_22 RK_22 RRh0_22 RRh1_22
      all_goals
        go_wp2
        go_ret
        exact ⟨rfl, BH23.out⟩
    · skip
      go_enter Try.func13, Try.ntmps13
      have V0 := SZ0.out (1048576) (by omega) (by omega) _ BH0.out
      unfold SzB at V0
      rw [show szI (1048576) s0 = -1 from szI_no (by omega)] at V0
      have VH0 := Lib.hid V0
      clear V0
      go_wp2_with fail
      refine (VH0.out).mono ?_
      rintro e w1 ⟨rfl, b1⟩
      have Q := XH0_0.out.later b1
      have cXH0_1_0 := Q.cells 0 _ rfl
      have cXH0_1_1 := Q.cells 1 _ rfl
      have cXH0_1_2 := Q.cells 2 _ rfl
      have cXH0_1_3 := Q.cells 3 _ rfl
      have XH0_1 := Lib.hid Q
      clear Q
      have BH1 := Lib.hid (chainX w BH0.out b1)
      clear XH0_0
      go_wp2
      go_ret
      exact ⟨rfl, BH1.out⟩
  · have dl1 : decide ((1048576 : Int) < (d1.length : Int)) = true := decide_eq_true (by omega)
    go_enter Try.func13, Try.ntmps13
    go_wp2
    go_ret
    exact ⟨rfl, BH0.out⟩
end Go.Proofs.Ythimpcfodbmhkaa.Rd
