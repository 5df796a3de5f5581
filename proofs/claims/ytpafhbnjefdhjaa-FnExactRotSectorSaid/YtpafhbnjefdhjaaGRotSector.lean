/-
  The exact law of FnExactRotSector, given the model's answer and the program's (written by tools/gen/lawgen.py).
-/
import Derived.Test.YtpafhbnjefdhjaaMtk
import Derived.Deep.RegionHeld3
namespace Go.Proofs.Ytpafhbnjefdhjaa.Rd
open Go.RowKit Go.ChangeShapes Go.WideShapes
open Go.Proofs.Ytpafhbnjefdhjaa.Sg (BxN)
set_option linter.unusedVariables false
set_option linter.unusedSimpArgs false

set_option maxRecDepth 100000 in
set_option maxHeartbeats 4000000 in
theorem fnFnExactRotSector {cs0 : List Value} (d0 : DDisk) (x1 : Int) (x2 : Int) (x3 : Int) (r : DDisk) (rc : Int) (hr : Rdb.sz r ≤ 2097152) (w : World) (h0 : Rdb.rd false 0 w cs0 d0) (hS : Rdb.sz d0 ≤ 1048576 → ∀ (es0 : List Value) w' (k0 : Rdb.rd true 0 w' es0 d0), Calls Try.prog 40 #[.agg es0.toArray, .int .i64 x1, .int .i64 x2, .int .i64 x3] w' (AnsKR r rc w')) (hI : Rdb.sz d0 ≤ 1048576 → ∀ (es0 : List Value) w' (k0 : Rdb.rd true 0 w' es0 d0), Calls Try.prog 41 #[.agg es0.toArray, .int .i64 x1, .int .i64 x2, .int .i64 x3] w' (AnsK r rc w')) :
    Calls Try.prog 10 #[.agg cs0.toArray, .int .i64 x1, .int .i64 x2, .int .i64 x3] w (RetW (.bool true) w) := by
  obtain ⟨a0_0, c0_0, a0_1, c0_1, rfl, f0_0, g0_0, f0_1, g0_1⟩ := shape_Disk h0
  have BH0 := Lib.hid (lay w (.cells #[.slice a0_0 d0.sectors.length c0_0, .slice a0_1 d0.waits.length c0_1] 25))
  have Q0 := BxN.new w #[.slice a0_0 d0.sectors.length c0_0, .slice a0_1 d0.waits.length c0_1] 25
  have XH0_0 := Lib.hid Q0
  clear Q0
  have SZ0 := Lib.hid (fun (lf : Int) (p0 : 0 ≤ lf) (p1 : lf ≤ 2097152) w' (b : Below w.heap.size w w') => szDisk d0 lf p0 p1 w' (mk_Disk (d := d0) (a0 := a0_0) (c0 := c0_0) (a1 := a0_1) (c1 := c0_1) (f0_0.below b) g0_0 (f0_1.below b) g0_1))
  have CP0 := Lib.hid (fun (z : Rdb.sz d0 ≤ 2097152) w' (b : Below w.heap.size w w') => toDisk d0 w' z (mk_Disk (d := d0) (a0 := a0_0) (c0 := c0_0) (a1 := a0_1) (c1 := c0_1) (f0_0.below b) g0_0 (f0_1.below b) g0_1))
  have EQ0 := Lib.hid (fun (z : Rdb.sz d0 ≤ 2097152) (cs ds : List Value) w' (k1 : Rdb.rd true 0 w' cs d0) (k2 : Rdb.rd true 0 w' ds d0) => eqDisk d0 w' z k1 k2)
  have HS := Lib.hid hS
  have HI := Lib.hid hI
  clear hS hI
  obtain ⟨mm, hmm⟩ : ∃ mm : Int, mm = 1 + (r.sectors.length : Int) + 2 * (r.waits.length : Int) := ⟨_, rfl⟩
  have MKC0 := Lib.hid (fun (z : Rdb.sz d0 ≤ 2097152) (a0 : Option Addr) (c0 : Nat) (a1 : Option Addr) (c1 : Nat) (kk : Int) (lo : Nat) (v W : World) k0 k1 h0 h1 hs hz => markDiskB d0 a0 c0 a1 c1 kk lo v W z k0 k1 h0 h1 hs hz)
  have EQA := Lib.hid (fun (p0 : Option Addr) (c0 : Nat) (p1 : Option Addr) (c1 : Nat) (q0 : Option Addr) (e0 : Nat) (q1 : Option Addr) (e1 : Nat) W (k1 : Rw2 W r p0 p1) (k2 : Rw2 W r q0 q1) (z1 : r.sectors.length ≤ c0 ∧ r.waits.length ≤ c1) (z2 : r.sectors.length ≤ e0 ∧ r.waits.length ≤ e1) => eqK r p0 c0 p1 c1 q0 e0 q1 e1 W hr k1 k2 z1 z2)
  have MKG := Lib.hid (fun (p0 : Option Addr) (c0 : Nat) (p1 : Option Addr) (c1 : Nat) (lo hi : Nat) W (k1 : Own2 lo hi W r p0 p1) => markK r p0 c0 p1 c1 mm hmm lo hi W hr k1)
  have HLD := Lib.hid (fun (p0 : Option Addr) (c0 : Nat) (p1 : Option Addr) (c1 : Nat) W (k1 : Rw2 W (mkDisk r) p0 p1) => heldK r p0 c0 p1 c1 mm hmm W hr k1)
  clear hr
  have dm := (decide_eq_false (by omega) : decide (mm < 0) = false)
  have dm2 : (mm != mm) = false := by simp
  clear hmm
  clear f0_0 f0_1
  generalize hs0 : Rdb.sz d0 = s0 at *
  clear hs0
  by_cases q0 : (s0 : Int) ≤ 1048576
  · skip
    go_enter Try.func10, Try.ntmps10
    have V0 := SZ0.out (1048576) (by omega) (by omega) _ BH0.out
    unfold SzB at V0
    rw [show szI (1048576) s0 = 1048576 - (s0 : Int) from szI_yes (by omega)] at V0
    have VH0 := Lib.hid V0
    clear V0
    go_wp2_with fail
    refine (VH0.out).mono ?_
    rintro e w1 ⟨rfl, b1⟩
    have Q := XH0_0.out.later b1
    have cXH0_1_0 := Q.cells 0 _ rfl
    have cXH0_1_1 := Q.cells 1 _ rfl
    have XH0_1 := Lib.hid Q
    clear Q
    have BH1 := Lib.hid (chainX w BH0.out b1)
    clear XH0_0
    have CPx := True.intro
    go_wp2_with fail
    refine (CP0.out (by omega) _ BH1.out).mono ?_
    rintro e w2 ⟨ess0, rfl, rs0, b2⟩
    have Q := XH0_1.out.later b2
    have cXH0_2_0 := Q.cells 0 _ rfl
    have cXH0_2_1 := Q.cells 1 _ rfl
    have XH0_2 := Lib.hid Q
    clear Q
    have BH2 := Lib.hid (chainX w BH1.out b2)
    clear XH0_1 cXH0_1_0 cXH0_1_1
    have RRs0_2 := Lib.hid (Rdb.weak rs0 (Nat.zero_le _) id)
    obtain ⟨avs0_0, cvs0_0, avs0_1, cvs0_1, rfl, fvs0_0, gvs0_0, fvs0_1, gvs0_1⟩ := shape_Disk rs0
    have RMs0_0 := Lib.hid fvs0_0
    have RMs0_1 := Lib.hid fvs0_1
    clear rs0 fvs0_0 fvs0_1
    have ANS := Lib.hid (HS.out (by omega) ([.slice avs0_0 d0.sectors.length cvs0_0, .slice avs0_1 d0.waits.length cvs0_1]) _ RRs0_2.out)
    go_wp2_with fail
    refine (ANS.out).mono ?_
    rintro e w3 ⟨aw0, cw0, aw1, cw1, rfl, kw, lw, b3⟩
    have Q := XH0_2.out.later b3
    have cXH0_3_0 := Q.cells 0 _ rfl
    have cXH0_3_1 := Q.cells 1 _ rfl
    have XH0_3 := Lib.hid Q
    clear Q
    have RRs0_3 := Lib.hid (Rdb.below RRs0_2.out b3)
    have BH3 := Lib.hid (chainX w BH2.out b3)
    clear XH0_2 cXH0_2_0 cXH0_2_1 RRs0_2
    clear ANS
    have LWH := Lib.hid lw
    clear lw
    have RA := Lib.hid kw
    clear kw
    have BA_3 := Lib.hid (Below.refl w3.heap.size w3)
    have WA := Lib.hid (BH3.out.size)
    have LY := lay w3 (.cells #[.slice aw0 r.sectors.length cw0, .slice aw1 r.waits.length cw1] 30)
    have YN := BxN.new w3 #[.slice aw0 r.sectors.length cw0, .slice aw1 r.waits.length cw1] 30
    have Q := XH0_3.out.later LY
    have cXH0_4_0 := Q.cells 0 _ rfl
    have cXH0_4_1 := Q.cells 1 _ rfl
    have XH0_4 := Lib.hid Q
    clear Q
    have BA_4 := Lib.hid (chainX w3 BA_3.out LY)
    have cYW_4_0 := YN.cells 0 _ rfl
    have cYW_4_1 := YN.cells 1 _ rfl
    have YW_4 := Lib.hid YN
    have BH4 := Lib.hid (chainX w BH3.out LY)
    clear XH0_3 cXH0_3_0 cXH0_3_1 BA_3
    clear LY YN
    have LAi0 := Lib.hid BA_4.out.size
    have XLXH0i0 := Lib.hid XH0_4.out.lt
    have XLYWi0 := Lib.hid YW_4.out.lt
    go_wp2_with fail
    refine (CP0.out (by omega) _ BH4.out).mono ?_
    rintro e w5 ⟨esi0, rfl, ri0, b5⟩
    have Q := XH0_4.out.later b5
    have cXH0_5_0 := Q.cells 0 _ rfl
    have cXH0_5_1 := Q.cells 1 _ rfl
    have XH0_5 := Lib.hid Q
    clear Q
    have Q := YW_4.out.later b5
    have cYW_5_0 := Q.cells 0 _ rfl
    have cYW_5_1 := Q.cells 1 _ rfl
    have YW_5 := Lib.hid Q
    clear Q
    have BA_5 := Lib.hid (chainX w3 BA_4.out b5)
    have BH5 := Lib.hid (chainX w BH4.out b5)
    clear XH0_4 YW_4 cXH0_4_0 cXH0_4_1 cYW_4_0 cYW_4_1 BA_4
    have ZLEi0 := Lib.hid b5.size
    have QAi0 := LAi0
    have BVi0_5 := Lib.hid (Below.refl w5.heap.size w5)
    have RRi0_5 := Lib.hid (Rdb.weak ri0 (Nat.zero_le _) id)
    obtain ⟨avi0_0, cvi0_0, avi0_1, cvi0_1, rfl, fvi0_0, gvi0_0, fvi0_1, gvi0_1⟩ := shape_Disk ri0
    have RMi0_0 := Lib.hid fvi0_0
    have RMi0_1 := Lib.hid fvi0_1
    clear ri0 fvi0_0 fvi0_1
    have LY := lay w5 (.cells #[.slice avi0_0 d0.sectors.length cvi0_0, .slice avi0_1 d0.waits.length cvi0_1] 30)
    have YN := BxN.new w5 #[.slice avi0_0 d0.sectors.length cvi0_0, .slice avi0_1 d0.waits.length cvi0_1] 30
    have Q := XH0_5.out.later LY
    have cXH0_6_0 := Q.cells 0 _ rfl
    have cXH0_6_1 := Q.cells 1 _ rfl
    have XH0_6 := Lib.hid Q
    clear Q
    have Q := YW_5.out.later LY
    have cYW_6_0 := Q.cells 0 _ rfl
    have cYW_6_1 := Q.cells 1 _ rfl
    have YW_6 := Lib.hid Q
    clear Q
    have BA_6 := Lib.hid (chainX w3 BA_5.out LY)
    have BVi0_6 := Lib.hid (chainX w5 BVi0_5.out LY)
    have RRi0_6 := Lib.hid (Rdb.below RRi0_5.out LY)
    have cYH0_6_0 := YN.cells 0 _ rfl
    have cYH0_6_1 := YN.cells 1 _ rfl
    have YH0_6 := Lib.hid YN
    have BH6 := Lib.hid (chainX w BH5.out LY)
    clear XH0_5 YW_5 cXH0_5_0 cXH0_5_1 cYW_5_0 cYW_5_1 BA_5 BVi0_5 RRi0_5
    clear LY YN
    have XCXH0 := Lib.hid XH0_6.out.lt
    have XCYW := Lib.hid YW_6.out.lt
    have XCYH0 := Lib.hid YH0_6.out.lt
    have LC := Lib.hid BA_6.out.size
    have VCi0 := Lib.hid BVi0_6.out.size
    have ANS := Lib.hid (HI.out (by omega) ([.slice avi0_0 d0.sectors.length cvi0_0, .slice avi0_1 d0.waits.length cvi0_1]) _ RRi0_6.out)
    go_wp2_with fail
    refine (ANS.out).mono ?_
    rintro e w7 ⟨ag0, cg0, ag1, cg1, rfl, kg, lg, b7⟩
    have Q := XH0_6.out.later b7
    have cXH0_7_0 := Q.cells 0 _ rfl
    have cXH0_7_1 := Q.cells 1 _ rfl
    have XH0_7 := Lib.hid Q
    clear Q
    have Q := YW_6.out.later b7
    have cYW_7_0 := Q.cells 0 _ rfl
    have cYW_7_1 := Q.cells 1 _ rfl
    have YW_7 := Lib.hid Q
    clear Q
    have Q := YH0_6.out.later b7
    have cYH0_7_0 := Q.cells 0 _ rfl
    have cYH0_7_1 := Q.cells 1 _ rfl
    have YH0_7 := Lib.hid Q
    clear Q
    have BA_7 := Lib.hid (chainX w3 BA_6.out b7)
    have BVi0_7 := Lib.hid (chainX w5 BVi0_6.out b7)
    have RRi0_7 := Lib.hid (Rdb.below RRi0_6.out b7)
    have BH7 := Lib.hid (chainX w BH6.out b7)
    clear XH0_6 YW_6 YH0_6 cXH0_6_0 cXH0_6_1 cYW_6_0 cYW_6_1 cYH0_6_0 cYH0_6_1 BA_6 BVi0_6 RRi0_6
    clear ANS
    have LGH := Lib.hid lg
    clear lg
    have RGT := Lib.hid kg
    have GTOP := Lib.hid b7.size
    have RG_7 := Lib.hid kg
    clear kg
    have GLE_7 := Lib.hid b7.size
    have TOPL_7 := Lib.hid (Nat.le_refl w7.heap.size)
    have LY := lay w7 (.cells #[.slice ag0 r.sectors.length cg0, .slice ag1 r.waits.length cg1] 30)
    have YN := BxN.new w7 #[.slice ag0 r.sectors.length cg0, .slice ag1 r.waits.length cg1] 30
    have Q := XH0_7.out.later LY
    have cXH0_8_0 := Q.cells 0 _ rfl
    have cXH0_8_1 := Q.cells 1 _ rfl
    have XH0_8 := Lib.hid Q
    clear Q
    have Q := YW_7.out.later LY
    have cYW_8_0 := Q.cells 0 _ rfl
    have cYW_8_1 := Q.cells 1 _ rfl
    have YW_8 := Lib.hid Q
    clear Q
    have Q := YH0_7.out.later LY
    have cYH0_8_0 := Q.cells 0 _ rfl
    have cYH0_8_1 := Q.cells 1 _ rfl
    have YH0_8 := Lib.hid Q
    clear Q
    have BA_8 := Lib.hid (chainX w3 BA_7.out LY)
    have BVi0_8 := Lib.hid (chainX w5 BVi0_7.out LY)
    have RRi0_8 := Lib.hid (Rdb.below RRi0_7.out LY)
    have GLE_8 := Lib.hid (leL GLE_7.out LY)
    have RG_8 := Lib.hid (Own2.below RG_7.out LY)
    have TOPL_8 := Lib.hid (leL TOPL_7.out LY)
    have cYG_8_0 := YN.cells 0 _ rfl
    have cYG_8_1 := YN.cells 1 _ rfl
    have YG_8 := Lib.hid YN
    have BH8 := Lib.hid (chainX w BH7.out LY)
    clear XH0_7 YW_7 YH0_7 cXH0_7_0 cXH0_7_1 cYW_7_0 cYW_7_1 cYH0_7_0 cYH0_7_1 BA_7 BVi0_7 RRi0_7 GLE_7 RG_7 TOPL_7
    clear LY YN
    go_wp2_with fail
    refine (EQA.out ag0 cg0 ag1 cg1 aw0 cw0 aw1 cw1 _ (Own2.rows RG_8.out) (RA.out.below BA_8.out) LGH.out LWH.out).mono ?_
    rintro e w9 ⟨rfl, b9⟩
    have Q := XH0_8.out.later b9
    have cXH0_9_0 := Q.cells 0 _ rfl
    have cXH0_9_1 := Q.cells 1 _ rfl
    have XH0_9 := Lib.hid Q
    clear Q
    have Q := YW_8.out.later b9
    have cYW_9_0 := Q.cells 0 _ rfl
    have cYW_9_1 := Q.cells 1 _ rfl
    have YW_9 := Lib.hid Q
    clear Q
    have Q := YH0_8.out.later b9
    have cYH0_9_0 := Q.cells 0 _ rfl
    have cYH0_9_1 := Q.cells 1 _ rfl
    have YH0_9 := Lib.hid Q
    clear Q
    have Q := YG_8.out.later b9
    have cYG_9_0 := Q.cells 0 _ rfl
    have cYG_9_1 := Q.cells 1 _ rfl
    have YG_9 := Lib.hid Q
    clear Q
    have BA_9 := Lib.hid (chainX w3 BA_8.out b9)
    have BVi0_9 := Lib.hid (chainX w5 BVi0_8.out b9)
    have RRi0_9 := Lib.hid (Rdb.below RRi0_8.out b9)
    have GLE_9 := Lib.hid (leL GLE_8.out b9)
    have RG_9 := Lib.hid (Own2.below RG_8.out b9)
    have TOPL_9 := Lib.hid (leL TOPL_8.out b9)
    have BH9 := Lib.hid (chainX w BH8.out b9)
    clear XH0_8 YW_8 YH0_8 YG_8 cXH0_8_0 cXH0_8_1 cYW_8_0 cYW_8_1 cYH0_8_0 cYH0_8_1 cYG_8_0 cYG_8_1 BA_8 BVi0_8 RRi0_8 GLE_8 RG_8 TOPL_8
    go_wp2_with fail
    go_region_held3 (fun w' => w'.cell? ⟨w.heap.size, 0, none⟩ = some (.slice a0_0 d0.sectors.length c0_0) ∧ w'.cell? ⟨w.heap.size, 1, none⟩ = some (.slice a0_1 d0.waits.length c0_1) ∧ w'.cell? ⟨w3.heap.size, 0, none⟩ = some (.slice aw0 r.sectors.length cw0) ∧ w'.cell? ⟨w3.heap.size, 1, none⟩ = some (.slice aw1 r.waits.length cw1) ∧ w'.cell? ⟨w5.heap.size, 0, none⟩ = some (.slice avi0_0 d0.sectors.length cvi0_0) ∧ w'.cell? ⟨w5.heap.size, 1, none⟩ = some (.slice avi0_1 d0.waits.length cvi0_1) ∧ w'.cell? ⟨w7.heap.size, 0, none⟩ = some (.slice ag0 r.sectors.length cg0) ∧ w'.cell? ⟨w7.heap.size, 1, none⟩ = some (.slice ag1 r.waits.length cg1)) (go_keep)
      (first
        | (go_at_call 16; refine (CP0.out (by omega) _ BH9.out.drew).mono ?_; rintro e w10 ⟨ese0, rfl, re0, b10⟩; have b10 := undrewX b10; have Q := XH0_9.out.later b10; have cXH0_10_0 := Q.cells 0 _ rfl; have cXH0_10_1 := Q.cells 1 _ rfl; have XH0_10 := Lib.hid Q; clear Q; have Q := YW_9.out.later b10; have cYW_10_0 := Q.cells 0 _ rfl; have cYW_10_1 := Q.cells 1 _ rfl; have YW_10 := Lib.hid Q; clear Q; have Q := YH0_9.out.later b10; have cYH0_10_0 := Q.cells 0 _ rfl; have cYH0_10_1 := Q.cells 1 _ rfl; have YH0_10 := Lib.hid Q; clear Q; have Q := YG_9.out.later b10; have cYG_10_0 := Q.cells 0 _ rfl; have cYG_10_1 := Q.cells 1 _ rfl; have YG_10 := Lib.hid Q; clear Q; have BA_10 := Lib.hid (chainX w3 BA_9.out b10); have BVi0_10 := Lib.hid (chainX w5 BVi0_9.out b10); have RRi0_10 := Lib.hid (Rdb.below RRi0_9.out b10); have GLE_10 := Lib.hid (leL GLE_9.out b10); have RG_10 := Lib.hid (Own2.below RG_9.out b10); have TOPL_10 := Lib.hid (leL TOPL_9.out b10); have BH10 := Lib.hid (chainX w BH9.out b10); clear b10; have RRe0_10 := Lib.hid (Rdb.weak re0 (Nat.zero_le _) id); obtain ⟨ave0_0, cve0_0, ave0_1, cve0_1, rfl, fve0_0, gve0_0, fve0_1, gve0_1⟩ := shape_Disk re0; have RMe0_0 := Lib.hid fve0_0; have RMe0_1 := Lib.hid fve0_1; clear re0 fve0_0 fve0_1)
        | (go_at_call 18; refine (EQ0.out (by omega) ([.slice avi0_0 d0.sectors.length cvi0_0, .slice avi0_1 d0.waits.length cvi0_1]) ([.slice ave0_0 d0.sectors.length cve0_0, .slice ave0_1 d0.waits.length cve0_1]) _ RRi0_10.out RRe0_10.out).mono ?_; rintro e w11 ⟨rfl, b11⟩; have Q := XH0_10.out.later b11; have cXH0_11_0 := Q.cells 0 _ rfl; have cXH0_11_1 := Q.cells 1 _ rfl; have XH0_11 := Lib.hid Q; clear Q; have Q := YW_10.out.later b11; have cYW_11_0 := Q.cells 0 _ rfl; have cYW_11_1 := Q.cells 1 _ rfl; have YW_11 := Lib.hid Q; clear Q; have Q := YH0_10.out.later b11; have cYH0_11_0 := Q.cells 0 _ rfl; have cYH0_11_1 := Q.cells 1 _ rfl; have YH0_11 := Lib.hid Q; clear Q; have Q := YG_10.out.later b11; have cYG_11_0 := Q.cells 0 _ rfl; have cYG_11_1 := Q.cells 1 _ rfl; have YG_11 := Lib.hid Q; clear Q; have BA_11 := Lib.hid (chainX w3 BA_10.out b11); have BVi0_11 := Lib.hid (chainX w5 BVi0_10.out b11); have RRi0_11 := Lib.hid (Rdb.below RRi0_10.out b11); have GLE_11 := Lib.hid (leL GLE_10.out b11); have RG_11 := Lib.hid (Own2.below RG_10.out b11); have TOPL_11 := Lib.hid (leL TOPL_10.out b11); have RRe0_11 := Lib.hid (Rdb.below RRe0_10.out b11); have BH11 := Lib.hid (chainX w BH10.out b11); clear b11))
    clear HS
    have MK := Lib.hid (MKC0.out (by omega) avi0_0 cvi0_0 avi0_1 cvi0_1 (1) _ w5 _ (by omega) (by omega) RMi0_0.out RMi0_1.out (Shadow.of BVi0_11.out) BVi0_11.out.size)
    go_wp2_with fail
    refine MK.out.mono ?_
    rintro e w12 ⟨ki0, rfl, ki0a, ki0b, CX⟩
    have BL := CX.below (Nat.le_trans ZLEi0.out BVi0_11.out.size)
    have BA_12 := Lib.hid (BA_11.out.trans (BL.mono QAi0.out))
    have BH12 := Lib.hid (BH11.out.trans (BL.mono (Nat.le_trans WA.out QAi0.out)))
    clear BL
    have RG_12 := Lib.hid (Own2.high RG_11.out VCi0.out CX)
    have GLE_12 := Lib.hid (Nat.le_trans GLE_11.out CX.size)
    have TOPL_12 := Lib.hid (Nat.le_trans TOPL_11.out CX.size)
    have Q := bxChg XH0_11.out CX (Or.inl XLXH0i0.out)
    have cXH0_12_0 := Q.cells 0 _ rfl
    have cXH0_12_1 := Q.cells 1 _ rfl
    have XH0_12 := Lib.hid Q
    clear Q
    have Q := bxChg YW_11.out CX (Or.inl XLYWi0.out)
    have cYW_12_0 := Q.cells 0 _ rfl
    have cYW_12_1 := Q.cells 1 _ rfl
    have YW_12 := Lib.hid Q
    clear Q
    have Q := bxChg YG_11.out CX (Or.inr (Nat.le_trans VCi0.out GTOP.out))
    have cYG_12_0 := Q.cells 0 _ rfl
    have cYG_12_1 := Q.cells 1 _ rfl
    have YG_12 := Lib.hid Q
    clear Q
    clear MK CX
    have dk := (decide_eq_false (by omega) : decide ((ki0 : Int) < 0) = false)
    go_wp2_with fail
    refine (EQA.out ag0 cg0 ag1 cg1 aw0 cw0 aw1 cw1 _ (Own2.rows RG_12.out) (RA.out.below BA_12.out) LGH.out LWH.out).mono ?_
    rintro e w13 ⟨rfl, b13⟩
    have Q := XH0_12.out.later b13
    have cXH0_13_0 := Q.cells 0 _ rfl
    have cXH0_13_1 := Q.cells 1 _ rfl
    have XH0_13 := Lib.hid Q
    clear Q
    have Q := YW_12.out.later b13
    have cYW_13_0 := Q.cells 0 _ rfl
    have cYW_13_1 := Q.cells 1 _ rfl
    have YW_13 := Lib.hid Q
    clear Q
    have Q := YG_12.out.later b13
    have cYG_13_0 := Q.cells 0 _ rfl
    have cYG_13_1 := Q.cells 1 _ rfl
    have YG_13 := Lib.hid Q
    clear Q
    have BA_13 := Lib.hid (chainX w3 BA_12.out b13)
    have GLE_13 := Lib.hid (leL GLE_12.out b13)
    have RG_13 := Lib.hid (Own2.below RG_12.out b13)
    have TOPL_13 := Lib.hid (leL TOPL_12.out b13)
    have BH13 := Lib.hid (chainX w BH12.out b13)
    clear XH0_12 YW_12 YG_12 cXH0_12_0 cXH0_12_1 cYW_12_0 cYW_12_1 cYG_12_0 cYG_12_1 BA_12 GLE_12 RG_12 TOPL_12
    have MG := Lib.hid (MKG.out ag0 cg0 ag1 cg1 _ _ _ RG_13.out)
    go_wp2_with fail
    refine MG.out.mono ?_
    rintro e w14 ⟨rfl, rm, CX⟩
    have Q := bxChg XH0_13.out CX (Or.inl XCXH0.out)
    have cXH0_14_0 := Q.cells 0 _ rfl
    have cXH0_14_1 := Q.cells 1 _ rfl
    have XH0_14 := Lib.hid Q
    clear Q
    have Q := bxChg YW_13.out CX (Or.inl XCYW.out)
    have cYW_14_0 := Q.cells 0 _ rfl
    have cYW_14_1 := Q.cells 1 _ rfl
    have YW_14 := Lib.hid Q
    clear Q
    have Q := bxChg YG_13.out CX (Or.inr (Nat.le_refl _))
    have cYG_14_0 := Q.cells 0 _ rfl
    have cYG_14_1 := Q.cells 1 _ rfl
    have YG_14 := Lib.hid Q
    clear Q
    have BL := CX.below (Nat.le_trans GTOP.out TOPL_13.out)
    have BA_14 := Lib.hid (BA_13.out.trans (BL.mono LC.out))
    have BH14 := Lib.hid (BH13.out.trans (BL.mono (Nat.le_trans WA.out LC.out)))
    clear BL
    have RK_14 := Lib.hid rm
    clear rm CX MG
    go_wp2_with fail
    refine (HLD.out ag0 cg0 ag1 cg1 _ RK_14.out).mono ?_
    rintro e w15 ⟨rfl, b15⟩
    have Q := XH0_14.out.later b15
    have cXH0_15_0 := Q.cells 0 _ rfl
    have cXH0_15_1 := Q.cells 1 _ rfl
    have XH0_15 := Lib.hid Q
    clear Q
    have Q := YW_14.out.later b15
    have cYW_15_0 := Q.cells 0 _ rfl
    have cYW_15_1 := Q.cells 1 _ rfl
    have YW_15 := Lib.hid Q
    clear Q
    have Q := YG_14.out.later b15
    have cYG_15_0 := Q.cells 0 _ rfl
    have cYG_15_1 := Q.cells 1 _ rfl
    have YG_15 := Lib.hid Q
    clear Q
    have BA_15 := Lib.hid (chainX w3 BA_14.out b15)
    have RK_15 := Lib.hid (Rw2.below RK_14.out b15)
    have BH15 := Lib.hid (chainX w BH14.out b15)
    clear XH0_14 YW_14 YG_14 cXH0_14_0 cXH0_14_1 cYW_14_0 cYW_14_1 cYG_14_0 cYG_14_1 BA_14 RK_14
    go_wp2_with fail
    refine (CP0.out (by omega) _ BH15.out).mono ?_
    rintro e w16 ⟨esh0, rfl, rh0, b16⟩
    have Q := XH0_15.out.later b16
    have cXH0_16_0 := Q.cells 0 _ rfl
    have cXH0_16_1 := Q.cells 1 _ rfl
    have XH0_16 := Lib.hid Q
    clear Q
    have Q := YW_15.out.later b16
    have cYW_16_0 := Q.cells 0 _ rfl
    have cYW_16_1 := Q.cells 1 _ rfl
    have YW_16 := Lib.hid Q
    clear Q
    have Q := YG_15.out.later b16
    have cYG_16_0 := Q.cells 0 _ rfl
    have cYG_16_1 := Q.cells 1 _ rfl
    have YG_16 := Lib.hid Q
    clear Q
    have BA_16 := Lib.hid (chainX w3 BA_15.out b16)
    have RK_16 := Lib.hid (Rw2.below RK_15.out b16)
    have BH16 := Lib.hid (chainX w BH15.out b16)
    clear XH0_15 YW_15 YG_15 cXH0_15_0 cXH0_15_1 cYW_15_0 cYW_15_1 cYG_15_0 cYG_15_1 BA_15 RK_15
    have RRh0_16 := Lib.hid (Rdb.weak rh0 (Nat.zero_le _) id)
    obtain ⟨avh0_0, cvh0_0, avh0_1, cvh0_1, rfl, fvh0_0, gvh0_0, fvh0_1, gvh0_1⟩ := shape_Disk rh0
    have RMh0_0 := Lib.hid fvh0_0
    have RMh0_1 := Lib.hid fvh0_1
    clear rh0 fvh0_0 fvh0_1
    have ANS := Lib.hid (HI.out (by omega) ([.slice avh0_0 d0.sectors.length cvh0_0, .slice avh0_1 d0.waits.length cvh0_1]) _ RRh0_16.out)
    go_wp2_with fail
    refine (ANS.out).mono ?_
    rintro e w17 ⟨ah0, ch0, ah1, ch1, rfl, kh, lh, b17⟩
    have Q := XH0_16.out.later b17
    have cXH0_17_0 := Q.cells 0 _ rfl
    have cXH0_17_1 := Q.cells 1 _ rfl
    have XH0_17 := Lib.hid Q
    clear Q
    have Q := YW_16.out.later b17
    have cYW_17_0 := Q.cells 0 _ rfl
    have cYW_17_1 := Q.cells 1 _ rfl
    have YW_17 := Lib.hid Q
    clear Q
    have Q := YG_16.out.later b17
    have cYG_17_0 := Q.cells 0 _ rfl
    have cYG_17_1 := Q.cells 1 _ rfl
    have YG_17 := Lib.hid Q
    clear Q
    have BA_17 := Lib.hid (chainX w3 BA_16.out b17)
    have RK_17 := Lib.hid (Rw2.below RK_16.out b17)
    have RRh0_17 := Lib.hid (Rdb.below RRh0_16.out b17)
    have BH17 := Lib.hid (chainX w BH16.out b17)
    clear XH0_16 YW_16 YG_16 cXH0_16_0 cXH0_16_1 cYW_16_0 cYW_16_1 cYG_16_0 cYG_16_1 BA_16 RK_16 RRh0_16
    clear ANS
    have RH_17 := Lib.hid kh
    clear kh
    have LHH := Lib.hid lh
    clear lh
    have LY := lay w17 (.cells #[.slice ah0 r.sectors.length ch0, .slice ah1 r.waits.length ch1] 30)
    have YN := BxN.new w17 #[.slice ah0 r.sectors.length ch0, .slice ah1 r.waits.length ch1] 30
    have Q := XH0_17.out.later LY
    have cXH0_18_0 := Q.cells 0 _ rfl
    have cXH0_18_1 := Q.cells 1 _ rfl
    have XH0_18 := Lib.hid Q
    clear Q
    have Q := YW_17.out.later LY
    have cYW_18_0 := Q.cells 0 _ rfl
    have cYW_18_1 := Q.cells 1 _ rfl
    have YW_18 := Lib.hid Q
    clear Q
    have Q := YG_17.out.later LY
    have cYG_18_0 := Q.cells 0 _ rfl
    have cYG_18_1 := Q.cells 1 _ rfl
    have YG_18 := Lib.hid Q
    clear Q
    have BA_18 := Lib.hid (chainX w3 BA_17.out LY)
    have RK_18 := Lib.hid (Rw2.below RK_17.out LY)
    have RRh0_18 := Lib.hid (Rdb.below RRh0_17.out LY)
    have RH_18 := Lib.hid (Own2.below RH_17.out LY)
    have cYK_18_0 := YN.cells 0 _ rfl
    have cYK_18_1 := YN.cells 1 _ rfl
    have YK_18 := Lib.hid YN
    have BH18 := Lib.hid (chainX w BH17.out LY)
    clear XH0_17 YW_17 YG_17 cXH0_17_0 cXH0_17_1 cYW_17_0 cYW_17_1 cYG_17_0 cYG_17_1 BA_17 RK_17 RRh0_17 RH_17
    clear LY YN
    go_wp2_with fail
    refine (EQA.out ah0 ch0 ah1 ch1 aw0 cw0 aw1 cw1 _ (Own2.rows RH_18.out) (RA.out.below BA_18.out) LHH.out LWH.out).mono ?_
    rintro e w19 ⟨rfl, b19⟩
    have Q := XH0_18.out.later b19
    have cXH0_19_0 := Q.cells 0 _ rfl
    have cXH0_19_1 := Q.cells 1 _ rfl
    have XH0_19 := Lib.hid Q
    clear Q
    have Q := YW_18.out.later b19
    have cYW_19_0 := Q.cells 0 _ rfl
    have cYW_19_1 := Q.cells 1 _ rfl
    have YW_19 := Lib.hid Q
    clear Q
    have Q := YG_18.out.later b19
    have cYG_19_0 := Q.cells 0 _ rfl
    have cYG_19_1 := Q.cells 1 _ rfl
    have YG_19 := Lib.hid Q
    clear Q
    have Q := YK_18.out.later b19
    have cYK_19_0 := Q.cells 0 _ rfl
    have cYK_19_1 := Q.cells 1 _ rfl
    have YK_19 := Lib.hid Q
    clear Q
    have BA_19 := Lib.hid (chainX w3 BA_18.out b19)
    have RK_19 := Lib.hid (Rw2.below RK_18.out b19)
    have RRh0_19 := Lib.hid (Rdb.below RRh0_18.out b19)
    have RH_19 := Lib.hid (Own2.below RH_18.out b19)
    have BH19 := Lib.hid (chainX w BH18.out b19)
    clear XH0_18 YW_18 YG_18 YK_18 cXH0_18_0 cXH0_18_1 cYW_18_0 cYW_18_1 cYG_18_0 cYG_18_1 cYK_18_0 cYK_18_1 BA_18 RK_18 RRh0_18 RH_18
    go_wp2_with fail
    refine (HLD.out ag0 cg0 ag1 cg1 _ RK_19.out).mono ?_
    rintro e w20 ⟨rfl, b20⟩
    have Q := XH0_19.out.later b20
    have cXH0_20_0 := Q.cells 0 _ rfl
    have cXH0_20_1 := Q.cells 1 _ rfl
    have XH0_20 := Lib.hid Q
    clear Q
    have Q := YW_19.out.later b20
    have cYW_20_0 := Q.cells 0 _ rfl
    have cYW_20_1 := Q.cells 1 _ rfl
    have YW_20 := Lib.hid Q
    clear Q
    have Q := YG_19.out.later b20
    have cYG_20_0 := Q.cells 0 _ rfl
    have cYG_20_1 := Q.cells 1 _ rfl
    have YG_20 := Lib.hid Q
    clear Q
    have Q := YK_19.out.later b20
    have cYK_20_0 := Q.cells 0 _ rfl
    have cYK_20_1 := Q.cells 1 _ rfl
    have YK_20 := Lib.hid Q
    clear Q
    have BA_20 := Lib.hid (chainX w3 BA_19.out b20)
    have RK_20 := Lib.hid (Rw2.below RK_19.out b20)
    have RRh0_20 := Lib.hid (Rdb.below RRh0_19.out b20)
    have RH_20 := Lib.hid (Own2.below RH_19.out b20)
    have BH20 := Lib.hid (chainX w BH19.out b20)
    clear XH0_19 YW_19 YG_19 YK_19 cXH0_19_0 cXH0_19_1 cYW_19_0 cYW_19_1 cYG_19_0 cYG_19_1 cYK_19_0 cYK_19_1 BA_19 RK_19 RRh0_19 RH_19
    all_goals
      go_wp2
      go_ret
      exact ⟨rfl, BH20.out⟩
  · skip
    go_enter Try.func10, Try.ntmps10
    have V0 := SZ0.out (1048576) (by omega) (by omega) _ BH0.out
    unfold SzB at V0
    rw [show szI (1048576) s0 = -1 from szI_no (by omega)] at V0
    have VH0 := Lib.hid V0
    clear V0
    go_wp2_with fail
    refine (VH0.out).mono ?_
    rintro e w1 ⟨rfl, b1⟩
    have Q := XH0_0.out.later b1
    have cXH0_1_0 := Q.cells 0 _ rfl
    have cXH0_1_1 := Q.cells 1 _ rfl
    have XH0_1 := Lib.hid Q
    clear Q
    have BH1 := Lib.hid (chainX w BH0.out b1)
    clear XH0_0
    go_wp2
    go_ret
    exact ⟨rfl, BH1.out⟩
end Go.Proofs.Ytpafhbnjefdhjaa.Rd
