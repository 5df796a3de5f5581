/-
  The exact law of MapOk: the program answers as the model, and the map is left as it was. No condition.
-/
import Derived.Test.YteogbfmghbaelaaMpO
import Derived.Deep.RegionHeld3
namespace Go.Proofs.Yteogbfmghbaelaa.Rd
open Go.RowKit Go.ChangeShapes Go.WideShapes Go.Proofs.Yteogbfmghbaelaa.GfI Go.Proofs.Yteogbfmghbaelaa.GfS
open Go.Proofs.Yteogbfmghbaelaa.Sg (BxN)
open Go.Proofs.Yteogbfmghbaelaa.Tm (TD TA TIn IffB RisN zF Whole Same isRising)
open Go.Proofs.Yteogbfmghbaelaa.MixC (Words)
set_option linter.unusedVariables false
set_option linter.unusedSimpArgs false

set_option maxRecDepth 100000 in
set_option maxHeartbeats 4000000 in
theorem fnFnExactMapOk {cs0 : List Value} (d0 : DMap) (b : Bool) (w : World) (h0 : Rdb.rd false 0 w cs0 d0) (hS : Rdb.sz d0 ≤ 1048576 → ∀ (es0 : List Value) w' (k0 : Rdb.rd true 0 w' es0 d0), Calls Try.prog 19 #[.agg es0.toArray] w' (RetW (.bool b) w')) (hI : Rdb.sz d0 ≤ 1048576 → ∀ (es0 : List Value) w' (k0 : Rdb.rd true 0 w' es0 d0), Calls Try.prog 20 #[.agg es0.toArray] w' (RetW (.bool b) w')) :
    Calls Try.prog 5 #[.agg cs0.toArray] w (RetW (.bool true) w) := by
  obtain ⟨a0_2, c0_2, a0_3, c0_3, a0_4, c0_4, a0_5, c0_5, a0_6, c0_6, a0_7, c0_7, rfl, f0_0, f0_1, f0_2, g0_2, f0_3, g0_3, f0_4, g0_4, f0_5, g0_5, f0_6, g0_6, f0_7, g0_7⟩ := shape_Map h0
  have BH0 := Lib.hid (lay w (.cells #[.int .i64 d0.epoch, .int .i64 d0.term, .slice a0_2 d0.tree.devices.length c0_2, .slice a0_3 d0.tree.buckets.length c0_3, .slice a0_4 d0.rules.length c0_4, .slice a0_5 d0.pools.length c0_5, .slice a0_6 d0.up.length c0_6, .slice a0_7 d0.out.length c0_7] 36))
  have Q0 := BxN.new w #[.int .i64 d0.epoch, .int .i64 d0.term, .slice a0_2 d0.tree.devices.length c0_2, .slice a0_3 d0.tree.buckets.length c0_3, .slice a0_4 d0.rules.length c0_4, .slice a0_5 d0.pools.length c0_5, .slice a0_6 d0.up.length c0_6, .slice a0_7 d0.out.length c0_7] 36
  have XH0_0 := Lib.hid Q0
  clear Q0
  have SZ0 := Lib.hid (fun (lf : Int) (p0 : 0 ≤ lf) (p1 : lf ≤ 2097152) w' (b : Below w.heap.size w w') => szMap d0 lf p0 p1 w' (mk_Map (d := d0) (a2 := a0_2) (c2 := c0_2) (a3 := a0_3) (c3 := c0_3) (a4 := a0_4) (c4 := c0_4) (a5 := a0_5) (c5 := c0_5) (a6 := a0_6) (c6 := c0_6) (a7 := a0_7) (c7 := c0_7) f0_0 f0_1 (f0_2.below b) g0_2 (f0_3.below b) g0_3 (f0_4.below b) g0_4 (f0_5.below b) g0_5 (f0_6.below b) g0_6 (f0_7.below b) g0_7))
  have CP0 := Lib.hid (fun (z : Rdb.sz d0 ≤ 2097152) w' (b : Below w.heap.size w w') => toMap d0 w' z (mk_Map (d := d0) (a2 := a0_2) (c2 := c0_2) (a3 := a0_3) (c3 := c0_3) (a4 := a0_4) (c4 := c0_4) (a5 := a0_5) (c5 := c0_5) (a6 := a0_6) (c6 := c0_6) (a7 := a0_7) (c7 := c0_7) f0_0 f0_1 (f0_2.below b) g0_2 (f0_3.below b) g0_3 (f0_4.below b) g0_4 (f0_5.below b) g0_5 (f0_6.below b) g0_6 (f0_7.below b) g0_7))
  have EQ0 := Lib.hid (fun (z : Rdb.sz d0 ≤ 2097152) (cs ds : List Value) w' (k1 : Rdb.rd true 0 w' cs d0) (k2 : Rdb.rd true 0 w' ds d0) => eqMap d0 w' z k1 k2)
  have HS := Lib.hid hS
  have HI := Lib.hid hI
  clear hS hI
  clear f0_2 f0_3 f0_4 f0_5 f0_6 f0_7
  generalize hs0 : Rdb.sz d0 = s0 at *
  clear hs0
  by_cases q0 : (s0 : Int) ≤ 1048576
  · skip
    go_enter Try.func5, Try.ntmps5
    have V0 := SZ0.out (1048576) (by omega) (by omega) _ BH0.out
    unfold SzB at V0
    rw [show szI (1048576) s0 = 1048576 - (s0 : Int) from szI_yes (by omega)] at V0
    have VH0 := Lib.hid V0
    clear V0
    go_wp2_with fail
    refine (VH0.out).mono ?_
    rintro e w1 ⟨rfl, b1⟩
    have Q := XH0_0.out.later b1
    have cXH0_1_0 := Q.cells 0 _ rfl
    have cXH0_1_1 := Q.cells 1 _ rfl
    have cXH0_1_2 := Q.cells 2 _ rfl
    have cXH0_1_3 := Q.cells 3 _ rfl
    have cXH0_1_4 := Q.cells 4 _ rfl
    have cXH0_1_5 := Q.cells 5 _ rfl
    have cXH0_1_6 := Q.cells 6 _ rfl
    have cXH0_1_7 := Q.cells 7 _ rfl
    have XH0_1 := Lib.hid Q
    clear Q
    have BH1 := Lib.hid (chainX w BH0.out b1)
    clear XH0_0
    have CPx := True.intro
    go_wp2_with fail
    refine (CP0.out (by omega) _ BH1.out).mono ?_
    rintro e w2 ⟨ess0, rfl, rs0, b2⟩
    have Q := XH0_1.out.later b2
    have cXH0_2_0 := Q.cells 0 _ rfl
    have cXH0_2_1 := Q.cells 1 _ rfl
    have cXH0_2_2 := Q.cells 2 _ rfl
    have cXH0_2_3 := Q.cells 3 _ rfl
    have cXH0_2_4 := Q.cells 4 _ rfl
    have cXH0_2_5 := Q.cells 5 _ rfl
    have cXH0_2_6 := Q.cells 6 _ rfl
    have cXH0_2_7 := Q.cells 7 _ rfl
    have XH0_2 := Lib.hid Q
    clear Q
    have BH2 := Lib.hid (chainX w BH1.out b2)
    clear XH0_1 cXH0_1_0 cXH0_1_1 cXH0_1_2 cXH0_1_3 cXH0_1_4 cXH0_1_5 cXH0_1_6 cXH0_1_7
    have RRs0_2 := Lib.hid (Rdb.weak rs0 (Nat.zero_le _) id)
    obtain ⟨avs0_2, cvs0_2, avs0_3, cvs0_3, avs0_4, cvs0_4, avs0_5, cvs0_5, avs0_6, cvs0_6, avs0_7, cvs0_7, rfl, fvs0_0, fvs0_1, fvs0_2, gvs0_2, fvs0_3, gvs0_3, fvs0_4, gvs0_4, fvs0_5, gvs0_5, fvs0_6, gvs0_6, fvs0_7, gvs0_7⟩ := shape_Map rs0
    clear rs0 fvs0_2 fvs0_3 fvs0_4 fvs0_5 fvs0_6 fvs0_7
    have ANS := Lib.hid (HS.out (by omega) ([.int .i64 d0.epoch, .int .i64 d0.term, .slice avs0_2 d0.tree.devices.length cvs0_2, .slice avs0_3 d0.tree.buckets.length cvs0_3, .slice avs0_4 d0.rules.length cvs0_4, .slice avs0_5 d0.pools.length cvs0_5, .slice avs0_6 d0.up.length cvs0_6, .slice avs0_7 d0.out.length cvs0_7]) _ RRs0_2.out)
    go_wp2_with fail
    refine (ANS.out).mono ?_
    rintro e w3 ⟨rfl, b3⟩
    have Q := XH0_2.out.later b3
    have cXH0_3_0 := Q.cells 0 _ rfl
    have cXH0_3_1 := Q.cells 1 _ rfl
    have cXH0_3_2 := Q.cells 2 _ rfl
    have cXH0_3_3 := Q.cells 3 _ rfl
    have cXH0_3_4 := Q.cells 4 _ rfl
    have cXH0_3_5 := Q.cells 5 _ rfl
    have cXH0_3_6 := Q.cells 6 _ rfl
    have cXH0_3_7 := Q.cells 7 _ rfl
    have XH0_3 := Lib.hid Q
    clear Q
    have RRs0_3 := Lib.hid (Rdb.below RRs0_2.out b3)
    have BH3 := Lib.hid (chainX w BH2.out b3)
    clear XH0_2 cXH0_2_0 cXH0_2_1 cXH0_2_2 cXH0_2_3 cXH0_2_4 cXH0_2_5 cXH0_2_6 cXH0_2_7 RRs0_2
    clear ANS
    go_wp2_with fail
    refine (CP0.out (by omega) _ BH3.out).mono ?_
    rintro e w4 ⟨esi0, rfl, ri0, b4⟩
    have Q := XH0_3.out.later b4
    have cXH0_4_0 := Q.cells 0 _ rfl
    have cXH0_4_1 := Q.cells 1 _ rfl
    have cXH0_4_2 := Q.cells 2 _ rfl
    have cXH0_4_3 := Q.cells 3 _ rfl
    have cXH0_4_4 := Q.cells 4 _ rfl
    have cXH0_4_5 := Q.cells 5 _ rfl
    have cXH0_4_6 := Q.cells 6 _ rfl
    have cXH0_4_7 := Q.cells 7 _ rfl
    have XH0_4 := Lib.hid Q
    clear Q
    have BH4 := Lib.hid (chainX w BH3.out b4)
    clear XH0_3 cXH0_3_0 cXH0_3_1 cXH0_3_2 cXH0_3_3 cXH0_3_4 cXH0_3_5 cXH0_3_6 cXH0_3_7
    have RRi0_4 := Lib.hid (Rdb.weak ri0 (Nat.zero_le _) id)
    obtain ⟨avi0_2, cvi0_2, avi0_3, cvi0_3, avi0_4, cvi0_4, avi0_5, cvi0_5, avi0_6, cvi0_6, avi0_7, cvi0_7, rfl, fvi0_0, fvi0_1, fvi0_2, gvi0_2, fvi0_3, gvi0_3, fvi0_4, gvi0_4, fvi0_5, gvi0_5, fvi0_6, gvi0_6, fvi0_7, gvi0_7⟩ := shape_Map ri0
    clear ri0 fvi0_2 fvi0_3 fvi0_4 fvi0_5 fvi0_6 fvi0_7
    have LY := lay w4 (.cells #[.int .i64 d0.epoch, .int .i64 d0.term, .slice avi0_2 d0.tree.devices.length cvi0_2, .slice avi0_3 d0.tree.buckets.length cvi0_3, .slice avi0_4 d0.rules.length cvi0_4, .slice avi0_5 d0.pools.length cvi0_5, .slice avi0_6 d0.up.length cvi0_6, .slice avi0_7 d0.out.length cvi0_7] 46)
    have YN := BxN.new w4 #[.int .i64 d0.epoch, .int .i64 d0.term, .slice avi0_2 d0.tree.devices.length cvi0_2, .slice avi0_3 d0.tree.buckets.length cvi0_3, .slice avi0_4 d0.rules.length cvi0_4, .slice avi0_5 d0.pools.length cvi0_5, .slice avi0_6 d0.up.length cvi0_6, .slice avi0_7 d0.out.length cvi0_7] 46
    have Q := XH0_4.out.later LY
    have cXH0_5_0 := Q.cells 0 _ rfl
    have cXH0_5_1 := Q.cells 1 _ rfl
    have cXH0_5_2 := Q.cells 2 _ rfl
    have cXH0_5_3 := Q.cells 3 _ rfl
    have cXH0_5_4 := Q.cells 4 _ rfl
    have cXH0_5_5 := Q.cells 5 _ rfl
    have cXH0_5_6 := Q.cells 6 _ rfl
    have cXH0_5_7 := Q.cells 7 _ rfl
    have XH0_5 := Lib.hid Q
    clear Q
    have RRi0_5 := Lib.hid (Rdb.below RRi0_4.out LY)
    have cYH0_5_0 := YN.cells 0 _ rfl
    have cYH0_5_1 := YN.cells 1 _ rfl
    have cYH0_5_2 := YN.cells 2 _ rfl
    have cYH0_5_3 := YN.cells 3 _ rfl
    have cYH0_5_4 := YN.cells 4 _ rfl
    have cYH0_5_5 := YN.cells 5 _ rfl
    have cYH0_5_6 := YN.cells 6 _ rfl
    have cYH0_5_7 := YN.cells 7 _ rfl
    have YH0_5 := Lib.hid YN
    have BH5 := Lib.hid (chainX w BH4.out LY)
    clear XH0_4 cXH0_4_0 cXH0_4_1 cXH0_4_2 cXH0_4_3 cXH0_4_4 cXH0_4_5 cXH0_4_6 cXH0_4_7 RRi0_4
    clear LY YN
    have ANS := Lib.hid (HI.out (by omega) ([.int .i64 d0.epoch, .int .i64 d0.term, .slice avi0_2 d0.tree.devices.length cvi0_2, .slice avi0_3 d0.tree.buckets.length cvi0_3, .slice avi0_4 d0.rules.length cvi0_4, .slice avi0_5 d0.pools.length cvi0_5, .slice avi0_6 d0.up.length cvi0_6, .slice avi0_7 d0.out.length cvi0_7]) _ RRi0_5.out)
    go_wp2_with fail
    refine (ANS.out).mono ?_
    rintro e w6 ⟨rfl, b6⟩
    have Q := XH0_5.out.later b6
    have cXH0_6_0 := Q.cells 0 _ rfl
    have cXH0_6_1 := Q.cells 1 _ rfl
    have cXH0_6_2 := Q.cells 2 _ rfl
    have cXH0_6_3 := Q.cells 3 _ rfl
    have cXH0_6_4 := Q.cells 4 _ rfl
    have cXH0_6_5 := Q.cells 5 _ rfl
    have cXH0_6_6 := Q.cells 6 _ rfl
    have cXH0_6_7 := Q.cells 7 _ rfl
    have XH0_6 := Lib.hid Q
    clear Q
    have Q := YH0_5.out.later b6
    have cYH0_6_0 := Q.cells 0 _ rfl
    have cYH0_6_1 := Q.cells 1 _ rfl
    have cYH0_6_2 := Q.cells 2 _ rfl
    have cYH0_6_3 := Q.cells 3 _ rfl
    have cYH0_6_4 := Q.cells 4 _ rfl
    have cYH0_6_5 := Q.cells 5 _ rfl
    have cYH0_6_6 := Q.cells 6 _ rfl
    have cYH0_6_7 := Q.cells 7 _ rfl
    have YH0_6 := Lib.hid Q
    clear Q
    have RRi0_6 := Lib.hid (Rdb.below RRi0_5.out b6)
    have BH6 := Lib.hid (chainX w BH5.out b6)
    clear XH0_5 YH0_5 cXH0_5_0 cXH0_5_1 cXH0_5_2 cXH0_5_3 cXH0_5_4 cXH0_5_5 cXH0_5_6 cXH0_5_7 cYH0_5_0 cYH0_5_1 cYH0_5_2 cYH0_5_3 cYH0_5_4 cYH0_5_5 cYH0_5_6 cYH0_5_7 RRi0_5
    clear ANS
    go_wp2_with fail
    go_region_held3 (fun w' => w'.cell? ⟨w.heap.size, 0, none⟩ = some (.int .i64 d0.epoch) ∧ w'.cell? ⟨w.heap.size, 1, none⟩ = some (.int .i64 d0.term) ∧ w'.cell? ⟨w.heap.size, 2, none⟩ = some (.slice a0_2 d0.tree.devices.length c0_2) ∧ w'.cell? ⟨w.heap.size, 3, none⟩ = some (.slice a0_3 d0.tree.buckets.length c0_3) ∧ w'.cell? ⟨w.heap.size, 4, none⟩ = some (.slice a0_4 d0.rules.length c0_4) ∧ w'.cell? ⟨w.heap.size, 5, none⟩ = some (.slice a0_5 d0.pools.length c0_5) ∧ w'.cell? ⟨w.heap.size, 6, none⟩ = some (.slice a0_6 d0.up.length c0_6) ∧ w'.cell? ⟨w.heap.size, 7, none⟩ = some (.slice a0_7 d0.out.length c0_7) ∧ w'.cell? ⟨w4.heap.size, 0, none⟩ = some (.int .i64 d0.epoch) ∧ w'.cell? ⟨w4.heap.size, 1, none⟩ = some (.int .i64 d0.term) ∧ w'.cell? ⟨w4.heap.size, 2, none⟩ = some (.slice avi0_2 d0.tree.devices.length cvi0_2) ∧ w'.cell? ⟨w4.heap.size, 3, none⟩ = some (.slice avi0_3 d0.tree.buckets.length cvi0_3) ∧ w'.cell? ⟨w4.heap.size, 4, none⟩ = some (.slice avi0_4 d0.rules.length cvi0_4) ∧ w'.cell? ⟨w4.heap.size, 5, none⟩ = some (.slice avi0_5 d0.pools.length cvi0_5) ∧ w'.cell? ⟨w4.heap.size, 6, none⟩ = some (.slice avi0_6 d0.up.length cvi0_6) ∧ w'.cell? ⟨w4.heap.size, 7, none⟩ = some (.slice avi0_7 d0.out.length cvi0_7)) (go_keep)
      (first
        | (go_at_call 16; refine (CP0.out (by omega) _ BH6.out.drew).mono ?_; rintro e w7 ⟨ese0, rfl, re0, b7⟩; have b7 := undrewX b7; have Q := XH0_6.out.later b7; have cXH0_7_0 := Q.cells 0 _ rfl; have cXH0_7_1 := Q.cells 1 _ rfl; have cXH0_7_2 := Q.cells 2 _ rfl; have cXH0_7_3 := Q.cells 3 _ rfl; have cXH0_7_4 := Q.cells 4 _ rfl; have cXH0_7_5 := Q.cells 5 _ rfl; have cXH0_7_6 := Q.cells 6 _ rfl; have cXH0_7_7 := Q.cells 7 _ rfl; have XH0_7 := Lib.hid Q; clear Q; have Q := YH0_6.out.later b7; have cYH0_7_0 := Q.cells 0 _ rfl; have cYH0_7_1 := Q.cells 1 _ rfl; have cYH0_7_2 := Q.cells 2 _ rfl; have cYH0_7_3 := Q.cells 3 _ rfl; have cYH0_7_4 := Q.cells 4 _ rfl; have cYH0_7_5 := Q.cells 5 _ rfl; have cYH0_7_6 := Q.cells 6 _ rfl; have cYH0_7_7 := Q.cells 7 _ rfl; have YH0_7 := Lib.hid Q; clear Q; have RRi0_7 := Lib.hid (Rdb.below RRi0_6.out b7); have BH7 := Lib.hid (chainX w BH6.out b7); clear b7; have RRe0_7 := Lib.hid (Rdb.weak re0 (Nat.zero_le _) id); obtain ⟨ave0_2, cve0_2, ave0_3, cve0_3, ave0_4, cve0_4, ave0_5, cve0_5, ave0_6, cve0_6, ave0_7, cve0_7, rfl, fve0_0, fve0_1, fve0_2, gve0_2, fve0_3, gve0_3, fve0_4, gve0_4, fve0_5, gve0_5, fve0_6, gve0_6, fve0_7, gve0_7⟩ := shape_Map re0; clear re0 fve0_2 fve0_3 fve0_4 fve0_5 fve0_6 fve0_7)
        | (go_at_call 18; refine (EQ0.out (by omega) ([.int .i64 d0.epoch, .int .i64 d0.term, .slice avi0_2 d0.tree.devices.length cvi0_2, .slice avi0_3 d0.tree.buckets.length cvi0_3, .slice avi0_4 d0.rules.length cvi0_4, .slice avi0_5 d0.pools.length cvi0_5, .slice avi0_6 d0.up.length cvi0_6, .slice avi0_7 d0.out.length cvi0_7]) ([.int .i64 d0.epoch, .int .i64 d0.term, .slice ave0_2 d0.tree.devices.length cve0_2, .slice ave0_3 d0.tree.buckets.length cve0_3, .slice ave0_4 d0.rules.length cve0_4, .slice ave0_5 d0.pools.length cve0_5, .slice ave0_6 d0.up.length cve0_6, .slice ave0_7 d0.out.length cve0_7]) _ RRi0_7.out RRe0_7.out).mono ?_; rintro e w8 ⟨rfl, b8⟩; have Q := XH0_7.out.later b8; have cXH0_8_0 := Q.cells 0 _ rfl; have cXH0_8_1 := Q.cells 1 _ rfl; have cXH0_8_2 := Q.cells 2 _ rfl; have cXH0_8_3 := Q.cells 3 _ rfl; have cXH0_8_4 := Q.cells 4 _ rfl; have cXH0_8_5 := Q.cells 5 _ rfl; have cXH0_8_6 := Q.cells 6 _ rfl; have cXH0_8_7 := Q.cells 7 _ rfl; have XH0_8 := Lib.hid Q; clear Q; have Q := YH0_7.out.later b8; have cYH0_8_0 := Q.cells 0 _ rfl; have cYH0_8_1 := Q.cells 1 _ rfl; have cYH0_8_2 := Q.cells 2 _ rfl; have cYH0_8_3 := Q.cells 3 _ rfl; have cYH0_8_4 := Q.cells 4 _ rfl; have cYH0_8_5 := Q.cells 5 _ rfl; have cYH0_8_6 := Q.cells 6 _ rfl; have cYH0_8_7 := Q.cells 7 _ rfl; have YH0_8 := Lib.hid Q; clear Q; have RRi0_8 := Lib.hid (Rdb.below RRi0_7.out b8); have RRe0_8 := Lib.hid (Rdb.below RRe0_7.out b8); have BH8 := Lib.hid (chainX w BH7.out b8); clear b8))
    all_goals
      go_wp2
      go_ret
      exact ⟨rfl, BH8.out⟩
  · skip
    go_enter Try.func5, Try.ntmps5
    have V0 := SZ0.out (1048576) (by omega) (by omega) _ BH0.out
    unfold SzB at V0
    rw [show szI (1048576) s0 = -1 from szI_no (by omega)] at V0
    have VH0 := Lib.hid V0
    clear V0
    go_wp2_with fail
    refine (VH0.out).mono ?_
    rintro e w1 ⟨rfl, b1⟩
    have Q := XH0_0.out.later b1
    have cXH0_1_0 := Q.cells 0 _ rfl
    have cXH0_1_1 := Q.cells 1 _ rfl
    have cXH0_1_2 := Q.cells 2 _ rfl
    have cXH0_1_3 := Q.cells 3 _ rfl
    have cXH0_1_4 := Q.cells 4 _ rfl
    have cXH0_1_5 := Q.cells 5 _ rfl
    have cXH0_1_6 := Q.cells 6 _ rfl
    have cXH0_1_7 := Q.cells 7 _ rfl
    have XH0_1 := Lib.hid Q
    clear Q
    have BH1 := Lib.hid (chainX w BH0.out b1)
    clear XH0_0
    go_wp2
    go_ret
    exact ⟨rfl, BH1.out⟩
set_option maxRecDepth 100000 in
set_option maxHeartbeats 1000000 in
theorem specMapOk {cs : List Value} {fr : Bool} {lo : Nat} (d : DMap) (w : World) (hs : Rdb.sz d ≤ 2097152) (h : Rdb.rd fr lo w cs d) :
    Calls Try.prog 19 #[.agg cs.toArray] w (IffB (MOk d) w) := by
  have RD := Lib.hid h
  obtain ⟨a0_2, c0_2, a0_3, c0_3, a0_4, c0_4, a0_5, c0_5, a0_6, c0_6, a0_7, c0_7, rfl, f0_0, f0_1, f0_2, g0_2, f0_3, g0_3, f0_4, g0_4, f0_5, g0_5, f0_6, g0_6, f0_7, g0_7⟩ := shape_Map h
  have L := Lib.hid (lay w (.cells #[.int .i64 d.epoch, .int .i64 d.term, .slice a0_2 d.tree.devices.length c0_2, .slice a0_3 d.tree.buckets.length c0_3, .slice a0_4 d.rules.length c0_4, .slice a0_5 d.pools.length c0_5, .slice a0_6 d.up.length c0_6, .slice a0_7 d.out.length c0_7] 46))
  have C := Lib.hid (l11Ok d _ hs (Rdb.below RD.out L.out))
  clear h RD f0_2 f0_3 f0_4 f0_5 f0_6 f0_7
  go_enter Try.func19, Try.ntmps19
  go_wp2_with fail
  refine C.out.mono ?_
  rintro e w1 ⟨b, rfl, hb, b1⟩
  have H := Lib.hid hb
  have B := Lib.hid (chainX w L.out b1)
  clear hb b1
  go_wp2
  go_ret
  exact ⟨b, rfl, H.out, B.out⟩
theorem exW (P : Prop) : ∃ b : Bool, b = true ↔ P := by
  classical
  exact ⟨decide P, by simp⟩
theorem lawMapOk (cs : List Value) (d : DMap) (w : World) (h : Rdb.rd false 0 w cs d) :
    Calls Try.prog 5 #[.agg cs.toArray] w fun e w' => e = .returned (.bool true) ∧ Below w.heap.size w w' := by
  obtain ⟨b, hb⟩ := exW (MOk d)
  exact fnFnExactMapOk d b w h (fun z es w' k => (specMapOk d w' (by omega) k).mono fun _ _ q => iff_ret hb q) (fun z es w' k => (implMapOk d w' (by omega) k).mono fun _ _ q => iff_ret hb q)
end Go.Proofs.Yteogbfmghbaelaa.Rd
