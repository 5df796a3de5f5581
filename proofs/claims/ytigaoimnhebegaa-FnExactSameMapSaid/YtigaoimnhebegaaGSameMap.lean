/-
  The exact law of FnExactSameMap, given the model's answer and the program's (written by tools/gen/lawgen.py).
-/
import Derived.Test.YtigaoimnhebegaaDMap
import Derived.Deep.RegionHeld3
namespace Go.Proofs.Ytigaoimnhebegaa.Rd
open Go.RowKit Go.ChangeShapes Go.WideShapes
open Go.Proofs.Ytigaoimnhebegaa.Sg (BxN)
set_option linter.unusedVariables false
set_option linter.unusedSimpArgs false

set_option maxRecDepth 100000 in
set_option maxHeartbeats 4000000 in
theorem fnFnExactSameMap {cs0 : List Value} (d0 : DMap) {cs1 : List Value} (d1 : DMap) (b : Bool) (w : World) (h0 : Rdb.rd false 0 w cs0 d0) (h1 : Rdb.rd false 0 w cs1 d1) (hS : Rdb.sz d0 ≤ 1048576 → Rdb.sz d1 ≤ 1048576 → ∀ (es0 : List Value) (es1 : List Value) w' (k0 : Rdb.rd true 0 w' es0 d0) (k1 : Rdb.rd true 0 w' es1 d1), Calls Try.prog 25 #[.agg es0.toArray, .agg es1.toArray] w' (RetW (.bool b) w')) (hI : Rdb.sz d0 ≤ 1048576 → Rdb.sz d1 ≤ 1048576 → ∀ (es0 : List Value) (es1 : List Value) w' (k0 : Rdb.rd true 0 w' es0 d0) (k1 : Rdb.rd true 0 w' es1 d1), Calls Try.prog 27 #[.agg es0.toArray, .agg es1.toArray] w' (RetW (.bool b) w')) :
    Calls Try.prog 6 #[.agg cs0.toArray, .agg cs1.toArray] w (RetW (.bool true) w) := by
  obtain ⟨a0_2, c0_2, a0_3, c0_3, a0_4, c0_4, a0_5, c0_5, a0_6, c0_6, a0_7, c0_7, rfl, f0_0, f0_1, f0_2, g0_2, f0_3, g0_3, f0_4, g0_4, f0_5, g0_5, f0_6, g0_6, f0_7, g0_7⟩ := shape_Map h0
  obtain ⟨a1_2, c1_2, a1_3, c1_3, a1_4, c1_4, a1_5, c1_5, a1_6, c1_6, a1_7, c1_7, rfl, f1_0, f1_1, f1_2, g1_2, f1_3, g1_3, f1_4, g1_4, f1_5, g1_5, f1_6, g1_6, f1_7, g1_7⟩ := shape_Map h1
  have BH0 := Lib.hid (chainX w (lay w (.cells #[.int .i64 d0.epoch, .int .i64 d0.term, .slice a0_2 d0.tree.devices.length c0_2, .slice a0_3 d0.tree.buckets.length c0_3, .slice a0_4 d0.rules.length c0_4, .slice a0_5 d0.pools.length c0_5, .slice a0_6 d0.up.length c0_6, .slice a0_7 d0.out.length c0_7] 49)) (lay _ (.cells #[.int .i64 d1.epoch, .int .i64 d1.term, .slice a1_2 d1.tree.devices.length c1_2, .slice a1_3 d1.tree.buckets.length c1_3, .slice a1_4 d1.rules.length c1_4, .slice a1_5 d1.pools.length c1_5, .slice a1_6 d1.up.length c1_6, .slice a1_7 d1.out.length c1_7] 49)))
  have Q0 := (BxN.new w #[.int .i64 d0.epoch, .int .i64 d0.term, .slice a0_2 d0.tree.devices.length c0_2, .slice a0_3 d0.tree.buckets.length c0_3, .slice a0_4 d0.rules.length c0_4, .slice a0_5 d0.pools.length c0_5, .slice a0_6 d0.up.length c0_6, .slice a0_7 d0.out.length c0_7] 49).later (lay _ (.cells #[.int .i64 d1.epoch, .int .i64 d1.term, .slice a1_2 d1.tree.devices.length c1_2, .slice a1_3 d1.tree.buckets.length c1_3, .slice a1_4 d1.rules.length c1_4, .slice a1_5 d1.pools.length c1_5, .slice a1_6 d1.up.length c1_6, .slice a1_7 d1.out.length c1_7] 49))
  have XH0_0 := Lib.hid Q0
  clear Q0
  have Q1 := BxN.new (w.alloc (.cells #[.int .i64 d0.epoch, .int .i64 d0.term, .slice a0_2 d0.tree.devices.length c0_2, .slice a0_3 d0.tree.buckets.length c0_3, .slice a0_4 d0.rules.length c0_4, .slice a0_5 d0.pools.length c0_5, .slice a0_6 d0.up.length c0_6, .slice a0_7 d0.out.length c0_7] 49)) #[.int .i64 d1.epoch, .int .i64 d1.term, .slice a1_2 d1.tree.devices.length c1_2, .slice a1_3 d1.tree.buckets.length c1_3, .slice a1_4 d1.rules.length c1_4, .slice a1_5 d1.pools.length c1_5, .slice a1_6 d1.up.length c1_6, .slice a1_7 d1.out.length c1_7] 49
  simp only [World.size_alloc] at Q1
  have XH1_0 := Lib.hid Q1
  clear Q1
  have SZ0 := Lib.hid (fun (lf : Int) (p0 : 0 ≤ lf) (p1 : lf ≤ 2097152) w' (b : Below w.heap.size w w') => szMap d0 lf p0 p1 w' (mk_Map (d := d0) (a2 := a0_2) (c2 := c0_2) (a3 := a0_3) (c3 := c0_3) (a4 := a0_4) (c4 := c0_4) (a5 := a0_5) (c5 := c0_5) (a6 := a0_6) (c6 := c0_6) (a7 := a0_7) (c7 := c0_7) f0_0 f0_1 (f0_2.below b) g0_2 (f0_3.below b) g0_3 (f0_4.below b) g0_4 (f0_5.below b) g0_5 (f0_6.below b) g0_6 (f0_7.below b) g0_7))
  have CP0 := Lib.hid (fun (z : Rdb.sz d0 ≤ 2097152) w' (b : Below w.heap.size w w') => toMap d0 w' z (mk_Map (d := d0) (a2 := a0_2) (c2 := c0_2) (a3 := a0_3) (c3 := c0_3) (a4 := a0_4) (c4 := c0_4) (a5 := a0_5) (c5 := c0_5) (a6 := a0_6) (c6 := c0_6) (a7 := a0_7) (c7 := c0_7) f0_0 f0_1 (f0_2.below b) g0_2 (f0_3.below b) g0_3 (f0_4.below b) g0_4 (f0_5.below b) g0_5 (f0_6.below b) g0_6 (f0_7.below b) g0_7))
  have EQ0 := Lib.hid (fun (z : Rdb.sz d0 ≤ 2097152) (cs ds : List Value) w' (k1 : Rdb.rd true 0 w' cs d0) (k2 : Rdb.rd true 0 w' ds d0) => eqMap d0 w' z k1 k2)
  have SZ1 := Lib.hid (fun (lf : Int) (p0 : 0 ≤ lf) (p1 : lf ≤ 2097152) w' (b : Below w.heap.size w w') => szMap d1 lf p0 p1 w' (mk_Map (d := d1) (a2 := a1_2) (c2 := c1_2) (a3 := a1_3) (c3 := c1_3) (a4 := a1_4) (c4 := c1_4) (a5 := a1_5) (c5 := c1_5) (a6 := a1_6) (c6 := c1_6) (a7 := a1_7) (c7 := c1_7) f1_0 f1_1 (f1_2.below b) g1_2 (f1_3.below b) g1_3 (f1_4.below b) g1_4 (f1_5.below b) g1_5 (f1_6.below b) g1_6 (f1_7.below b) g1_7))
  have CP1 := Lib.hid (fun (z : Rdb.sz d1 ≤ 2097152) w' (b : Below w.heap.size w w') => toMap d1 w' z (mk_Map (d := d1) (a2 := a1_2) (c2 := c1_2) (a3 := a1_3) (c3 := c1_3) (a4 := a1_4) (c4 := c1_4) (a5 := a1_5) (c5 := c1_5) (a6 := a1_6) (c6 := c1_6) (a7 := a1_7) (c7 := c1_7) f1_0 f1_1 (f1_2.below b) g1_2 (f1_3.below b) g1_3 (f1_4.below b) g1_4 (f1_5.below b) g1_5 (f1_6.below b) g1_6 (f1_7.below b) g1_7))
  have EQ1 := Lib.hid (fun (z : Rdb.sz d1 ≤ 2097152) (cs ds : List Value) w' (k1 : Rdb.rd true 0 w' cs d1) (k2 : Rdb.rd true 0 w' ds d1) => eqMap d1 w' z k1 k2)
  have HS := Lib.hid hS
  have HI := Lib.hid hI
  clear hS hI
  clear f0_2 f0_3 f0_4 f0_5 f0_6 f0_7 f1_2 f1_3 f1_4 f1_5 f1_6 f1_7
  generalize hs0 : Rdb.sz d0 = s0 at *
  clear hs0
  generalize hs1 : Rdb.sz d1 = s1 at *
  clear hs1
  by_cases q0 : (s0 : Int) ≤ 1048576
  · skip
    by_cases q1 : (s0 : Int) + (s1 : Int) ≤ 1048576
    · skip
      go_enter Try.func6, Try.ntmps6
      have V0 := SZ0.out (1048576) (by omega) (by omega) _ BH0.out
      unfold SzB at V0
      rw [show szI (1048576) s0 = 1048576 - (s0 : Int) from szI_yes (by omega)] at V0
      have VH0 := Lib.hid V0
      clear V0
      go_wp2_with fail
      refine (VH0.out).mono ?_
      rintro e w1 ⟨rfl, b1⟩
      have Q := XH0_0.out.later b1
      have cXH0_1_0 := Q.cells 0 _ rfl
      have cXH0_1_1 := Q.cells 1 _ rfl
      have cXH0_1_2 := Q.cells 2 _ rfl
      have cXH0_1_3 := Q.cells 3 _ rfl
      have cXH0_1_4 := Q.cells 4 _ rfl
      have cXH0_1_5 := Q.cells 5 _ rfl
      have cXH0_1_6 := Q.cells 6 _ rfl
      have cXH0_1_7 := Q.cells 7 _ rfl
      have XH0_1 := Lib.hid Q
      clear Q
      have Q := XH1_0.out.later b1
      have cXH1_1_0 := Q.cells 0 _ rfl
      have cXH1_1_1 := Q.cells 1 _ rfl
      have cXH1_1_2 := Q.cells 2 _ rfl
      have cXH1_1_3 := Q.cells 3 _ rfl
      have cXH1_1_4 := Q.cells 4 _ rfl
      have cXH1_1_5 := Q.cells 5 _ rfl
      have cXH1_1_6 := Q.cells 6 _ rfl
      have cXH1_1_7 := Q.cells 7 _ rfl
      have XH1_1 := Lib.hid Q
      clear Q
      have BH1 := Lib.hid (chainX w BH0.out b1)
      clear XH0_0 XH1_0
      have V1 := SZ1.out (1048576 - (s0 : Int)) (by omega) (by omega) _ BH1.out
      unfold SzB at V1
      rw [show szI (1048576 - (s0 : Int)) s1 = 1048576 - (s0 : Int) - (s1 : Int) from szI_yes (by omega)] at V1
      have VH1 := Lib.hid V1
      clear V1
      go_wp2_with fail
      refine (VH1.out).mono ?_
      rintro e w2 ⟨rfl, b2⟩
      have Q := XH0_1.out.later b2
      have cXH0_2_0 := Q.cells 0 _ rfl
      have cXH0_2_1 := Q.cells 1 _ rfl
      have cXH0_2_2 := Q.cells 2 _ rfl
      have cXH0_2_3 := Q.cells 3 _ rfl
      have cXH0_2_4 := Q.cells 4 _ rfl
      have cXH0_2_5 := Q.cells 5 _ rfl
      have cXH0_2_6 := Q.cells 6 _ rfl
      have cXH0_2_7 := Q.cells 7 _ rfl
      have XH0_2 := Lib.hid Q
      clear Q
      have Q := XH1_1.out.later b2
      have cXH1_2_0 := Q.cells 0 _ rfl
      have cXH1_2_1 := Q.cells 1 _ rfl
      have cXH1_2_2 := Q.cells 2 _ rfl
      have cXH1_2_3 := Q.cells 3 _ rfl
      have cXH1_2_4 := Q.cells 4 _ rfl
      have cXH1_2_5 := Q.cells 5 _ rfl
      have cXH1_2_6 := Q.cells 6 _ rfl
      have cXH1_2_7 := Q.cells 7 _ rfl
      have XH1_2 := Lib.hid Q
      clear Q
      have BH2 := Lib.hid (chainX w BH1.out b2)
      clear XH0_1 XH1_1 cXH0_1_0 cXH0_1_1 cXH0_1_2 cXH0_1_3 cXH0_1_4 cXH0_1_5 cXH0_1_6 cXH0_1_7 cXH1_1_0 cXH1_1_1 cXH1_1_2 cXH1_1_3 cXH1_1_4 cXH1_1_5 cXH1_1_6 cXH1_1_7
      have CPx := True.intro
      have MK0 := Lib.hid (Nat.le_refl 0)
      have MK1 := Lib.hid (Nat.le_refl 1)
      go_wp2_with fail
      go_region_held3 (fun w' => w'.cell? ⟨w.heap.size, 0, none⟩ = some (.int .i64 d0.epoch) ∧ w'.cell? ⟨w.heap.size, 1, none⟩ = some (.int .i64 d0.term) ∧ w'.cell? ⟨w.heap.size, 2, none⟩ = some (.slice a0_2 d0.tree.devices.length c0_2) ∧ w'.cell? ⟨w.heap.size, 3, none⟩ = some (.slice a0_3 d0.tree.buckets.length c0_3) ∧ w'.cell? ⟨w.heap.size, 4, none⟩ = some (.slice a0_4 d0.rules.length c0_4) ∧ w'.cell? ⟨w.heap.size, 5, none⟩ = some (.slice a0_5 d0.pools.length c0_5) ∧ w'.cell? ⟨w.heap.size, 6, none⟩ = some (.slice a0_6 d0.up.length c0_6) ∧ w'.cell? ⟨w.heap.size, 7, none⟩ = some (.slice a0_7 d0.out.length c0_7) ∧ w'.cell? ⟨w.heap.size + 1, 0, none⟩ = some (.int .i64 d1.epoch) ∧ w'.cell? ⟨w.heap.size + 1, 1, none⟩ = some (.int .i64 d1.term) ∧ w'.cell? ⟨w.heap.size + 1, 2, none⟩ = some (.slice a1_2 d1.tree.devices.length c1_2) ∧ w'.cell? ⟨w.heap.size + 1, 3, none⟩ = some (.slice a1_3 d1.tree.buckets.length c1_3) ∧ w'.cell? ⟨w.heap.size + 1, 4, none⟩ = some (.slice a1_4 d1.rules.length c1_4) ∧ w'.cell? ⟨w.heap.size + 1, 5, none⟩ = some (.slice a1_5 d1.pools.length c1_5) ∧ w'.cell? ⟨w.heap.size + 1, 6, none⟩ = some (.slice a1_6 d1.up.length c1_6) ∧ w'.cell? ⟨w.heap.size + 1, 7, none⟩ = some (.slice a1_7 d1.out.length c1_7)) (go_keep)
        (first
          | (clear MK0; go_at_call 26; refine (CP0.out (by omega) _ BH2.out.drew).mono ?_; rintro e w3 ⟨ess0, rfl, rs0, b3⟩; have b3 := undrewX b3; have Q := XH0_2.out.later b3; have cXH0_3_0 := Q.cells 0 _ rfl; have cXH0_3_1 := Q.cells 1 _ rfl; have cXH0_3_2 := Q.cells 2 _ rfl; have cXH0_3_3 := Q.cells 3 _ rfl; have cXH0_3_4 := Q.cells 4 _ rfl; have cXH0_3_5 := Q.cells 5 _ rfl; have cXH0_3_6 := Q.cells 6 _ rfl; have cXH0_3_7 := Q.cells 7 _ rfl; have XH0_3 := Lib.hid Q; clear Q; have Q := XH1_2.out.later b3; have cXH1_3_0 := Q.cells 0 _ rfl; have cXH1_3_1 := Q.cells 1 _ rfl; have cXH1_3_2 := Q.cells 2 _ rfl; have cXH1_3_3 := Q.cells 3 _ rfl; have cXH1_3_4 := Q.cells 4 _ rfl; have cXH1_3_5 := Q.cells 5 _ rfl; have cXH1_3_6 := Q.cells 6 _ rfl; have cXH1_3_7 := Q.cells 7 _ rfl; have XH1_3 := Lib.hid Q; clear Q; have BH3 := Lib.hid (chainX w BH2.out b3); clear b3; have RRs0_3 := Lib.hid (Rdb.weak rs0 (Nat.zero_le _) id); obtain ⟨avs0_2, cvs0_2, avs0_3, cvs0_3, avs0_4, cvs0_4, avs0_5, cvs0_5, avs0_6, cvs0_6, avs0_7, cvs0_7, rfl, fvs0_0, fvs0_1, fvs0_2, gvs0_2, fvs0_3, gvs0_3, fvs0_4, gvs0_4, fvs0_5, gvs0_5, fvs0_6, gvs0_6, fvs0_7, gvs0_7⟩ := shape_Map rs0; clear rs0 fvs0_2 fvs0_3 fvs0_4 fvs0_5 fvs0_6 fvs0_7)
          | (clear MK1; go_at_call 26; refine (CP1.out (by omega) _ BH3.out).mono ?_; rintro e w4 ⟨ess1, rfl, rs1, b4⟩; have Q := XH0_3.out.later b4; have cXH0_4_0 := Q.cells 0 _ rfl; have cXH0_4_1 := Q.cells 1 _ rfl; have cXH0_4_2 := Q.cells 2 _ rfl; have cXH0_4_3 := Q.cells 3 _ rfl; have cXH0_4_4 := Q.cells 4 _ rfl; have cXH0_4_5 := Q.cells 5 _ rfl; have cXH0_4_6 := Q.cells 6 _ rfl; have cXH0_4_7 := Q.cells 7 _ rfl; have XH0_4 := Lib.hid Q; clear Q; have Q := XH1_3.out.later b4; have cXH1_4_0 := Q.cells 0 _ rfl; have cXH1_4_1 := Q.cells 1 _ rfl; have cXH1_4_2 := Q.cells 2 _ rfl; have cXH1_4_3 := Q.cells 3 _ rfl; have cXH1_4_4 := Q.cells 4 _ rfl; have cXH1_4_5 := Q.cells 5 _ rfl; have cXH1_4_6 := Q.cells 6 _ rfl; have cXH1_4_7 := Q.cells 7 _ rfl; have XH1_4 := Lib.hid Q; clear Q; have RRs0_4 := Lib.hid (Rdb.below RRs0_3.out b4); have BH4 := Lib.hid (chainX w BH3.out b4); clear b4; have RRs1_4 := Lib.hid (Rdb.weak rs1 (Nat.zero_le _) id); obtain ⟨avs1_2, cvs1_2, avs1_3, cvs1_3, avs1_4, cvs1_4, avs1_5, cvs1_5, avs1_6, cvs1_6, avs1_7, cvs1_7, rfl, fvs1_0, fvs1_1, fvs1_2, gvs1_2, fvs1_3, gvs1_3, fvs1_4, gvs1_4, fvs1_5, gvs1_5, fvs1_6, gvs1_6, fvs1_7, gvs1_7⟩ := shape_Map rs1; clear rs1 fvs1_2 fvs1_3 fvs1_4 fvs1_5 fvs1_6 fvs1_7)
          | (go_at_call 25; refine (HS.out (by omega) (by omega) ([.int .i64 d0.epoch, .int .i64 d0.term, .slice avs0_2 d0.tree.devices.length cvs0_2, .slice avs0_3 d0.tree.buckets.length cvs0_3, .slice avs0_4 d0.rules.length cvs0_4, .slice avs0_5 d0.pools.length cvs0_5, .slice avs0_6 d0.up.length cvs0_6, .slice avs0_7 d0.out.length cvs0_7]) ([.int .i64 d1.epoch, .int .i64 d1.term, .slice avs1_2 d1.tree.devices.length cvs1_2, .slice avs1_3 d1.tree.buckets.length cvs1_3, .slice avs1_4 d1.rules.length cvs1_4, .slice avs1_5 d1.pools.length cvs1_5, .slice avs1_6 d1.up.length cvs1_6, .slice avs1_7 d1.out.length cvs1_7]) _ RRs0_4.out RRs1_4.out).mono ?_; rintro e w5 ⟨rfl, b5⟩; have Q := XH0_4.out.later b5; have cXH0_5_0 := Q.cells 0 _ rfl; have cXH0_5_1 := Q.cells 1 _ rfl; have cXH0_5_2 := Q.cells 2 _ rfl; have cXH0_5_3 := Q.cells 3 _ rfl; have cXH0_5_4 := Q.cells 4 _ rfl; have cXH0_5_5 := Q.cells 5 _ rfl; have cXH0_5_6 := Q.cells 6 _ rfl; have cXH0_5_7 := Q.cells 7 _ rfl; have XH0_5 := Lib.hid Q; clear Q; have Q := XH1_4.out.later b5; have cXH1_5_0 := Q.cells 0 _ rfl; have cXH1_5_1 := Q.cells 1 _ rfl; have cXH1_5_2 := Q.cells 2 _ rfl; have cXH1_5_3 := Q.cells 3 _ rfl; have cXH1_5_4 := Q.cells 4 _ rfl; have cXH1_5_5 := Q.cells 5 _ rfl; have cXH1_5_6 := Q.cells 6 _ rfl; have cXH1_5_7 := Q.cells 7 _ rfl; have XH1_5 := Lib.hid Q; clear Q; have RRs0_5 := Lib.hid (Rdb.below RRs0_4.out b5); have RRs1_5 := Lib.hid (Rdb.below RRs1_4.out b5); have BH5 := Lib.hid (chainX w BH4.out b5); clear b5))
      go_wp2_with fail
      refine (CP0.out (by omega) _ BH5.out).mono ?_
      rintro e w6 ⟨esi0, rfl, ri0, b6⟩
      have Q := XH0_5.out.later b6
      have cXH0_6_0 := Q.cells 0 _ rfl
      have cXH0_6_1 := Q.cells 1 _ rfl
      have cXH0_6_2 := Q.cells 2 _ rfl
      have cXH0_6_3 := Q.cells 3 _ rfl
      have cXH0_6_4 := Q.cells 4 _ rfl
      have cXH0_6_5 := Q.cells 5 _ rfl
      have cXH0_6_6 := Q.cells 6 _ rfl
      have cXH0_6_7 := Q.cells 7 _ rfl
      have XH0_6 := Lib.hid Q
      clear Q
      have Q := XH1_5.out.later b6
      have cXH1_6_0 := Q.cells 0 _ rfl
      have cXH1_6_1 := Q.cells 1 _ rfl
      have cXH1_6_2 := Q.cells 2 _ rfl
      have cXH1_6_3 := Q.cells 3 _ rfl
      have cXH1_6_4 := Q.cells 4 _ rfl
      have cXH1_6_5 := Q.cells 5 _ rfl
      have cXH1_6_6 := Q.cells 6 _ rfl
      have cXH1_6_7 := Q.cells 7 _ rfl
      have XH1_6 := Lib.hid Q
      clear Q
      have BH6 := Lib.hid (chainX w BH5.out b6)
      clear XH0_5 XH1_5 cXH0_5_0 cXH0_5_1 cXH0_5_2 cXH0_5_3 cXH0_5_4 cXH0_5_5 cXH0_5_6 cXH0_5_7 cXH1_5_0 cXH1_5_1 cXH1_5_2 cXH1_5_3 cXH1_5_4 cXH1_5_5 cXH1_5_6 cXH1_5_7
      have RRi0_6 := Lib.hid (Rdb.weak ri0 (Nat.zero_le _) id)
      obtain ⟨avi0_2, cvi0_2, avi0_3, cvi0_3, avi0_4, cvi0_4, avi0_5, cvi0_5, avi0_6, cvi0_6, avi0_7, cvi0_7, rfl, fvi0_0, fvi0_1, fvi0_2, gvi0_2, fvi0_3, gvi0_3, fvi0_4, gvi0_4, fvi0_5, gvi0_5, fvi0_6, gvi0_6, fvi0_7, gvi0_7⟩ := shape_Map ri0
      clear ri0 fvi0_2 fvi0_3 fvi0_4 fvi0_5 fvi0_6 fvi0_7
      have LY := lay w6 (.cells #[.int .i64 d0.epoch, .int .i64 d0.term, .slice avi0_2 d0.tree.devices.length cvi0_2, .slice avi0_3 d0.tree.buckets.length cvi0_3, .slice avi0_4 d0.rules.length cvi0_4, .slice avi0_5 d0.pools.length cvi0_5, .slice avi0_6 d0.up.length cvi0_6, .slice avi0_7 d0.out.length cvi0_7] 55)
      have YN := BxN.new w6 #[.int .i64 d0.epoch, .int .i64 d0.term, .slice avi0_2 d0.tree.devices.length cvi0_2, .slice avi0_3 d0.tree.buckets.length cvi0_3, .slice avi0_4 d0.rules.length cvi0_4, .slice avi0_5 d0.pools.length cvi0_5, .slice avi0_6 d0.up.length cvi0_6, .slice avi0_7 d0.out.length cvi0_7] 55
      have Q := XH0_6.out.later LY
      have cXH0_7_0 := Q.cells 0 _ rfl
      have cXH0_7_1 := Q.cells 1 _ rfl
      have cXH0_7_2 := Q.cells 2 _ rfl
      have cXH0_7_3 := Q.cells 3 _ rfl
      have cXH0_7_4 := Q.cells 4 _ rfl
      have cXH0_7_5 := Q.cells 5 _ rfl
      have cXH0_7_6 := Q.cells 6 _ rfl
      have cXH0_7_7 := Q.cells 7 _ rfl
      have XH0_7 := Lib.hid Q
      clear Q
      have Q := XH1_6.out.later LY
      have cXH1_7_0 := Q.cells 0 _ rfl
      have cXH1_7_1 := Q.cells 1 _ rfl
      have cXH1_7_2 := Q.cells 2 _ rfl
      have cXH1_7_3 := Q.cells 3 _ rfl
      have cXH1_7_4 := Q.cells 4 _ rfl
      have cXH1_7_5 := Q.cells 5 _ rfl
      have cXH1_7_6 := Q.cells 6 _ rfl
      have cXH1_7_7 := Q.cells 7 _ rfl
      have XH1_7 := Lib.hid Q
      clear Q
      have RRi0_7 := Lib.hid (Rdb.below RRi0_6.out LY)
      have cYH0_7_0 := YN.cells 0 _ rfl
      have cYH0_7_1 := YN.cells 1 _ rfl
      have cYH0_7_2 := YN.cells 2 _ rfl
      have cYH0_7_3 := YN.cells 3 _ rfl
      have cYH0_7_4 := YN.cells 4 _ rfl
      have cYH0_7_5 := YN.cells 5 _ rfl
      have cYH0_7_6 := YN.cells 6 _ rfl
      have cYH0_7_7 := YN.cells 7 _ rfl
      have YH0_7 := Lib.hid YN
      have BH7 := Lib.hid (chainX w BH6.out LY)
      clear XH0_6 XH1_6 cXH0_6_0 cXH0_6_1 cXH0_6_2 cXH0_6_3 cXH0_6_4 cXH0_6_5 cXH0_6_6 cXH0_6_7 cXH1_6_0 cXH1_6_1 cXH1_6_2 cXH1_6_3 cXH1_6_4 cXH1_6_5 cXH1_6_6 cXH1_6_7 RRi0_6
      clear LY YN
      go_wp2_with fail
      refine (CP1.out (by omega) _ BH7.out).mono ?_
      rintro e w8 ⟨esi1, rfl, ri1, b8⟩
      have Q := XH0_7.out.later b8
      have cXH0_8_0 := Q.cells 0 _ rfl
      have cXH0_8_1 := Q.cells 1 _ rfl
      have cXH0_8_2 := Q.cells 2 _ rfl
      have cXH0_8_3 := Q.cells 3 _ rfl
      have cXH0_8_4 := Q.cells 4 _ rfl
      have cXH0_8_5 := Q.cells 5 _ rfl
      have cXH0_8_6 := Q.cells 6 _ rfl
      have cXH0_8_7 := Q.cells 7 _ rfl
      have XH0_8 := Lib.hid Q
      clear Q
      have Q := XH1_7.out.later b8
      have cXH1_8_0 := Q.cells 0 _ rfl
      have cXH1_8_1 := Q.cells 1 _ rfl
      have cXH1_8_2 := Q.cells 2 _ rfl
      have cXH1_8_3 := Q.cells 3 _ rfl
      have cXH1_8_4 := Q.cells 4 _ rfl
      have cXH1_8_5 := Q.cells 5 _ rfl
      have cXH1_8_6 := Q.cells 6 _ rfl
      have cXH1_8_7 := Q.cells 7 _ rfl
      have XH1_8 := Lib.hid Q
      clear Q
      have Q := YH0_7.out.later b8
      have cYH0_8_0 := Q.cells 0 _ rfl
      have cYH0_8_1 := Q.cells 1 _ rfl
      have cYH0_8_2 := Q.cells 2 _ rfl
      have cYH0_8_3 := Q.cells 3 _ rfl
      have cYH0_8_4 := Q.cells 4 _ rfl
      have cYH0_8_5 := Q.cells 5 _ rfl
      have cYH0_8_6 := Q.cells 6 _ rfl
      have cYH0_8_7 := Q.cells 7 _ rfl
      have YH0_8 := Lib.hid Q
      clear Q
      have RRi0_8 := Lib.hid (Rdb.below RRi0_7.out b8)
      have BH8 := Lib.hid (chainX w BH7.out b8)
      clear XH0_7 XH1_7 YH0_7 cXH0_7_0 cXH0_7_1 cXH0_7_2 cXH0_7_3 cXH0_7_4 cXH0_7_5 cXH0_7_6 cXH0_7_7 cXH1_7_0 cXH1_7_1 cXH1_7_2 cXH1_7_3 cXH1_7_4 cXH1_7_5 cXH1_7_6 cXH1_7_7 cYH0_7_0 cYH0_7_1 cYH0_7_2 cYH0_7_3 cYH0_7_4 cYH0_7_5 cYH0_7_6 cYH0_7_7 RRi0_7
      have RRi1_8 := Lib.hid (Rdb.weak ri1 (Nat.zero_le _) id)
      obtain ⟨avi1_2, cvi1_2, avi1_3, cvi1_3, avi1_4, cvi1_4, avi1_5, cvi1_5, avi1_6, cvi1_6, avi1_7, cvi1_7, rfl, fvi1_0, fvi1_1, fvi1_2, gvi1_2, fvi1_3, gvi1_3, fvi1_4, gvi1_4, fvi1_5, gvi1_5, fvi1_6, gvi1_6, fvi1_7, gvi1_7⟩ := shape_Map ri1
      clear ri1 fvi1_2 fvi1_3 fvi1_4 fvi1_5 fvi1_6 fvi1_7
      have LY := lay w8 (.cells #[.int .i64 d1.epoch, .int .i64 d1.term, .slice avi1_2 d1.tree.devices.length cvi1_2, .slice avi1_3 d1.tree.buckets.length cvi1_3, .slice avi1_4 d1.rules.length cvi1_4, .slice avi1_5 d1.pools.length cvi1_5, .slice avi1_6 d1.up.length cvi1_6, .slice avi1_7 d1.out.length cvi1_7] 55)
      have YN := BxN.new w8 #[.int .i64 d1.epoch, .int .i64 d1.term, .slice avi1_2 d1.tree.devices.length cvi1_2, .slice avi1_3 d1.tree.buckets.length cvi1_3, .slice avi1_4 d1.rules.length cvi1_4, .slice avi1_5 d1.pools.length cvi1_5, .slice avi1_6 d1.up.length cvi1_6, .slice avi1_7 d1.out.length cvi1_7] 55
      have Q := XH0_8.out.later LY
      have cXH0_9_0 := Q.cells 0 _ rfl
      have cXH0_9_1 := Q.cells 1 _ rfl
      have cXH0_9_2 := Q.cells 2 _ rfl
      have cXH0_9_3 := Q.cells 3 _ rfl
      have cXH0_9_4 := Q.cells 4 _ rfl
      have cXH0_9_5 := Q.cells 5 _ rfl
      have cXH0_9_6 := Q.cells 6 _ rfl
      have cXH0_9_7 := Q.cells 7 _ rfl
      have XH0_9 := Lib.hid Q
      clear Q
      have Q := XH1_8.out.later LY
      have cXH1_9_0 := Q.cells 0 _ rfl
      have cXH1_9_1 := Q.cells 1 _ rfl
      have cXH1_9_2 := Q.cells 2 _ rfl
      have cXH1_9_3 := Q.cells 3 _ rfl
      have cXH1_9_4 := Q.cells 4 _ rfl
      have cXH1_9_5 := Q.cells 5 _ rfl
      have cXH1_9_6 := Q.cells 6 _ rfl
      have cXH1_9_7 := Q.cells 7 _ rfl
      have XH1_9 := Lib.hid Q
      clear Q
      have Q := YH0_8.out.later LY
      have cYH0_9_0 := Q.cells 0 _ rfl
      have cYH0_9_1 := Q.cells 1 _ rfl
      have cYH0_9_2 := Q.cells 2 _ rfl
      have cYH0_9_3 := Q.cells 3 _ rfl
      have cYH0_9_4 := Q.cells 4 _ rfl
      have cYH0_9_5 := Q.cells 5 _ rfl
      have cYH0_9_6 := Q.cells 6 _ rfl
      have cYH0_9_7 := Q.cells 7 _ rfl
      have YH0_9 := Lib.hid Q
      clear Q
      have RRi0_9 := Lib.hid (Rdb.below RRi0_8.out LY)
      have RRi1_9 := Lib.hid (Rdb.below RRi1_8.out LY)
      have cYH1_9_0 := YN.cells 0 _ rfl
      have cYH1_9_1 := YN.cells 1 _ rfl
      have cYH1_9_2 := YN.cells 2 _ rfl
      have cYH1_9_3 := YN.cells 3 _ rfl
      have cYH1_9_4 := YN.cells 4 _ rfl
      have cYH1_9_5 := YN.cells 5 _ rfl
      have cYH1_9_6 := YN.cells 6 _ rfl
      have cYH1_9_7 := YN.cells 7 _ rfl
      have YH1_9 := Lib.hid YN
      have BH9 := Lib.hid (chainX w BH8.out LY)
      clear XH0_8 XH1_8 YH0_8 cXH0_8_0 cXH0_8_1 cXH0_8_2 cXH0_8_3 cXH0_8_4 cXH0_8_5 cXH0_8_6 cXH0_8_7 cXH1_8_0 cXH1_8_1 cXH1_8_2 cXH1_8_3 cXH1_8_4 cXH1_8_5 cXH1_8_6 cXH1_8_7 cYH0_8_0 cYH0_8_1 cYH0_8_2 cYH0_8_3 cYH0_8_4 cYH0_8_5 cYH0_8_6 cYH0_8_7 RRi0_8 RRi1_8
      clear LY YN
      have ANS := Lib.hid (HI.out (by omega) (by omega) ([.int .i64 d0.epoch, .int .i64 d0.term, .slice avi0_2 d0.tree.devices.length cvi0_2, .slice avi0_3 d0.tree.buckets.length cvi0_3, .slice avi0_4 d0.rules.length cvi0_4, .slice avi0_5 d0.pools.length cvi0_5, .slice avi0_6 d0.up.length cvi0_6, .slice avi0_7 d0.out.length cvi0_7]) ([.int .i64 d1.epoch, .int .i64 d1.term, .slice avi1_2 d1.tree.devices.length cvi1_2, .slice avi1_3 d1.tree.buckets.length cvi1_3, .slice avi1_4 d1.rules.length cvi1_4, .slice avi1_5 d1.pools.length cvi1_5, .slice avi1_6 d1.up.length cvi1_6, .slice avi1_7 d1.out.length cvi1_7]) _ RRi0_9.out RRi1_9.out)
      go_wp2_with fail
      refine (ANS.out).mono ?_
      rintro e w10 ⟨rfl, b10⟩
      have Q := XH0_9.out.later b10
      have cXH0_10_0 := Q.cells 0 _ rfl
      have cXH0_10_1 := Q.cells 1 _ rfl
      have cXH0_10_2 := Q.cells 2 _ rfl
      have cXH0_10_3 := Q.cells 3 _ rfl
      have cXH0_10_4 := Q.cells 4 _ rfl
      have cXH0_10_5 := Q.cells 5 _ rfl
      have cXH0_10_6 := Q.cells 6 _ rfl
      have cXH0_10_7 := Q.cells 7 _ rfl
      have XH0_10 := Lib.hid Q
      clear Q
      have Q := XH1_9.out.later b10
      have cXH1_10_0 := Q.cells 0 _ rfl
      have cXH1_10_1 := Q.cells 1 _ rfl
      have cXH1_10_2 := Q.cells 2 _ rfl
      have cXH1_10_3 := Q.cells 3 _ rfl
      have cXH1_10_4 := Q.cells 4 _ rfl
      have cXH1_10_5 := Q.cells 5 _ rfl
      have cXH1_10_6 := Q.cells 6 _ rfl
      have cXH1_10_7 := Q.cells 7 _ rfl
      have XH1_10 := Lib.hid Q
      clear Q
      have Q := YH0_9.out.later b10
      have cYH0_10_0 := Q.cells 0 _ rfl
      have cYH0_10_1 := Q.cells 1 _ rfl
      have cYH0_10_2 := Q.cells 2 _ rfl
      have cYH0_10_3 := Q.cells 3 _ rfl
      have cYH0_10_4 := Q.cells 4 _ rfl
      have cYH0_10_5 := Q.cells 5 _ rfl
      have cYH0_10_6 := Q.cells 6 _ rfl
      have cYH0_10_7 := Q.cells 7 _ rfl
      have YH0_10 := Lib.hid Q
      clear Q
      have Q := YH1_9.out.later b10
      have cYH1_10_0 := Q.cells 0 _ rfl
      have cYH1_10_1 := Q.cells 1 _ rfl
      have cYH1_10_2 := Q.cells 2 _ rfl
      have cYH1_10_3 := Q.cells 3 _ rfl
      have cYH1_10_4 := Q.cells 4 _ rfl
      have cYH1_10_5 := Q.cells 5 _ rfl
      have cYH1_10_6 := Q.cells 6 _ rfl
      have cYH1_10_7 := Q.cells 7 _ rfl
      have YH1_10 := Lib.hid Q
      clear Q
      have RRi0_10 := Lib.hid (Rdb.below RRi0_9.out b10)
      have RRi1_10 := Lib.hid (Rdb.below RRi1_9.out b10)
      have BH10 := Lib.hid (chainX w BH9.out b10)
      clear XH0_9 XH1_9 YH0_9 YH1_9 cXH0_9_0 cXH0_9_1 cXH0_9_2 cXH0_9_3 cXH0_9_4 cXH0_9_5 cXH0_9_6 cXH0_9_7 cXH1_9_0 cXH1_9_1 cXH1_9_2 cXH1_9_3 cXH1_9_4 cXH1_9_5 cXH1_9_6 cXH1_9_7 cYH0_9_0 cYH0_9_1 cYH0_9_2 cYH0_9_3 cYH0_9_4 cYH0_9_5 cYH0_9_6 cYH0_9_7 cYH1_9_0 cYH1_9_1 cYH1_9_2 cYH1_9_3 cYH1_9_4 cYH1_9_5 cYH1_9_6 cYH1_9_7 RRi0_9 RRi1_9
      clear ANS
      go_wp2_with fail
      go_region_held3 (fun w' => w'.cell? ⟨w.heap.size, 0, none⟩ = some (.int .i64 d0.epoch) ∧ w'.cell? ⟨w.heap.size, 1, none⟩ = some (.int .i64 d0.term) ∧ w'.cell? ⟨w.heap.size, 2, none⟩ = some (.slice a0_2 d0.tree.devices.length c0_2) ∧ w'.cell? ⟨w.heap.size, 3, none⟩ = some (.slice a0_3 d0.tree.buckets.length c0_3) ∧ w'.cell? ⟨w.heap.size, 4, none⟩ = some (.slice a0_4 d0.rules.length c0_4) ∧ w'.cell? ⟨w.heap.size, 5, none⟩ = some (.slice a0_5 d0.pools.length c0_5) ∧ w'.cell? ⟨w.heap.size, 6, none⟩ = some (.slice a0_6 d0.up.length c0_6) ∧ w'.cell? ⟨w.heap.size, 7, none⟩ = some (.slice a0_7 d0.out.length c0_7) ∧ w'.cell? ⟨w.heap.size + 1, 0, none⟩ = some (.int .i64 d1.epoch) ∧ w'.cell? ⟨w.heap.size + 1, 1, none⟩ = some (.int .i64 d1.term) ∧ w'.cell? ⟨w.heap.size + 1, 2, none⟩ = some (.slice a1_2 d1.tree.devices.length c1_2) ∧ w'.cell? ⟨w.heap.size + 1, 3, none⟩ = some (.slice a1_3 d1.tree.buckets.length c1_3) ∧ w'.cell? ⟨w.heap.size + 1, 4, none⟩ = some (.slice a1_4 d1.rules.length c1_4) ∧ w'.cell? ⟨w.heap.size + 1, 5, none⟩ = some (.slice a1_5 d1.pools.length c1_5) ∧ w'.cell? ⟨w.heap.size + 1, 6, none⟩ = some (.slice a1_6 d1.up.length c1_6) ∧ w'.cell? ⟨w.heap.size + 1, 7, none⟩ = some (.slice a1_7 d1.out.length c1_7) ∧ w'.cell? ⟨w6.heap.size, 0, none⟩ = some (.int .i64 d0.epoch) ∧ w'.cell? ⟨w6.heap.size, 1, none⟩ = some (.int .i64 d0.term) ∧ w'.cell? ⟨w6.heap.size, 2, none⟩ = some (.slice avi0_2 d0.tree.devices.length cvi0_2) ∧ w'.cell? ⟨w6.heap.size, 3, none⟩ = some (.slice avi0_3 d0.tree.buckets.length cvi0_3) ∧ w'.cell? ⟨w6.heap.size, 4, none⟩ = some (.slice avi0_4 d0.rules.length cvi0_4) ∧ w'.cell? ⟨w6.heap.size, 5, none⟩ = some (.slice avi0_5 d0.pools.length cvi0_5) ∧ w'.cell? ⟨w6.heap.size, 6, none⟩ = some (.slice avi0_6 d0.up.length cvi0_6) ∧ w'.cell? ⟨w6.heap.size, 7, none⟩ = some (.slice avi0_7 d0.out.length cvi0_7) ∧ w'.cell? ⟨w8.heap.size, 0, none⟩ = some (.int .i64 d1.epoch) ∧ w'.cell? ⟨w8.heap.size, 1, none⟩ = some (.int .i64 d1.term) ∧ w'.cell? ⟨w8.heap.size, 2, none⟩ = some (.slice avi1_2 d1.tree.devices.length cvi1_2) ∧ w'.cell? ⟨w8.heap.size, 3, none⟩ = some (.slice avi1_3 d1.tree.buckets.length cvi1_3) ∧ w'.cell? ⟨w8.heap.size, 4, none⟩ = some (.slice avi1_4 d1.rules.length cvi1_4) ∧ w'.cell? ⟨w8.heap.size, 5, none⟩ = some (.slice avi1_5 d1.pools.length cvi1_5) ∧ w'.cell? ⟨w8.heap.size, 6, none⟩ = some (.slice avi1_6 d1.up.length cvi1_6) ∧ w'.cell? ⟨w8.heap.size, 7, none⟩ = some (.slice avi1_7 d1.out.length cvi1_7)) (go_keep)
        (first
          | (go_at_call 26; refine (CP0.out (by omega) _ BH10.out.drew).mono ?_; rintro e w11 ⟨ese0, rfl, re0, b11⟩; have b11 := undrewX b11; have Q := XH0_10.out.later b11; have cXH0_11_0 := Q.cells 0 _ rfl; have cXH0_11_1 := Q.cells 1 _ rfl; have cXH0_11_2 := Q.cells 2 _ rfl; have cXH0_11_3 := Q.cells 3 _ rfl; have cXH0_11_4 := Q.cells 4 _ rfl; have cXH0_11_5 := Q.cells 5 _ rfl; have cXH0_11_6 := Q.cells 6 _ rfl; have cXH0_11_7 := Q.cells 7 _ rfl; have XH0_11 := Lib.hid Q; clear Q; have Q := XH1_10.out.later b11; have cXH1_11_0 := Q.cells 0 _ rfl; have cXH1_11_1 := Q.cells 1 _ rfl; have cXH1_11_2 := Q.cells 2 _ rfl; have cXH1_11_3 := Q.cells 3 _ rfl; have cXH1_11_4 := Q.cells 4 _ rfl; have cXH1_11_5 := Q.cells 5 _ rfl; have cXH1_11_6 := Q.cells 6 _ rfl; have cXH1_11_7 := Q.cells 7 _ rfl; have XH1_11 := Lib.hid Q; clear Q; have Q := YH0_10.out.later b11; have cYH0_11_0 := Q.cells 0 _ rfl; have cYH0_11_1 := Q.cells 1 _ rfl; have cYH0_11_2 := Q.cells 2 _ rfl; have cYH0_11_3 := Q.cells 3 _ rfl; have cYH0_11_4 := Q.cells 4 _ rfl; have cYH0_11_5 := Q.cells 5 _ rfl; have cYH0_11_6 := Q.cells 6 _ rfl; have cYH0_11_7 := Q.cells 7 _ rfl; have YH0_11 := Lib.hid Q; clear Q; have Q := YH1_10.out.later b11; have cYH1_11_0 := Q.cells 0 _ rfl; have cYH1_11_1 := Q.cells 1 _ rfl; have cYH1_11_2 := Q.cells 2 _ rfl; have cYH1_11_3 := Q.cells 3 _ rfl; have cYH1_11_4 := Q.cells 4 _ rfl; have cYH1_11_5 := Q.cells 5 _ rfl; have cYH1_11_6 := Q.cells 6 _ rfl; have cYH1_11_7 := Q.cells 7 _ rfl; have YH1_11 := Lib.hid Q; clear Q; have RRi0_11 := Lib.hid (Rdb.below RRi0_10.out b11); have RRi1_11 := Lib.hid (Rdb.below RRi1_10.out b11); have BH11 := Lib.hid (chainX w BH10.out b11); clear b11; have RRe0_11 := Lib.hid (Rdb.weak re0 (Nat.zero_le _) id); obtain ⟨ave0_2, cve0_2, ave0_3, cve0_3, ave0_4, cve0_4, ave0_5, cve0_5, ave0_6, cve0_6, ave0_7, cve0_7, rfl, fve0_0, fve0_1, fve0_2, gve0_2, fve0_3, gve0_3, fve0_4, gve0_4, fve0_5, gve0_5, fve0_6, gve0_6, fve0_7, gve0_7⟩ := shape_Map re0; clear re0 fve0_2 fve0_3 fve0_4 fve0_5 fve0_6 fve0_7)
          | (go_at_call 28; refine (EQ0.out (by omega) ([.int .i64 d0.epoch, .int .i64 d0.term, .slice avi0_2 d0.tree.devices.length cvi0_2, .slice avi0_3 d0.tree.buckets.length cvi0_3, .slice avi0_4 d0.rules.length cvi0_4, .slice avi0_5 d0.pools.length cvi0_5, .slice avi0_6 d0.up.length cvi0_6, .slice avi0_7 d0.out.length cvi0_7]) ([.int .i64 d0.epoch, .int .i64 d0.term, .slice ave0_2 d0.tree.devices.length cve0_2, .slice ave0_3 d0.tree.buckets.length cve0_3, .slice ave0_4 d0.rules.length cve0_4, .slice ave0_5 d0.pools.length cve0_5, .slice ave0_6 d0.up.length cve0_6, .slice ave0_7 d0.out.length cve0_7]) _ RRi0_11.out RRe0_11.out).mono ?_; rintro e w12 ⟨rfl, b12⟩; have Q := XH0_11.out.later b12; have cXH0_12_0 := Q.cells 0 _ rfl; have cXH0_12_1 := Q.cells 1 _ rfl; have cXH0_12_2 := Q.cells 2 _ rfl; have cXH0_12_3 := Q.cells 3 _ rfl; have cXH0_12_4 := Q.cells 4 _ rfl; have cXH0_12_5 := Q.cells 5 _ rfl; have cXH0_12_6 := Q.cells 6 _ rfl; have cXH0_12_7 := Q.cells 7 _ rfl; have XH0_12 := Lib.hid Q; clear Q; have Q := XH1_11.out.later b12; have cXH1_12_0 := Q.cells 0 _ rfl; have cXH1_12_1 := Q.cells 1 _ rfl; have cXH1_12_2 := Q.cells 2 _ rfl; have cXH1_12_3 := Q.cells 3 _ rfl; have cXH1_12_4 := Q.cells 4 _ rfl; have cXH1_12_5 := Q.cells 5 _ rfl; have cXH1_12_6 := Q.cells 6 _ rfl; have cXH1_12_7 := Q.cells 7 _ rfl; have XH1_12 := Lib.hid Q; clear Q; have Q := YH0_11.out.later b12; have cYH0_12_0 := Q.cells 0 _ rfl; have cYH0_12_1 := Q.cells 1 _ rfl; have cYH0_12_2 := Q.cells 2 _ rfl; have cYH0_12_3 := Q.cells 3 _ rfl; have cYH0_12_4 := Q.cells 4 _ rfl; have cYH0_12_5 := Q.cells 5 _ rfl; have cYH0_12_6 := Q.cells 6 _ rfl; have cYH0_12_7 := Q.cells 7 _ rfl; have YH0_12 := Lib.hid Q; clear Q; have Q := YH1_11.out.later b12; have cYH1_12_0 := Q.cells 0 _ rfl; have cYH1_12_1 := Q.cells 1 _ rfl; have cYH1_12_2 := Q.cells 2 _ rfl; have cYH1_12_3 := Q.cells 3 _ rfl; have cYH1_12_4 := Q.cells 4 _ rfl; have cYH1_12_5 := Q.cells 5 _ rfl; have cYH1_12_6 := Q.cells 6 _ rfl; have cYH1_12_7 := Q.cells 7 _ rfl; have YH1_12 := Lib.hid Q; clear Q; have RRi0_12 := Lib.hid (Rdb.below RRi0_11.out b12); have RRi1_12 := Lib.hid (Rdb.below RRi1_11.out b12); have RRe0_12 := Lib.hid (Rdb.below RRe0_11.out b12); have BH12 := Lib.hid (chainX w BH11.out b12); clear b12))
      go_wp2_with fail
      go_region_held3 (fun w' => w'.cell? ⟨w.heap.size, 0, none⟩ = some (.int .i64 d0.epoch) ∧ w'.cell? ⟨w.heap.size, 1, none⟩ = some (.int .i64 d0.term) ∧ w'.cell? ⟨w.heap.size, 2, none⟩ = some (.slice a0_2 d0.tree.devices.length c0_2) ∧ w'.cell? ⟨w.heap.size, 3, none⟩ = some (.slice a0_3 d0.tree.buckets.length c0_3) ∧ w'.cell? ⟨w.heap.size, 4, none⟩ = some (.slice a0_4 d0.rules.length c0_4) ∧ w'.cell? ⟨w.heap.size, 5, none⟩ = some (.slice a0_5 d0.pools.length c0_5) ∧ w'.cell? ⟨w.heap.size, 6, none⟩ = some (.slice a0_6 d0.up.length c0_6) ∧ w'.cell? ⟨w.heap.size, 7, none⟩ = some (.slice a0_7 d0.out.length c0_7) ∧ w'.cell? ⟨w.heap.size + 1, 0, none⟩ = some (.int .i64 d1.epoch) ∧ w'.cell? ⟨w.heap.size + 1, 1, none⟩ = some (.int .i64 d1.term) ∧ w'.cell? ⟨w.heap.size + 1, 2, none⟩ = some (.slice a1_2 d1.tree.devices.length c1_2) ∧ w'.cell? ⟨w.heap.size + 1, 3, none⟩ = some (.slice a1_3 d1.tree.buckets.length c1_3) ∧ w'.cell? ⟨w.heap.size + 1, 4, none⟩ = some (.slice a1_4 d1.rules.length c1_4) ∧ w'.cell? ⟨w.heap.size + 1, 5, none⟩ = some (.slice a1_5 d1.pools.length c1_5) ∧ w'.cell? ⟨w.heap.size + 1, 6, none⟩ = some (.slice a1_6 d1.up.length c1_6) ∧ w'.cell? ⟨w.heap.size + 1, 7, none⟩ = some (.slice a1_7 d1.out.length c1_7) ∧ w'.cell? ⟨w6.heap.size, 0, none⟩ = some (.int .i64 d0.epoch) ∧ w'.cell? ⟨w6.heap.size, 1, none⟩ = some (.int .i64 d0.term) ∧ w'.cell? ⟨w6.heap.size, 2, none⟩ = some (.slice avi0_2 d0.tree.devices.length cvi0_2) ∧ w'.cell? ⟨w6.heap.size, 3, none⟩ = some (.slice avi0_3 d0.tree.buckets.length cvi0_3) ∧ w'.cell? ⟨w6.heap.size, 4, none⟩ = some (.slice avi0_4 d0.rules.length cvi0_4) ∧ w'.cell? ⟨w6.heap.size, 5, none⟩ = some (.slice avi0_5 d0.pools.length cvi0_5) ∧ w'.cell? ⟨w6.heap.size, 6, none⟩ = some (.slice avi0_6 d0.up.length cvi0_6) ∧ w'.cell? ⟨w6.heap.size, 7, none⟩ = some (.slice avi0_7 d0.out.length cvi0_7) ∧ w'.cell? ⟨w8.heap.size, 0, none⟩ = some (.int .i64 d1.epoch) ∧ w'.cell? ⟨w8.heap.size, 1, none⟩ = some (.int .i64 d1.term) ∧ w'.cell? ⟨w8.heap.size, 2, none⟩ = some (.slice avi1_2 d1.tree.devices.length cvi1_2) ∧ w'.cell? ⟨w8.heap.size, 3, none⟩ = some (.slice avi1_3 d1.tree.buckets.length cvi1_3) ∧ w'.cell? ⟨w8.heap.size, 4, none⟩ = some (.slice avi1_4 d1.rules.length cvi1_4) ∧ w'.cell? ⟨w8.heap.size, 5, none⟩ = some (.slice avi1_5 d1.pools.length cvi1_5) ∧ w'.cell? ⟨w8.heap.size, 6, none⟩ = some (.slice avi1_6 d1.up.length cvi1_6) ∧ w'.cell? ⟨w8.heap.size, 7, none⟩ = some (.slice avi1_7 d1.out.length cvi1_7)) (go_keep)
        (first
          | (go_at_call 26; refine (CP1.out (by omega) _ BH12.out.drew).mono ?_; rintro e w13 ⟨ese1, rfl, re1, b13⟩; have b13 := undrewX b13; have Q := XH0_12.out.later b13; have cXH0_13_0 := Q.cells 0 _ rfl; have cXH0_13_1 := Q.cells 1 _ rfl; have cXH0_13_2 := Q.cells 2 _ rfl; have cXH0_13_3 := Q.cells 3 _ rfl; have cXH0_13_4 := Q.cells 4 _ rfl; have cXH0_13_5 := Q.cells 5 _ rfl; have cXH0_13_6 := Q.cells 6 _ rfl; have cXH0_13_7 := Q.cells 7 _ rfl; have XH0_13 := Lib.hid Q; clear Q; have Q := XH1_12.out.later b13; have cXH1_13_0 := Q.cells 0 _ rfl; have cXH1_13_1 := Q.cells 1 _ rfl; have cXH1_13_2 := Q.cells 2 _ rfl; have cXH1_13_3 := Q.cells 3 _ rfl; have cXH1_13_4 := Q.cells 4 _ rfl; have cXH1_13_5 := Q.cells 5 _ rfl; have cXH1_13_6 := Q.cells 6 _ rfl; have cXH1_13_7 := Q.cells 7 _ rfl; have XH1_13 := Lib.hid Q; clear Q; have Q := YH0_12.out.later b13; have cYH0_13_0 := Q.cells 0 _ rfl; have cYH0_13_1 := Q.cells 1 _ rfl; have cYH0_13_2 := Q.cells 2 _ rfl; have cYH0_13_3 := Q.cells 3 _ rfl; have cYH0_13_4 := Q.cells 4 _ rfl; have cYH0_13_5 := Q.cells 5 _ rfl; have cYH0_13_6 := Q.cells 6 _ rfl; have cYH0_13_7 := Q.cells 7 _ rfl; have YH0_13 := Lib.hid Q; clear Q; have Q := YH1_12.out.later b13; have cYH1_13_0 := Q.cells 0 _ rfl; have cYH1_13_1 := Q.cells 1 _ rfl; have cYH1_13_2 := Q.cells 2 _ rfl; have cYH1_13_3 := Q.cells 3 _ rfl; have cYH1_13_4 := Q.cells 4 _ rfl; have cYH1_13_5 := Q.cells 5 _ rfl; have cYH1_13_6 := Q.cells 6 _ rfl; have cYH1_13_7 := Q.cells 7 _ rfl; have YH1_13 := Lib.hid Q; clear Q; have RRi0_13 := Lib.hid (Rdb.below RRi0_12.out b13); have RRi1_13 := Lib.hid (Rdb.below RRi1_12.out b13); have BH13 := Lib.hid (chainX w BH12.out b13); clear b13; have RRe1_13 := Lib.hid (Rdb.weak re1 (Nat.zero_le _) id); obtain ⟨ave1_2, cve1_2, ave1_3, cve1_3, ave1_4, cve1_4, ave1_5, cve1_5, ave1_6, cve1_6, ave1_7, cve1_7, rfl, fve1_0, fve1_1, fve1_2, gve1_2, fve1_3, gve1_3, fve1_4, gve1_4, fve1_5, gve1_5, fve1_6, gve1_6, fve1_7, gve1_7⟩ := shape_Map re1; clear re1 fve1_2 fve1_3 fve1_4 fve1_5 fve1_6 fve1_7)
          | (go_at_call 28; refine (EQ1.out (by omega) ([.int .i64 d1.epoch, .int .i64 d1.term, .slice avi1_2 d1.tree.devices.length cvi1_2, .slice avi1_3 d1.tree.buckets.length cvi1_3, .slice avi1_4 d1.rules.length cvi1_4, .slice avi1_5 d1.pools.length cvi1_5, .slice avi1_6 d1.up.length cvi1_6, .slice avi1_7 d1.out.length cvi1_7]) ([.int .i64 d1.epoch, .int .i64 d1.term, .slice ave1_2 d1.tree.devices.length cve1_2, .slice ave1_3 d1.tree.buckets.length cve1_3, .slice ave1_4 d1.rules.length cve1_4, .slice ave1_5 d1.pools.length cve1_5, .slice ave1_6 d1.up.length cve1_6, .slice ave1_7 d1.out.length cve1_7]) _ RRi1_13.out RRe1_13.out).mono ?_; rintro e w14 ⟨rfl, b14⟩; have Q := XH0_13.out.later b14; have cXH0_14_0 := Q.cells 0 _ rfl; have cXH0_14_1 := Q.cells 1 _ rfl; have cXH0_14_2 := Q.cells 2 _ rfl; have cXH0_14_3 := Q.cells 3 _ rfl; have cXH0_14_4 := Q.cells 4 _ rfl; have cXH0_14_5 := Q.cells 5 _ rfl; have cXH0_14_6 := Q.cells 6 _ rfl; have cXH0_14_7 := Q.cells 7 _ rfl; have XH0_14 := Lib.hid Q; clear Q; have Q := XH1_13.out.later b14; have cXH1_14_0 := Q.cells 0 _ rfl; have cXH1_14_1 := Q.cells 1 _ rfl; have cXH1_14_2 := Q.cells 2 _ rfl; have cXH1_14_3 := Q.cells 3 _ rfl; have cXH1_14_4 := Q.cells 4 _ rfl; have cXH1_14_5 := Q.cells 5 _ rfl; have cXH1_14_6 := Q.cells 6 _ rfl; have cXH1_14_7 := Q.cells 7 _ rfl; have XH1_14 := Lib.hid Q; clear Q; have Q := YH0_13.out.later b14; have cYH0_14_0 := Q.cells 0 _ rfl; have cYH0_14_1 := Q.cells 1 _ rfl; have cYH0_14_2 := Q.cells 2 _ rfl; have cYH0_14_3 := Q.cells 3 _ rfl; have cYH0_14_4 := Q.cells 4 _ rfl; have cYH0_14_5 := Q.cells 5 _ rfl; have cYH0_14_6 := Q.cells 6 _ rfl; have cYH0_14_7 := Q.cells 7 _ rfl; have YH0_14 := Lib.hid Q; clear Q; have Q := YH1_13.out.later b14; have cYH1_14_0 := Q.cells 0 _ rfl; have cYH1_14_1 := Q.cells 1 _ rfl; have cYH1_14_2 := Q.cells 2 _ rfl; have cYH1_14_3 := Q.cells 3 _ rfl; have cYH1_14_4 := Q.cells 4 _ rfl; have cYH1_14_5 := Q.cells 5 _ rfl; have cYH1_14_6 := Q.cells 6 _ rfl; have cYH1_14_7 := Q.cells 7 _ rfl; have YH1_14 := Lib.hid Q; clear Q; have RRi0_14 := Lib.hid (Rdb.below RRi0_13.out b14); have RRi1_14 := Lib.hid (Rdb.below RRi1_13.out b14); have RRe1_14 := Lib.hid (Rdb.below RRe1_13.out b14); have BH14 := Lib.hid (chainX w BH13.out b14); clear b14))
      all_goals
        go_wp2
        go_ret
        exact ⟨rfl, BH14.out⟩
    · skip
      go_enter Try.func6, Try.ntmps6
      have V0 := SZ0.out (1048576) (by omega) (by omega) _ BH0.out
      unfold SzB at V0
      rw [show szI (1048576) s0 = 1048576 - (s0 : Int) from szI_yes (by omega)] at V0
      have VH0 := Lib.hid V0
      clear V0
      go_wp2_with fail
      refine (VH0.out).mono ?_
      rintro e w1 ⟨rfl, b1⟩
      have Q := XH0_0.out.later b1
      have cXH0_1_0 := Q.cells 0 _ rfl
      have cXH0_1_1 := Q.cells 1 _ rfl
      have cXH0_1_2 := Q.cells 2 _ rfl
      have cXH0_1_3 := Q.cells 3 _ rfl
      have cXH0_1_4 := Q.cells 4 _ rfl
      have cXH0_1_5 := Q.cells 5 _ rfl
      have cXH0_1_6 := Q.cells 6 _ rfl
      have cXH0_1_7 := Q.cells 7 _ rfl
      have XH0_1 := Lib.hid Q
      clear Q
      have Q := XH1_0.out.later b1
      have cXH1_1_0 := Q.cells 0 _ rfl
      have cXH1_1_1 := Q.cells 1 _ rfl
      have cXH1_1_2 := Q.cells 2 _ rfl
      have cXH1_1_3 := Q.cells 3 _ rfl
      have cXH1_1_4 := Q.cells 4 _ rfl
      have cXH1_1_5 := Q.cells 5 _ rfl
      have cXH1_1_6 := Q.cells 6 _ rfl
      have cXH1_1_7 := Q.cells 7 _ rfl
      have XH1_1 := Lib.hid Q
      clear Q
      have BH1 := Lib.hid (chainX w BH0.out b1)
      clear XH0_0 XH1_0
      have V1 := SZ1.out (1048576 - (s0 : Int)) (by omega) (by omega) _ BH1.out
      unfold SzB at V1
      rw [show szI (1048576 - (s0 : Int)) s1 = -1 from szI_no (by omega)] at V1
      have VH1 := Lib.hid V1
      clear V1
      go_wp2_with fail
      refine (VH1.out).mono ?_
      rintro e w2 ⟨rfl, b2⟩
      have Q := XH0_1.out.later b2
      have cXH0_2_0 := Q.cells 0 _ rfl
      have cXH0_2_1 := Q.cells 1 _ rfl
      have cXH0_2_2 := Q.cells 2 _ rfl
      have cXH0_2_3 := Q.cells 3 _ rfl
      have cXH0_2_4 := Q.cells 4 _ rfl
      have cXH0_2_5 := Q.cells 5 _ rfl
      have cXH0_2_6 := Q.cells 6 _ rfl
      have cXH0_2_7 := Q.cells 7 _ rfl
      have XH0_2 := Lib.hid Q
      clear Q
      have Q := XH1_1.out.later b2
      have cXH1_2_0 := Q.cells 0 _ rfl
      have cXH1_2_1 := Q.cells 1 _ rfl
      have cXH1_2_2 := Q.cells 2 _ rfl
      have cXH1_2_3 := Q.cells 3 _ rfl
      have cXH1_2_4 := Q.cells 4 _ rfl
      have cXH1_2_5 := Q.cells 5 _ rfl
      have cXH1_2_6 := Q.cells 6 _ rfl
      have cXH1_2_7 := Q.cells 7 _ rfl
      have XH1_2 := Lib.hid Q
      clear Q
      have BH2 := Lib.hid (chainX w BH1.out b2)
      clear XH0_1 XH1_1 cXH0_1_0 cXH0_1_1 cXH0_1_2 cXH0_1_3 cXH0_1_4 cXH0_1_5 cXH0_1_6 cXH0_1_7 cXH1_1_0 cXH1_1_1 cXH1_1_2 cXH1_1_3 cXH1_1_4 cXH1_1_5 cXH1_1_6 cXH1_1_7
      go_wp2
      go_ret
      exact ⟨rfl, BH2.out⟩
  · skip
    go_enter Try.func6, Try.ntmps6
    have V0 := SZ0.out (1048576) (by omega) (by omega) _ BH0.out
    unfold SzB at V0
    rw [show szI (1048576) s0 = -1 from szI_no (by omega)] at V0
    have VH0 := Lib.hid V0
    clear V0
    go_wp2_with fail
    refine (VH0.out).mono ?_
    rintro e w1 ⟨rfl, b1⟩
    have Q := XH0_0.out.later b1
    have cXH0_1_0 := Q.cells 0 _ rfl
    have cXH0_1_1 := Q.cells 1 _ rfl
    have cXH0_1_2 := Q.cells 2 _ rfl
    have cXH0_1_3 := Q.cells 3 _ rfl
    have cXH0_1_4 := Q.cells 4 _ rfl
    have cXH0_1_5 := Q.cells 5 _ rfl
    have cXH0_1_6 := Q.cells 6 _ rfl
    have cXH0_1_7 := Q.cells 7 _ rfl
    have XH0_1 := Lib.hid Q
    clear Q
    have Q := XH1_0.out.later b1
    have cXH1_1_0 := Q.cells 0 _ rfl
    have cXH1_1_1 := Q.cells 1 _ rfl
    have cXH1_1_2 := Q.cells 2 _ rfl
    have cXH1_1_3 := Q.cells 3 _ rfl
    have cXH1_1_4 := Q.cells 4 _ rfl
    have cXH1_1_5 := Q.cells 5 _ rfl
    have cXH1_1_6 := Q.cells 6 _ rfl
    have cXH1_1_7 := Q.cells 7 _ rfl
    have XH1_1 := Lib.hid Q
    clear Q
    have BH1 := Lib.hid (chainX w BH0.out b1)
    clear XH0_0 XH1_0
    go_wp2
    go_ret
    exact ⟨rfl, BH1.out⟩
end Go.Proofs.Ytigaoimnhebegaa.Rd
