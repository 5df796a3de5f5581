/-
  The exact law of FnExactSameStore, given the model's answer and the program's (written by tools/gen/lawgen.py).
-/
import Derived.Test.YtbnjgehgaellmaaRs
import Derived.Test.YtbnjgehgaellmaaDStore
import Derived.Deep.RegionHeld3
namespace Go.Proofs.Ytbnjgehgaellmaa.Rd
open Go.RowKit Go.ChangeShapes Go.WideShapes
open Go.Proofs.Ytbnjgehgaellmaa.Sg (BxN)
set_option linter.unusedVariables false
set_option linter.unusedSimpArgs false

set_option maxRecDepth 100000 in
set_option maxHeartbeats 4000000 in
theorem fnFnExactSameStore {cs0 : List Value} (d0 : DStore) {cs1 : List Value} (d1 : DStore) (b : Bool) (w : World) (h0 : Rdb.rd false 0 w cs0 d0) (h1 : Rdb.rd false 0 w cs1 d1) (hS : Rdb.sz d0 ≤ 1048576 → Rdb.sz d1 ≤ 1048576 → ∀ (es0 : List Value) (es1 : List Value) w' (k0 : Rdb.rd true 0 w' es0 d0) (k1 : Rdb.rd true 0 w' es1 d1), Calls Try.prog 24 #[.agg es0.toArray, .agg es1.toArray] w' (RetW (.bool b) w')) (hI : Rdb.sz d0 ≤ 1048576 → Rdb.sz d1 ≤ 1048576 → ∀ (es0 : List Value) (es1 : List Value) w' (k0 : Rdb.rd true 0 w' es0 d0) (k1 : Rdb.rd true 0 w' es1 d1), Calls Try.prog 26 #[.agg es0.toArray, .agg es1.toArray] w' (RetW (.bool b) w')) :
    Calls Try.prog 5 #[.agg cs0.toArray, .agg cs1.toArray] w (RetW (.bool true) w) := by
  obtain ⟨a0_0, c0_0, a0_1, c0_1, rfl, f0_0, g0_0, f0_1, g0_1⟩ := shape_Store h0
  obtain ⟨a1_0, c1_0, a1_1, c1_1, rfl, f1_0, g1_0, f1_1, g1_1⟩ := shape_Store h1
  have BH0 := Lib.hid (chainX w (lay w (.cells #[.slice a0_0 d0.live.length c0_0, .slice a0_1 d0.kept.length c0_1] 46)) (lay _ (.cells #[.slice a1_0 d1.live.length c1_0, .slice a1_1 d1.kept.length c1_1] 46)))
  have Q0 := (BxN.new w #[.slice a0_0 d0.live.length c0_0, .slice a0_1 d0.kept.length c0_1] 46).later (lay _ (.cells #[.slice a1_0 d1.live.length c1_0, .slice a1_1 d1.kept.length c1_1] 46))
  have XH0_0 := Lib.hid Q0
  clear Q0
  have Q1 := BxN.new (w.alloc (.cells #[.slice a0_0 d0.live.length c0_0, .slice a0_1 d0.kept.length c0_1] 46)) #[.slice a1_0 d1.live.length c1_0, .slice a1_1 d1.kept.length c1_1] 46
  simp only [World.size_alloc] at Q1
  have XH1_0 := Lib.hid Q1
  clear Q1
  have SZ0 := Lib.hid (fun (lf : Int) (p0 : 0 ≤ lf) (p1 : lf ≤ 2097152) w' (b : Below w.heap.size w w') => szStore d0 lf p0 p1 w' (mk_Store (d := d0) (a0 := a0_0) (c0 := c0_0) (a1 := a0_1) (c1 := c0_1) (f0_0.below b) g0_0 (f0_1.below b) g0_1))
  have CP0 := Lib.hid (fun (z : Rdb.sz d0 ≤ 2097152) w' (b : Below w.heap.size w w') => toStore d0 w' z (mk_Store (d := d0) (a0 := a0_0) (c0 := c0_0) (a1 := a0_1) (c1 := c0_1) (f0_0.below b) g0_0 (f0_1.below b) g0_1))
  have EQ0 := Lib.hid (fun (z : Rdb.sz d0 ≤ 2097152) (cs ds : List Value) w' (k1 : Rdb.rd true 0 w' cs d0) (k2 : Rdb.rd true 0 w' ds d0) => eqStore d0 w' z k1 k2)
  have SZ1 := Lib.hid (fun (lf : Int) (p0 : 0 ≤ lf) (p1 : lf ≤ 2097152) w' (b : Below w.heap.size w w') => szStore d1 lf p0 p1 w' (mk_Store (d := d1) (a0 := a1_0) (c0 := c1_0) (a1 := a1_1) (c1 := c1_1) (f1_0.below b) g1_0 (f1_1.below b) g1_1))
  have CP1 := Lib.hid (fun (z : Rdb.sz d1 ≤ 2097152) w' (b : Below w.heap.size w w') => toStore d1 w' z (mk_Store (d := d1) (a0 := a1_0) (c0 := c1_0) (a1 := a1_1) (c1 := c1_1) (f1_0.below b) g1_0 (f1_1.below b) g1_1))
  have EQ1 := Lib.hid (fun (z : Rdb.sz d1 ≤ 2097152) (cs ds : List Value) w' (k1 : Rdb.rd true 0 w' cs d1) (k2 : Rdb.rd true 0 w' ds d1) => eqStore d1 w' z k1 k2)
  have HS := Lib.hid hS
  have HI := Lib.hid hI
  clear hS hI
  clear f0_0 f0_1 f1_0 f1_1
  generalize hs0 : Rdb.sz d0 = s0 at *
  clear hs0
  generalize hs1 : Rdb.sz d1 = s1 at *
  clear hs1
  by_cases q0 : (s0 : Int) ≤ 1048576
  · skip
    by_cases q1 : (s0 : Int) + (s1 : Int) ≤ 1048576
    · skip
      go_enter Try.func5, Try.ntmps5
      have V0 := SZ0.out (1048576) (by omega) (by omega) _ BH0.out
      unfold SzB at V0
      rw [show szI (1048576) s0 = 1048576 - (s0 : Int) from szI_yes (by omega)] at V0
      have VH0 := Lib.hid V0
      clear V0
      go_wp2_with fail
      refine (VH0.out).mono ?_
      rintro e w1 ⟨rfl, b1⟩
      have Q := XH0_0.out.later b1
      have cXH0_1 := Rd.c2 Q
      have XH0_1 := Lib.hid Q
      clear Q
      have Q := XH1_0.out.later b1
      have cXH1_1 := Rd.c2 Q
      have XH1_1 := Lib.hid Q
      clear Q
      have BH1 := Lib.hid (chainX w BH0.out b1)
      clear XH0_0 XH1_0
      have V1 := SZ1.out (1048576 - (s0 : Int)) (by omega) (by omega) _ BH1.out
      unfold SzB at V1
      rw [show szI (1048576 - (s0 : Int)) s1 = 1048576 - (s0 : Int) - (s1 : Int) from szI_yes (by omega)] at V1
      have VH1 := Lib.hid V1
      clear V1
      go_wp2_with fail
      refine (VH1.out).mono ?_
      rintro e w2 ⟨rfl, b2⟩
      have Q := XH0_1.out.later b2
      have cXH0_2 := Rd.c2 Q
      have XH0_2 := Lib.hid Q
      clear Q
      have Q := XH1_1.out.later b2
      have cXH1_2 := Rd.c2 Q
      have XH1_2 := Lib.hid Q
      clear Q
      have BH2 := Lib.hid (chainX w BH1.out b2)
      clear XH0_1 XH1_1 cXH0_1 cXH1_1
      have CPx := True.intro
      have MK0 := Lib.hid (Nat.le_refl 0)
      have MK1 := Lib.hid (Nat.le_refl 1)
      go_wp2_with fail
      go_region_held3 (fun w' => w'.cell? ⟨w.heap.size, 0, none⟩ = some (.slice a0_0 d0.live.length c0_0) ∧ w'.cell? ⟨w.heap.size, 1, none⟩ = some (.slice a0_1 d0.kept.length c0_1) ∧ w'.cell? ⟨w.heap.size + 1, 0, none⟩ = some (.slice a1_0 d1.live.length c1_0) ∧ w'.cell? ⟨w.heap.size + 1, 1, none⟩ = some (.slice a1_1 d1.kept.length c1_1)) (go_keep)
        (first
          | (clear MK0; go_at_call 25; refine (CP0.out (by omega) _ BH2.out.drew).mono ?_; rintro e w3 ⟨ess0, rfl, rs0, b3⟩; have b3 := undrewX b3; have Q := XH0_2.out.later b3; have cXH0_3 := Rd.c2 Q; have XH0_3 := Lib.hid Q; clear Q; have Q := XH1_2.out.later b3; have cXH1_3 := Rd.c2 Q; have XH1_3 := Lib.hid Q; clear Q; have BH3 := Lib.hid (chainX w BH2.out b3); clear b3; have RRs0_3 := Lib.hid (Rdb.weak rs0 (Nat.zero_le _) id); obtain ⟨avs0_0, cvs0_0, avs0_1, cvs0_1, rfl, fvs0_0, gvs0_0, fvs0_1, gvs0_1⟩ := shape_Store rs0; clear rs0 fvs0_0 fvs0_1)
          | (clear MK1; go_at_call 25; refine (CP1.out (by omega) _ BH3.out).mono ?_; rintro e w4 ⟨ess1, rfl, rs1, b4⟩; have Q := XH0_3.out.later b4; have cXH0_4 := Rd.c2 Q; have XH0_4 := Lib.hid Q; clear Q; have Q := XH1_3.out.later b4; have cXH1_4 := Rd.c2 Q; have XH1_4 := Lib.hid Q; clear Q; have RRs0_4 := Lib.hid (Rdb.below RRs0_3.out b4); have BH4 := Lib.hid (chainX w BH3.out b4); clear b4; have RRs1_4 := Lib.hid (Rdb.weak rs1 (Nat.zero_le _) id); obtain ⟨avs1_0, cvs1_0, avs1_1, cvs1_1, rfl, fvs1_0, gvs1_0, fvs1_1, gvs1_1⟩ := shape_Store rs1; clear rs1 fvs1_0 fvs1_1)
          | (go_at_call 24; refine (HS.out (by omega) (by omega) ([.slice avs0_0 d0.live.length cvs0_0, .slice avs0_1 d0.kept.length cvs0_1]) ([.slice avs1_0 d1.live.length cvs1_0, .slice avs1_1 d1.kept.length cvs1_1]) _ RRs0_4.out RRs1_4.out).mono ?_; rintro e w5 ⟨rfl, b5⟩; have Q := XH0_4.out.later b5; have cXH0_5 := Rd.c2 Q; have XH0_5 := Lib.hid Q; clear Q; have Q := XH1_4.out.later b5; have cXH1_5 := Rd.c2 Q; have XH1_5 := Lib.hid Q; clear Q; have RRs0_5 := Lib.hid (Rdb.below RRs0_4.out b5); have RRs1_5 := Lib.hid (Rdb.below RRs1_4.out b5); have BH5 := Lib.hid (chainX w BH4.out b5); clear b5))
      go_wp2_with fail
      refine (CP0.out (by omega) _ BH5.out).mono ?_
      rintro e w6 ⟨esi0, rfl, ri0, b6⟩
      have Q := XH0_5.out.later b6
      have cXH0_6 := Rd.c2 Q
      have XH0_6 := Lib.hid Q
      clear Q
      have Q := XH1_5.out.later b6
      have cXH1_6 := Rd.c2 Q
      have XH1_6 := Lib.hid Q
      clear Q
      have BH6 := Lib.hid (chainX w BH5.out b6)
      clear XH0_5 XH1_5 cXH0_5 cXH1_5
      have RRi0_6 := Lib.hid (Rdb.weak ri0 (Nat.zero_le _) id)
      obtain ⟨avi0_0, cvi0_0, avi0_1, cvi0_1, rfl, fvi0_0, gvi0_0, fvi0_1, gvi0_1⟩ := shape_Store ri0
      clear ri0 fvi0_0 fvi0_1
      have LY := lay w6 (.cells #[.slice avi0_0 d0.live.length cvi0_0, .slice avi0_1 d0.kept.length cvi0_1] 51)
      have YN := BxN.new w6 #[.slice avi0_0 d0.live.length cvi0_0, .slice avi0_1 d0.kept.length cvi0_1] 51
      have Q := XH0_6.out.later LY
      have cXH0_7 := Rd.c2 Q
      have XH0_7 := Lib.hid Q
      clear Q
      have Q := XH1_6.out.later LY
      have cXH1_7 := Rd.c2 Q
      have XH1_7 := Lib.hid Q
      clear Q
      have RRi0_7 := Lib.hid (Rdb.below RRi0_6.out LY)
      have cYH0_7 := Rd.c2 YN
      have YH0_7 := Lib.hid YN
      have BH7 := Lib.hid (chainX w BH6.out LY)
      clear XH0_6 XH1_6 cXH0_6 cXH1_6 RRi0_6
      clear LY YN
      go_wp2_with fail
      refine (CP1.out (by omega) _ BH7.out).mono ?_
      rintro e w8 ⟨esi1, rfl, ri1, b8⟩
      have Q := XH0_7.out.later b8
      have cXH0_8 := Rd.c2 Q
      have XH0_8 := Lib.hid Q
      clear Q
      have Q := XH1_7.out.later b8
      have cXH1_8 := Rd.c2 Q
      have XH1_8 := Lib.hid Q
      clear Q
      have Q := YH0_7.out.later b8
      have cYH0_8 := Rd.c2 Q
      have YH0_8 := Lib.hid Q
      clear Q
      have RRi0_8 := Lib.hid (Rdb.below RRi0_7.out b8)
      have BH8 := Lib.hid (chainX w BH7.out b8)
      clear XH0_7 XH1_7 YH0_7 cXH0_7 cXH1_7 cYH0_7 RRi0_7
      have RRi1_8 := Lib.hid (Rdb.weak ri1 (Nat.zero_le _) id)
      obtain ⟨avi1_0, cvi1_0, avi1_1, cvi1_1, rfl, fvi1_0, gvi1_0, fvi1_1, gvi1_1⟩ := shape_Store ri1
      clear ri1 fvi1_0 fvi1_1
      have LY := lay w8 (.cells #[.slice avi1_0 d1.live.length cvi1_0, .slice avi1_1 d1.kept.length cvi1_1] 51)
      have YN := BxN.new w8 #[.slice avi1_0 d1.live.length cvi1_0, .slice avi1_1 d1.kept.length cvi1_1] 51
      have Q := XH0_8.out.later LY
      have cXH0_9 := Rd.c2 Q
      have XH0_9 := Lib.hid Q
      clear Q
      have Q := XH1_8.out.later LY
      have cXH1_9 := Rd.c2 Q
      have XH1_9 := Lib.hid Q
      clear Q
      have Q := YH0_8.out.later LY
      have cYH0_9 := Rd.c2 Q
      have YH0_9 := Lib.hid Q
      clear Q
      have RRi0_9 := Lib.hid (Rdb.below RRi0_8.out LY)
      have RRi1_9 := Lib.hid (Rdb.below RRi1_8.out LY)
      have cYH1_9 := Rd.c2 YN
      have YH1_9 := Lib.hid YN
      have BH9 := Lib.hid (chainX w BH8.out LY)
      clear XH0_8 XH1_8 YH0_8 cXH0_8 cXH1_8 cYH0_8 RRi0_8 RRi1_8
      clear LY YN
      have ANS := Lib.hid (HI.out (by omega) (by omega) ([.slice avi0_0 d0.live.length cvi0_0, .slice avi0_1 d0.kept.length cvi0_1]) ([.slice avi1_0 d1.live.length cvi1_0, .slice avi1_1 d1.kept.length cvi1_1]) _ RRi0_9.out RRi1_9.out)
      go_wp2_with fail
      refine (ANS.out).mono ?_
      rintro e w10 ⟨rfl, b10⟩
      have Q := XH0_9.out.later b10
      have cXH0_10 := Rd.c2 Q
      have XH0_10 := Lib.hid Q
      clear Q
      have Q := XH1_9.out.later b10
      have cXH1_10 := Rd.c2 Q
      have XH1_10 := Lib.hid Q
      clear Q
      have Q := YH0_9.out.later b10
      have cYH0_10 := Rd.c2 Q
      have YH0_10 := Lib.hid Q
      clear Q
      have Q := YH1_9.out.later b10
      have cYH1_10 := Rd.c2 Q
      have YH1_10 := Lib.hid Q
      clear Q
      have RRi0_10 := Lib.hid (Rdb.below RRi0_9.out b10)
      have RRi1_10 := Lib.hid (Rdb.below RRi1_9.out b10)
      have BH10 := Lib.hid (chainX w BH9.out b10)
      clear XH0_9 XH1_9 YH0_9 YH1_9 cXH0_9 cXH1_9 cYH0_9 cYH1_9 RRi0_9 RRi1_9
      clear ANS
      go_wp2_with fail
      go_region_held3 (fun w' => w'.cell? ⟨w.heap.size, 0, none⟩ = some (.slice a0_0 d0.live.length c0_0) ∧ w'.cell? ⟨w.heap.size, 1, none⟩ = some (.slice a0_1 d0.kept.length c0_1) ∧ w'.cell? ⟨w.heap.size + 1, 0, none⟩ = some (.slice a1_0 d1.live.length c1_0) ∧ w'.cell? ⟨w.heap.size + 1, 1, none⟩ = some (.slice a1_1 d1.kept.length c1_1) ∧ w'.cell? ⟨w6.heap.size, 0, none⟩ = some (.slice avi0_0 d0.live.length cvi0_0) ∧ w'.cell? ⟨w6.heap.size, 1, none⟩ = some (.slice avi0_1 d0.kept.length cvi0_1) ∧ w'.cell? ⟨w8.heap.size, 0, none⟩ = some (.slice avi1_0 d1.live.length cvi1_0) ∧ w'.cell? ⟨w8.heap.size, 1, none⟩ = some (.slice avi1_1 d1.kept.length cvi1_1)) (go_keep)
        (first
          | (go_at_call 25; refine (CP0.out (by omega) _ BH10.out.drew).mono ?_; rintro e w11 ⟨ese0, rfl, re0, b11⟩; have b11 := undrewX b11; have Q := XH0_10.out.later b11; have cXH0_11 := Rd.c2 Q; have XH0_11 := Lib.hid Q; clear Q; have Q := XH1_10.out.later b11; have cXH1_11 := Rd.c2 Q; have XH1_11 := Lib.hid Q; clear Q; have Q := YH0_10.out.later b11; have cYH0_11 := Rd.c2 Q; have YH0_11 := Lib.hid Q; clear Q; have Q := YH1_10.out.later b11; have cYH1_11 := Rd.c2 Q; have YH1_11 := Lib.hid Q; clear Q; have RRi0_11 := Lib.hid (Rdb.below RRi0_10.out b11); have RRi1_11 := Lib.hid (Rdb.below RRi1_10.out b11); have BH11 := Lib.hid (chainX w BH10.out b11); clear b11; have RRe0_11 := Lib.hid (Rdb.weak re0 (Nat.zero_le _) id); obtain ⟨ave0_0, cve0_0, ave0_1, cve0_1, rfl, fve0_0, gve0_0, fve0_1, gve0_1⟩ := shape_Store re0; clear re0 fve0_0 fve0_1)
          | (go_at_call 27; refine (EQ0.out (by omega) ([.slice avi0_0 d0.live.length cvi0_0, .slice avi0_1 d0.kept.length cvi0_1]) ([.slice ave0_0 d0.live.length cve0_0, .slice ave0_1 d0.kept.length cve0_1]) _ RRi0_11.out RRe0_11.out).mono ?_; rintro e w12 ⟨rfl, b12⟩; have Q := XH0_11.out.later b12; have cXH0_12 := Rd.c2 Q; have XH0_12 := Lib.hid Q; clear Q; have Q := XH1_11.out.later b12; have cXH1_12 := Rd.c2 Q; have XH1_12 := Lib.hid Q; clear Q; have Q := YH0_11.out.later b12; have cYH0_12 := Rd.c2 Q; have YH0_12 := Lib.hid Q; clear Q; have Q := YH1_11.out.later b12; have cYH1_12 := Rd.c2 Q; have YH1_12 := Lib.hid Q; clear Q; have RRi0_12 := Lib.hid (Rdb.below RRi0_11.out b12); have RRi1_12 := Lib.hid (Rdb.below RRi1_11.out b12); have RRe0_12 := Lib.hid (Rdb.below RRe0_11.out b12); have BH12 := Lib.hid (chainX w BH11.out b12); clear b12))
      go_wp2_with fail
      go_region_held3 (fun w' => w'.cell? ⟨w.heap.size, 0, none⟩ = some (.slice a0_0 d0.live.length c0_0) ∧ w'.cell? ⟨w.heap.size, 1, none⟩ = some (.slice a0_1 d0.kept.length c0_1) ∧ w'.cell? ⟨w.heap.size + 1, 0, none⟩ = some (.slice a1_0 d1.live.length c1_0) ∧ w'.cell? ⟨w.heap.size + 1, 1, none⟩ = some (.slice a1_1 d1.kept.length c1_1) ∧ w'.cell? ⟨w6.heap.size, 0, none⟩ = some (.slice avi0_0 d0.live.length cvi0_0) ∧ w'.cell? ⟨w6.heap.size, 1, none⟩ = some (.slice avi0_1 d0.kept.length cvi0_1) ∧ w'.cell? ⟨w8.heap.size, 0, none⟩ = some (.slice avi1_0 d1.live.length cvi1_0) ∧ w'.cell? ⟨w8.heap.size, 1, none⟩ = some (.slice avi1_1 d1.kept.length cvi1_1)) (go_keep)
        (first
          | (go_at_call 25; refine (CP1.out (by omega) _ BH12.out.drew).mono ?_; rintro e w13 ⟨ese1, rfl, re1, b13⟩; have b13 := undrewX b13; have Q := XH0_12.out.later b13; have cXH0_13 := Rd.c2 Q; have XH0_13 := Lib.hid Q; clear Q; have Q := XH1_12.out.later b13; have cXH1_13 := Rd.c2 Q; have XH1_13 := Lib.hid Q; clear Q; have Q := YH0_12.out.later b13; have cYH0_13 := Rd.c2 Q; have YH0_13 := Lib.hid Q; clear Q; have Q := YH1_12.out.later b13; have cYH1_13 := Rd.c2 Q; have YH1_13 := Lib.hid Q; clear Q; have RRi0_13 := Lib.hid (Rdb.below RRi0_12.out b13); have RRi1_13 := Lib.hid (Rdb.below RRi1_12.out b13); have BH13 := Lib.hid (chainX w BH12.out b13); clear b13; have RRe1_13 := Lib.hid (Rdb.weak re1 (Nat.zero_le _) id); obtain ⟨ave1_0, cve1_0, ave1_1, cve1_1, rfl, fve1_0, gve1_0, fve1_1, gve1_1⟩ := shape_Store re1; clear re1 fve1_0 fve1_1)
          | (go_at_call 27; refine (EQ1.out (by omega) ([.slice avi1_0 d1.live.length cvi1_0, .slice avi1_1 d1.kept.length cvi1_1]) ([.slice ave1_0 d1.live.length cve1_0, .slice ave1_1 d1.kept.length cve1_1]) _ RRi1_13.out RRe1_13.out).mono ?_; rintro e w14 ⟨rfl, b14⟩; have Q := XH0_13.out.later b14; have cXH0_14 := Rd.c2 Q; have XH0_14 := Lib.hid Q; clear Q; have Q := XH1_13.out.later b14; have cXH1_14 := Rd.c2 Q; have XH1_14 := Lib.hid Q; clear Q; have Q := YH0_13.out.later b14; have cYH0_14 := Rd.c2 Q; have YH0_14 := Lib.hid Q; clear Q; have Q := YH1_13.out.later b14; have cYH1_14 := Rd.c2 Q; have YH1_14 := Lib.hid Q; clear Q; have RRi0_14 := Lib.hid (Rdb.below RRi0_13.out b14); have RRi1_14 := Lib.hid (Rdb.below RRi1_13.out b14); have RRe1_14 := Lib.hid (Rdb.below RRe1_13.out b14); have BH14 := Lib.hid (chainX w BH13.out b14); clear b14))
      all_goals
        go_wp2
        go_ret
        exact ⟨rfl, BH14.out⟩
    · skip
      go_enter Try.func5, Try.ntmps5
      have V0 := SZ0.out (1048576) (by omega) (by omega) _ BH0.out
      unfold SzB at V0
      rw [show szI (1048576) s0 = 1048576 - (s0 : Int) from szI_yes (by omega)] at V0
      have VH0 := Lib.hid V0
      clear V0
      go_wp2_with fail
      refine (VH0.out).mono ?_
      rintro e w1 ⟨rfl, b1⟩
      have Q := XH0_0.out.later b1
      have cXH0_1 := Rd.c2 Q
      have XH0_1 := Lib.hid Q
      clear Q
      have Q := XH1_0.out.later b1
      have cXH1_1 := Rd.c2 Q
      have XH1_1 := Lib.hid Q
      clear Q
      have BH1 := Lib.hid (chainX w BH0.out b1)
      clear XH0_0 XH1_0
      have V1 := SZ1.out (1048576 - (s0 : Int)) (by omega) (by omega) _ BH1.out
      unfold SzB at V1
      rw [show szI (1048576 - (s0 : Int)) s1 = -1 from szI_no (by omega)] at V1
      have VH1 := Lib.hid V1
      clear V1
      go_wp2_with fail
      refine (VH1.out).mono ?_
      rintro e w2 ⟨rfl, b2⟩
      have Q := XH0_1.out.later b2
      have cXH0_2 := Rd.c2 Q
      have XH0_2 := Lib.hid Q
      clear Q
      have Q := XH1_1.out.later b2
      have cXH1_2 := Rd.c2 Q
      have XH1_2 := Lib.hid Q
      clear Q
      have BH2 := Lib.hid (chainX w BH1.out b2)
      clear XH0_1 XH1_1 cXH0_1 cXH1_1
      go_wp2
      go_ret
      exact ⟨rfl, BH2.out⟩
  · skip
    go_enter Try.func5, Try.ntmps5
    have V0 := SZ0.out (1048576) (by omega) (by omega) _ BH0.out
    unfold SzB at V0
    rw [show szI (1048576) s0 = -1 from szI_no (by omega)] at V0
    have VH0 := Lib.hid V0
    clear V0
    go_wp2_with fail
    refine (VH0.out).mono ?_
    rintro e w1 ⟨rfl, b1⟩
    have Q := XH0_0.out.later b1
    have cXH0_1 := Rd.c2 Q
    have XH0_1 := Lib.hid Q
    clear Q
    have Q := XH1_0.out.later b1
    have cXH1_1 := Rd.c2 Q
    have XH1_1 := Lib.hid Q
    clear Q
    have BH1 := Lib.hid (chainX w BH0.out b1)
    clear XH0_0 XH1_0
    go_wp2
    go_ret
    exact ⟨rfl, BH1.out⟩
end Go.Proofs.Ytbnjgehgaellmaa.Rd
