/-
  The exact law of FnExactStoreOk, given the model's answer and the program's (written by tools/gen/lawgen.py).
-/
import Derived.Test.YtbckdfoapmjilaaGreatDoorDStore
import Derived.Deep.RegionHeld3
namespace Go.Proofs.YtbckdfoapmjilaaGreatDoor.Rd
open Go.RowKit Go.ChangeShapes Go.WideShapes
open Go.Proofs.YtbckdfoapmjilaaGreatDoor.Sg (BxN)
set_option linter.unusedVariables false
set_option linter.unusedSimpArgs false

set_option maxRecDepth 100000 in
set_option maxHeartbeats 4000000 in
theorem fnFnExactStoreOk {cs0 : List Value} (d0 : DStore) (b : Bool) (w : World) (h0 : Rdb.rd false 0 w cs0 d0) (hS : Rdb.sz d0 ≤ 1048576 → ∀ (es0 : List Value) w' (bw : Below w.heap.size w w') (k0 : Rdb.rd true 0 w' es0 d0), Calls Tryz.prog 20 #[.agg es0.toArray] w' (RetW (.bool b) w')) (hI : Rdb.sz d0 ≤ 1048576 → ∀ (es0 : List Value) w' (bw : Below w.heap.size w w') (k0 : Rdb.rd true 0 w' es0 d0), Calls Tryz.prog 22 #[.agg es0.toArray] w' (RetW (.bool b) w')) :
    Calls Tryz.prog 6 #[.agg cs0.toArray] w (RetW (.bool true) w) := by
  obtain ⟨a0_0, c0_0, a0_1, c0_1, rfl, f0_0, g0_0, f0_1, g0_1⟩ := shape_Store h0
  have BH0 := Lib.hid (lay w (.cells #[.slice a0_0 d0.live.length c0_0, .slice a0_1 d0.kept.length c0_1] 56))
  have Q0 := BxN.new w #[.slice a0_0 d0.live.length c0_0, .slice a0_1 d0.kept.length c0_1] 56
  have XH0_0 := Lib.hid Q0
  clear Q0
  have SZ0 := Lib.hid (fun (lf : Int) (p0 : 0 ≤ lf) (p1 : lf ≤ 2097152) w' (b : Below w.heap.size w w') => szStore d0 lf p0 p1 w' (mk_Store (d := d0) (a0 := a0_0) (c0 := c0_0) (a1 := a0_1) (c1 := c0_1) (f0_0.below b) g0_0 (f0_1.below b) g0_1))
  have CP0 := Lib.hid (fun (z : Rdb.sz d0 ≤ 2097152) w' (b : Below w.heap.size w w') => toStore d0 w' z (mk_Store (d := d0) (a0 := a0_0) (c0 := c0_0) (a1 := a0_1) (c1 := c0_1) (f0_0.below b) g0_0 (f0_1.below b) g0_1))
  have EQ0 := Lib.hid (fun (z : Rdb.sz d0 ≤ 2097152) (cs ds : List Value) w' (k1 : Rdb.rd true 0 w' cs d0) (k2 : Rdb.rd true 0 w' ds d0) => eqStore d0 w' z k1 k2)
  have HS := Lib.hid hS
  have HI := Lib.hid hI
  clear hS hI
  clear f0_0 f0_1
  generalize hs0 : Rdb.sz d0 = s0 at *
  clear hs0
  by_cases q0 : (s0 : Int) ≤ 1048576
  · skip
    go_enter Tryz.func6, Tryz.ntmps6
    have V0 := SZ0.out (1048576) (by omega) (by omega) _ BH0.out
    unfold SzB at V0
    rw [show szI (1048576) s0 = 1048576 - (s0 : Int) from szI_yes (by omega)] at V0
    have VH0 := Lib.hid V0
    clear V0
    go_wp2_with fail
    refine (VH0.out).mono ?_
    rintro e w1 ⟨rfl, b1⟩
    have Q := XH0_0.out.later b1
    have cXH0_1_0 := Q.cells 0 _ rfl
    have cXH0_1_1 := Q.cells 1 _ rfl
    have XH0_1 := Lib.hid Q
    clear Q
    have BH1 := Lib.hid (chainX w BH0.out b1)
    clear XH0_0
    have CPx := True.intro
    go_wp2_with fail
    refine (CP0.out (by omega) _ BH1.out).mono ?_
    rintro e w2 ⟨ess0, rfl, rs0, b2⟩
    have Q := XH0_1.out.later b2
    have cXH0_2_0 := Q.cells 0 _ rfl
    have cXH0_2_1 := Q.cells 1 _ rfl
    have XH0_2 := Lib.hid Q
    clear Q
    have BH2 := Lib.hid (chainX w BH1.out b2)
    clear XH0_1 cXH0_1_0 cXH0_1_1
    have RRs0_2 := Lib.hid (Rdb.weak rs0 (Nat.zero_le _) id)
    obtain ⟨avs0_0, cvs0_0, avs0_1, cvs0_1, rfl, fvs0_0, gvs0_0, fvs0_1, gvs0_1⟩ := shape_Store rs0
    clear rs0 fvs0_0 fvs0_1
    have ANS := Lib.hid (HS.out (by omega) ([.slice avs0_0 d0.live.length cvs0_0, .slice avs0_1 d0.kept.length cvs0_1]) _ BH2.out RRs0_2.out)
    go_wp2_with fail
    refine (ANS.out).mono ?_
    rintro e w3 ⟨rfl, b3⟩
    have Q := XH0_2.out.later b3
    have cXH0_3_0 := Q.cells 0 _ rfl
    have cXH0_3_1 := Q.cells 1 _ rfl
    have XH0_3 := Lib.hid Q
    clear Q
    have RRs0_3 := Lib.hid (Rdb.below RRs0_2.out b3)
    have BH3 := Lib.hid (chainX w BH2.out b3)
    clear XH0_2 cXH0_2_0 cXH0_2_1 RRs0_2
    clear ANS
    go_wp2_with fail
    refine (CP0.out (by omega) _ BH3.out).mono ?_
    rintro e w4 ⟨esi0, rfl, ri0, b4⟩
    have Q := XH0_3.out.later b4
    have cXH0_4_0 := Q.cells 0 _ rfl
    have cXH0_4_1 := Q.cells 1 _ rfl
    have XH0_4 := Lib.hid Q
    clear Q
    have BH4 := Lib.hid (chainX w BH3.out b4)
    clear XH0_3 cXH0_3_0 cXH0_3_1
    have RRi0_4 := Lib.hid (Rdb.weak ri0 (Nat.zero_le _) id)
    obtain ⟨avi0_0, cvi0_0, avi0_1, cvi0_1, rfl, fvi0_0, gvi0_0, fvi0_1, gvi0_1⟩ := shape_Store ri0
    clear ri0 fvi0_0 fvi0_1
    have LY := lay w4 (.cells #[.slice avi0_0 d0.live.length cvi0_0, .slice avi0_1 d0.kept.length cvi0_1] 61)
    have YN := BxN.new w4 #[.slice avi0_0 d0.live.length cvi0_0, .slice avi0_1 d0.kept.length cvi0_1] 61
    have Q := XH0_4.out.later LY
    have cXH0_5_0 := Q.cells 0 _ rfl
    have cXH0_5_1 := Q.cells 1 _ rfl
    have XH0_5 := Lib.hid Q
    clear Q
    have RRi0_5 := Lib.hid (Rdb.below RRi0_4.out LY)
    have cYH0_5_0 := YN.cells 0 _ rfl
    have cYH0_5_1 := YN.cells 1 _ rfl
    have YH0_5 := Lib.hid YN
    have BH5 := Lib.hid (chainX w BH4.out LY)
    clear XH0_4 cXH0_4_0 cXH0_4_1 RRi0_4
    clear LY YN
    have ANS := Lib.hid (HI.out (by omega) ([.slice avi0_0 d0.live.length cvi0_0, .slice avi0_1 d0.kept.length cvi0_1]) _ BH5.out RRi0_5.out)
    go_wp2_with fail
    refine (ANS.out).mono ?_
    rintro e w6 ⟨rfl, b6⟩
    have Q := XH0_5.out.later b6
    have cXH0_6_0 := Q.cells 0 _ rfl
    have cXH0_6_1 := Q.cells 1 _ rfl
    have XH0_6 := Lib.hid Q
    clear Q
    have Q := YH0_5.out.later b6
    have cYH0_6_0 := Q.cells 0 _ rfl
    have cYH0_6_1 := Q.cells 1 _ rfl
    have YH0_6 := Lib.hid Q
    clear Q
    have RRi0_6 := Lib.hid (Rdb.below RRi0_5.out b6)
    have BH6 := Lib.hid (chainX w BH5.out b6)
    clear XH0_5 YH0_5 cXH0_5_0 cXH0_5_1 cYH0_5_0 cYH0_5_1 RRi0_5
    clear ANS
    go_wp2_with fail
    go_region_held3 (fun w' => w'.cell? ⟨w.heap.size, 0, none⟩ = some (.slice a0_0 d0.live.length c0_0) ∧ w'.cell? ⟨w.heap.size, 1, none⟩ = some (.slice a0_1 d0.kept.length c0_1) ∧ w'.cell? ⟨w4.heap.size, 0, none⟩ = some (.slice avi0_0 d0.live.length cvi0_0) ∧ w'.cell? ⟨w4.heap.size, 1, none⟩ = some (.slice avi0_1 d0.kept.length cvi0_1)) (go_keep)
      (first
        | (go_at_call 21; refine (CP0.out (by omega) _ BH6.out.drew).mono ?_; rintro e w7 ⟨ese0, rfl, re0, b7⟩; have b7 := undrewX b7; have Q := XH0_6.out.later b7; have cXH0_7_0 := Q.cells 0 _ rfl; have cXH0_7_1 := Q.cells 1 _ rfl; have XH0_7 := Lib.hid Q; clear Q; have Q := YH0_6.out.later b7; have cYH0_7_0 := Q.cells 0 _ rfl; have cYH0_7_1 := Q.cells 1 _ rfl; have YH0_7 := Lib.hid Q; clear Q; have RRi0_7 := Lib.hid (Rdb.below RRi0_6.out b7); have BH7 := Lib.hid (chainX w BH6.out b7); clear b7; have RRe0_7 := Lib.hid (Rdb.weak re0 (Nat.zero_le _) id); obtain ⟨ave0_0, cve0_0, ave0_1, cve0_1, rfl, fve0_0, gve0_0, fve0_1, gve0_1⟩ := shape_Store re0; clear re0 fve0_0 fve0_1)
        | (go_at_call 23; refine (EQ0.out (by omega) ([.slice avi0_0 d0.live.length cvi0_0, .slice avi0_1 d0.kept.length cvi0_1]) ([.slice ave0_0 d0.live.length cve0_0, .slice ave0_1 d0.kept.length cve0_1]) _ RRi0_7.out RRe0_7.out).mono ?_; rintro e w8 ⟨rfl, b8⟩; have Q := XH0_7.out.later b8; have cXH0_8_0 := Q.cells 0 _ rfl; have cXH0_8_1 := Q.cells 1 _ rfl; have XH0_8 := Lib.hid Q; clear Q; have Q := YH0_7.out.later b8; have cYH0_8_0 := Q.cells 0 _ rfl; have cYH0_8_1 := Q.cells 1 _ rfl; have YH0_8 := Lib.hid Q; clear Q; have RRi0_8 := Lib.hid (Rdb.below RRi0_7.out b8); have RRe0_8 := Lib.hid (Rdb.below RRe0_7.out b8); have BH8 := Lib.hid (chainX w BH7.out b8); clear b8))
    all_goals
      go_wp2
      go_ret
      exact ⟨rfl, BH8.out⟩
  · skip
    go_enter Tryz.func6, Tryz.ntmps6
    have V0 := SZ0.out (1048576) (by omega) (by omega) _ BH0.out
    unfold SzB at V0
    rw [show szI (1048576) s0 = -1 from szI_no (by omega)] at V0
    have VH0 := Lib.hid V0
    clear V0
    go_wp2_with fail
    refine (VH0.out).mono ?_
    rintro e w1 ⟨rfl, b1⟩
    have Q := XH0_0.out.later b1
    have cXH0_1_0 := Q.cells 0 _ rfl
    have cXH0_1_1 := Q.cells 1 _ rfl
    have XH0_1 := Lib.hid Q
    clear Q
    have BH1 := Lib.hid (chainX w BH0.out b1)
    clear XH0_0
    go_wp2
    go_ret
    exact ⟨rfl, BH1.out⟩
end Go.Proofs.YtbckdfoapmjilaaGreatDoor.Rd
