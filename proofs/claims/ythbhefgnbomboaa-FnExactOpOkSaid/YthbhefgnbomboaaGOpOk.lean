/-
  The exact law of FnExactOpOk, given the model's answer and the program's (written by tools/gen/plaw.py).
-/
import Derived.Test.YthbhefgnbomboaaDOp
import Derived.Test.YthbhefgnbomboaaDCode
import Derived.Deep.RegionHeld3
namespace Go.Proofs.Ythbhefgnbomboaa.Rd
open Go.RowKit Go.ChangeShapes Go.WideShapes
open Go.Proofs.Ythbhefgnbomboaa.Sg (BxN)
set_option linter.unusedVariables false
set_option linter.unusedSimpArgs false

set_option maxRecDepth 100000 in
set_option maxHeartbeats 4000000 in
theorem fnFnExactOpOk {cs0 : List Value} (d0 : DCode) {cs1 : List Value} (d1 : DOp) (b : Bool) (w : World) (h0 : Rdb.rd false 0 w cs0 d0) (h1 : Rdb.rd false 0 w cs1 d1) (hS : Rdb.sz d1 ≤ 1048576 → ∀ w', Below w.heap.size w w' → Calls Try.prog 14 #[.agg #[.int .i64 d0.k, .int .i64 d0.m], .agg #[.int .i64 d1.kind, .int .i64 d1.atF, .string d1.bytes]] w' (RetW (.bool b) w')) (hI : Rdb.sz d1 ≤ 1048576 → ∀ w', Below w.heap.size w w' → Calls Try.prog 17 #[.agg #[.int .i64 d0.k, .int .i64 d0.m], .agg #[.int .i64 d1.kind, .int .i64 d1.atF, .string d1.bytes]] w' (RetW (.bool b) w')) :
    Calls Try.prog 4 #[.agg cs0.toArray, .agg cs1.toArray] w (RetW (.bool true) w) := by
  obtain ⟨rfl, f0_0, f0_1⟩ := shape_Code h0
  obtain ⟨rfl, f1_0, f1_1, f1_2⟩ := shape_Op h1
  have BH := Lib.hid (chainX w (lay w (.cells #[.int .i64 d0.k, .int .i64 d0.m] 30)) (lay _ (.cells #[.int .i64 d1.kind, .int .i64 d1.atF, .string d1.bytes] 32)))
  have Q := (BxN.new w #[.int .i64 d0.k, .int .i64 d0.m] 30).later (lay _ (.cells #[.int .i64 d1.kind, .int .i64 d1.atF, .string d1.bytes] 32))
  have X0H := Lib.hid Q
  clear Q
  have Q := BxN.new (w.alloc (.cells #[.int .i64 d0.k, .int .i64 d0.m] 30)) #[.int .i64 d1.kind, .int .i64 d1.atF, .string d1.bytes] 32
  simp only [World.size_alloc] at Q
  have X1H := Lib.hid Q
  clear Q
  have CP0 := Lib.hid (fun (z : Rdb.sz d0 ≤ 2097152) w' => toCode (fr := true) (lo := 0) d0 w' z (mk_Code (d := d0) f0_0 f0_1))
  have SN0 : Rdb.sz d0 ≤ 2097152 := by show (0 : Nat) ≤ _; omega
  have SZ1 := Lib.hid (fun (lf : Int) (p0 : 0 ≤ lf) (p1 : lf ≤ 2097152) w' => szOp (fr := true) (lo := 0) d1 lf p0 p1 w' (mk_Op (d := d1) f1_0 f1_1 f1_2))
  have CP1 := Lib.hid (fun (z : Rdb.sz d1 ≤ 2097152) w' => toOp (fr := true) (lo := 0) d1 w' z (mk_Op (d := d1) f1_0 f1_1 f1_2))
  have HS := Lib.hid hS
  have HI := Lib.hid hI
  clear hS hI
  generalize hs1 : Rdb.sz d1 = s1 at *
  clear hs1
  by_cases q0 : (s1 : Int) ≤ 1048576
  rotate_left
  · skip
    go_enter Try.func4, Try.ntmps4
    have V := SZ1.out (1048576) (by omega) (by omega)
    unfold SzB at V
    rw [show szI (1048576) s1 = -1 from szI_no (by omega)] at V
    have VH := Lib.hid V
    clear V
    go_wp2_with fail
    refine (VH.out _).mono ?_
    rintro e w1 ⟨rfl, b1⟩
    have X0H := Lib.hid (X0H.out.later b1); have X1H := Lib.hid (X1H.out.later b1); have BH := Lib.hid (chainX w BH.out b1); clear b1 VH
    have c0_0 := X0H.out.cells 0 _ rfl
    have c0_1 := X0H.out.cells 1 _ rfl
    have c1_0 := X1H.out.cells 0 _ rfl
    have c1_1 := X1H.out.cells 1 _ rfl
    have c1_2 := X1H.out.cells 2 _ rfl
    go_wp2
    go_ret
    exact ⟨rfl, BH.out⟩
  go_enter Try.func4, Try.ntmps4
  have V := SZ1.out (1048576) (by omega) (by omega)
  unfold SzB at V
  rw [show szI (1048576) s1 = 1048576 - (s1 : Int) from szI_yes (by omega)] at V
  have VH := Lib.hid V
  clear V
  go_wp2_with fail
  refine (VH.out _).mono ?_
  rintro e w1 ⟨rfl, b1⟩
  have X0H := Lib.hid (X0H.out.later b1); have X1H := Lib.hid (X1H.out.later b1); have BH := Lib.hid (chainX w BH.out b1); clear b1 VH
  have c0_0 := X0H.out.cells 0 _ rfl
  have c0_1 := X0H.out.cells 1 _ rfl
  have c1_0 := X1H.out.cells 0 _ rfl
  have c1_1 := X1H.out.cells 1 _ rfl
  have c1_2 := X1H.out.cells 2 _ rfl
  go_wp2_with fail
  have tok0 := True.intro
  have tok1 := True.intro
  go_region_held3 (fun w' => w'.cell? ⟨w.heap.size, 0, none⟩ = some (.int .i64 d0.k) ∧ w'.cell? ⟨w.heap.size, 1, none⟩ = some (.int .i64 d0.m) ∧ w'.cell? ⟨w.heap.size + 1, 0, none⟩ = some (.int .i64 d1.kind) ∧ w'.cell? ⟨w.heap.size + 1, 1, none⟩ = some (.int .i64 d1.atF) ∧ w'.cell? ⟨w.heap.size + 1, 2, none⟩ = some (.string d1.bytes)) (go_keep)
    ((first
      | (go_at_call 15; clear tok0; refine (CP0.out (by omega) _).mono ?_; rintro e w2 ⟨cs2, rfl, r2, b2⟩; obtain ⟨rfl, -⟩ := shape_Code r2; clear r2; have b9 := b2; (try replace b9 := undrewX b9); have X0H := Lib.hid (X0H.out.later b9); have X1H := Lib.hid (X1H.out.later b9); have BH := Lib.hid (chainX w BH.out b9); clear b9 b2; have c0_0 := X0H.out.cells 0 _ rfl; have c0_1 := X0H.out.cells 1 _ rfl; have c1_0 := X1H.out.cells 0 _ rfl; have c1_1 := X1H.out.cells 1 _ rfl; have c1_2 := X1H.out.cells 2 _ rfl;)
      | (go_at_call 16; clear tok1; refine (CP1.out (by omega) _).mono ?_; rintro e w2 ⟨cs2, rfl, r2, b2⟩; obtain ⟨rfl, -⟩ := shape_Op r2; clear r2; have b9 := b2; (try replace b9 := undrewX b9); have X0H := Lib.hid (X0H.out.later b9); have X1H := Lib.hid (X1H.out.later b9); have BH := Lib.hid (chainX w BH.out b9); clear b9 b2; have c0_0 := X0H.out.cells 0 _ rfl; have c0_1 := X0H.out.cells 1 _ rfl; have c1_0 := X1H.out.cells 0 _ rfl; have c1_1 := X1H.out.cells 1 _ rfl; have c1_2 := X1H.out.cells 2 _ rfl;)
      | (go_at_call 14; refine (HS.out (by omega) _ (by first | exact BH.out | exact BH.out.drew)).mono ?_; rintro e w3 ⟨rfl, b3⟩; have b9 := b3; (try replace b9 := undrewX b9); have X0H := Lib.hid (X0H.out.later b9); have X1H := Lib.hid (X1H.out.later b9); have BH := Lib.hid (chainX w BH.out b9); clear b9 b3; have c0_0 := X0H.out.cells 0 _ rfl; have c0_1 := X0H.out.cells 1 _ rfl; have c1_0 := X1H.out.cells 0 _ rfl; have c1_1 := X1H.out.cells 1 _ rfl; have c1_2 := X1H.out.cells 2 _ rfl;)))
  all_goals
    go_wp2_with fail
    have tok0 := True.intro
    have tok1 := True.intro
    go_region_held3 (fun w' => w'.cell? ⟨w.heap.size, 0, none⟩ = some (.int .i64 d0.k) ∧ w'.cell? ⟨w.heap.size, 1, none⟩ = some (.int .i64 d0.m) ∧ w'.cell? ⟨w.heap.size + 1, 0, none⟩ = some (.int .i64 d1.kind) ∧ w'.cell? ⟨w.heap.size + 1, 1, none⟩ = some (.int .i64 d1.atF) ∧ w'.cell? ⟨w.heap.size + 1, 2, none⟩ = some (.string d1.bytes)) (go_keep)
      ((first
        | (go_at_call 15; clear tok0; refine (CP0.out (by omega) _).mono ?_; rintro e w2 ⟨cs2, rfl, r2, b2⟩; obtain ⟨rfl, -⟩ := shape_Code r2; clear r2; have b9 := b2; (try replace b9 := undrewX b9); have X0H := Lib.hid (X0H.out.later b9); have X1H := Lib.hid (X1H.out.later b9); have BH := Lib.hid (chainX w BH.out b9); clear b9 b2; have c0_0 := X0H.out.cells 0 _ rfl; have c0_1 := X0H.out.cells 1 _ rfl; have c1_0 := X1H.out.cells 0 _ rfl; have c1_1 := X1H.out.cells 1 _ rfl; have c1_2 := X1H.out.cells 2 _ rfl;)
        | (go_at_call 16; clear tok1; refine (CP1.out (by omega) _).mono ?_; rintro e w2 ⟨cs2, rfl, r2, b2⟩; obtain ⟨rfl, -⟩ := shape_Op r2; clear r2; have b9 := b2; (try replace b9 := undrewX b9); have X0H := Lib.hid (X0H.out.later b9); have X1H := Lib.hid (X1H.out.later b9); have BH := Lib.hid (chainX w BH.out b9); clear b9 b2; have c0_0 := X0H.out.cells 0 _ rfl; have c0_1 := X0H.out.cells 1 _ rfl; have c1_0 := X1H.out.cells 0 _ rfl; have c1_1 := X1H.out.cells 1 _ rfl; have c1_2 := X1H.out.cells 2 _ rfl;)
        | (go_at_call 17; refine (HI.out (by omega) _ (by first | exact BH.out | exact BH.out.drew)).mono ?_; rintro e w3 ⟨rfl, b3⟩; have b9 := b3; (try replace b9 := undrewX b9); have X0H := Lib.hid (X0H.out.later b9); have X1H := Lib.hid (X1H.out.later b9); have BH := Lib.hid (chainX w BH.out b9); clear b9 b3; have c0_0 := X0H.out.cells 0 _ rfl; have c0_1 := X0H.out.cells 1 _ rfl; have c1_0 := X1H.out.cells 0 _ rfl; have c1_1 := X1H.out.cells 1 _ rfl; have c1_2 := X1H.out.cells 2 _ rfl;)))
    all_goals
      go_wp2
      go_ret
      exact ⟨rfl, BH.out⟩
end Go.Proofs.Ythbhefgnbomboaa.Rd
