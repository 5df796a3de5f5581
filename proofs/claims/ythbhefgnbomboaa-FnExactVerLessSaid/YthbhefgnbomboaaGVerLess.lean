/-
  The exact law of FnExactVerLess, given the model's answer and the program's (written by tools/gen/plaw.py).
-/
import Derived.Test.YthbhefgnbomboaaDVer
import Derived.Deep.RegionHeld3
namespace Go.Proofs.Ythbhefgnbomboaa.Rd
open Go.RowKit Go.ChangeShapes Go.WideShapes
open Go.Proofs.Ythbhefgnbomboaa.Sg (BxN)
set_option linter.unusedVariables false
set_option linter.unusedSimpArgs false

set_option maxRecDepth 100000 in
set_option maxHeartbeats 4000000 in
theorem fnFnExactVerLess {cs0 : List Value} (d0 : DVer) {cs1 : List Value} (d1 : DVer) (b : Bool) (w : World) (h0 : Rdb.rd false 0 w cs0 d0) (h1 : Rdb.rd false 0 w cs1 d1) (hS : ∀ w', Below w.heap.size w w' → Calls Try.prog 24 #[.agg #[.int .i64 d0.epoch, .int .i64 d0.seq], .agg #[.int .i64 d1.epoch, .int .i64 d1.seq]] w' (RetW (.bool b) w')) (hI : ∀ w', Below w.heap.size w w' → Calls Try.prog 12 #[.agg #[.int .i64 d0.epoch, .int .i64 d0.seq], .agg #[.int .i64 d1.epoch, .int .i64 d1.seq]] w' (RetW (.bool b) w')) :
    Calls Try.prog 8 #[.agg cs0.toArray, .agg cs1.toArray] w (RetW (.bool true) w) := by
  obtain ⟨rfl, f0_0, f0_1⟩ := shape_Ver h0
  obtain ⟨rfl, f1_0, f1_1⟩ := shape_Ver h1
  have BH := Lib.hid (chainX w (lay w (.cells #[.int .i64 d0.epoch, .int .i64 d0.seq] 46)) (lay _ (.cells #[.int .i64 d1.epoch, .int .i64 d1.seq] 46)))
  have Q := (BxN.new w #[.int .i64 d0.epoch, .int .i64 d0.seq] 46).later (lay _ (.cells #[.int .i64 d1.epoch, .int .i64 d1.seq] 46))
  have X0H := Lib.hid Q
  clear Q
  have Q := BxN.new (w.alloc (.cells #[.int .i64 d0.epoch, .int .i64 d0.seq] 46)) #[.int .i64 d1.epoch, .int .i64 d1.seq] 46
  simp only [World.size_alloc] at Q
  have X1H := Lib.hid Q
  clear Q
  have CP0 := Lib.hid (fun (z : Rdb.sz d0 ≤ 2097152) w' => toVer (fr := true) (lo := 0) d0 w' z (mk_Ver (d := d0) f0_0 f0_1))
  have SN0 : Rdb.sz d0 ≤ 2097152 := by show (0 : Nat) ≤ _; omega
  have CP1 := Lib.hid (fun (z : Rdb.sz d1 ≤ 2097152) w' => toVer (fr := true) (lo := 0) d1 w' z (mk_Ver (d := d1) f1_0 f1_1))
  have SN1 : Rdb.sz d1 ≤ 2097152 := by show (0 : Nat) ≤ _; omega
  have HS := Lib.hid hS
  have HI := Lib.hid hI
  clear hS hI
  go_enter Try.func8, Try.ntmps8
  go_wp2_with fail
  have tok0 := True.intro
  have tok1 := True.intro
  go_region_held3 (fun w' => w'.cell? ⟨w.heap.size, 0, none⟩ = some (.int .i64 d0.epoch) ∧ w'.cell? ⟨w.heap.size, 1, none⟩ = some (.int .i64 d0.seq) ∧ w'.cell? ⟨w.heap.size + 1, 0, none⟩ = some (.int .i64 d1.epoch) ∧ w'.cell? ⟨w.heap.size + 1, 1, none⟩ = some (.int .i64 d1.seq)) (go_keep)
    ((first
      | (go_at_call 25; clear tok0; refine (CP0.out (by omega) _).mono ?_; rintro e w2 ⟨cs2, rfl, r2, b2⟩; obtain ⟨rfl, -⟩ := shape_Ver r2; clear r2; have b9 := b2; (try replace b9 := undrewX b9); have X0H := Lib.hid (X0H.out.later b9); have X1H := Lib.hid (X1H.out.later b9); have BH := Lib.hid (chainX w BH.out b9); clear b9 b2; have c0_0 := X0H.out.cells 0 _ rfl; have c0_1 := X0H.out.cells 1 _ rfl; have c1_0 := X1H.out.cells 0 _ rfl; have c1_1 := X1H.out.cells 1 _ rfl;)
      | (go_at_call 25; clear tok1; refine (CP1.out (by omega) _).mono ?_; rintro e w2 ⟨cs2, rfl, r2, b2⟩; obtain ⟨rfl, -⟩ := shape_Ver r2; clear r2; have b9 := b2; (try replace b9 := undrewX b9); have X0H := Lib.hid (X0H.out.later b9); have X1H := Lib.hid (X1H.out.later b9); have BH := Lib.hid (chainX w BH.out b9); clear b9 b2; have c0_0 := X0H.out.cells 0 _ rfl; have c0_1 := X0H.out.cells 1 _ rfl; have c1_0 := X1H.out.cells 0 _ rfl; have c1_1 := X1H.out.cells 1 _ rfl;)
      | (go_at_call 24; refine (HS.out  _ (by first | exact BH.out | exact BH.out.drew)).mono ?_; rintro e w3 ⟨rfl, b3⟩; have b9 := b3; (try replace b9 := undrewX b9); have X0H := Lib.hid (X0H.out.later b9); have X1H := Lib.hid (X1H.out.later b9); have BH := Lib.hid (chainX w BH.out b9); clear b9 b3; have c0_0 := X0H.out.cells 0 _ rfl; have c0_1 := X0H.out.cells 1 _ rfl; have c1_0 := X1H.out.cells 0 _ rfl; have c1_1 := X1H.out.cells 1 _ rfl;)))
  all_goals
    go_wp2_with fail
    have tok0 := True.intro
    have tok1 := True.intro
    go_region_held3 (fun w' => w'.cell? ⟨w.heap.size, 0, none⟩ = some (.int .i64 d0.epoch) ∧ w'.cell? ⟨w.heap.size, 1, none⟩ = some (.int .i64 d0.seq) ∧ w'.cell? ⟨w.heap.size + 1, 0, none⟩ = some (.int .i64 d1.epoch) ∧ w'.cell? ⟨w.heap.size + 1, 1, none⟩ = some (.int .i64 d1.seq)) (go_keep)
      ((first
        | (go_at_call 25; clear tok0; refine (CP0.out (by omega) _).mono ?_; rintro e w2 ⟨cs2, rfl, r2, b2⟩; obtain ⟨rfl, -⟩ := shape_Ver r2; clear r2; have b9 := b2; (try replace b9 := undrewX b9); have X0H := Lib.hid (X0H.out.later b9); have X1H := Lib.hid (X1H.out.later b9); have BH := Lib.hid (chainX w BH.out b9); clear b9 b2; have c0_0 := X0H.out.cells 0 _ rfl; have c0_1 := X0H.out.cells 1 _ rfl; have c1_0 := X1H.out.cells 0 _ rfl; have c1_1 := X1H.out.cells 1 _ rfl;)
        | (go_at_call 25; clear tok1; refine (CP1.out (by omega) _).mono ?_; rintro e w2 ⟨cs2, rfl, r2, b2⟩; obtain ⟨rfl, -⟩ := shape_Ver r2; clear r2; have b9 := b2; (try replace b9 := undrewX b9); have X0H := Lib.hid (X0H.out.later b9); have X1H := Lib.hid (X1H.out.later b9); have BH := Lib.hid (chainX w BH.out b9); clear b9 b2; have c0_0 := X0H.out.cells 0 _ rfl; have c0_1 := X0H.out.cells 1 _ rfl; have c1_0 := X1H.out.cells 0 _ rfl; have c1_1 := X1H.out.cells 1 _ rfl;)
        | (go_at_call 12; refine (HI.out  _ (by first | exact BH.out | exact BH.out.drew)).mono ?_; rintro e w3 ⟨rfl, b3⟩; have b9 := b3; (try replace b9 := undrewX b9); have X0H := Lib.hid (X0H.out.later b9); have X1H := Lib.hid (X1H.out.later b9); have BH := Lib.hid (chainX w BH.out b9); clear b9 b3; have c0_0 := X0H.out.cells 0 _ rfl; have c0_1 := X0H.out.cells 1 _ rfl; have c1_0 := X1H.out.cells 0 _ rfl; have c1_1 := X1H.out.cells 1 _ rfl;)))
    all_goals
      go_wp2
      go_ret
      exact ⟨rfl, BH.out⟩
end Go.Proofs.Ythbhefgnbomboaa.Rd
