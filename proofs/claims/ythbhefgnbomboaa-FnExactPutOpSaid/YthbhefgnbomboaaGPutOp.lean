/-
  The exact law of FnExactPutOp, given the model's answer and the program's (written by tools/gen/plaw.py).
-/
import Derived.Test.YthbhefgnbomboaaDOp
import Derived.Deep.RegionHeld3
namespace Go.Proofs.Ythbhefgnbomboaa.Rd
open Go.RowKit Go.ChangeShapes Go.WideShapes
open Go.Proofs.Ythbhefgnbomboaa.Sg (BxN)
set_option linter.unusedVariables false
set_option linter.unusedSimpArgs false

set_option maxRecDepth 100000 in
set_option maxHeartbeats 4000000 in
theorem fnFnExactPutOp {cs0 : List Value} (d0 : DOp) (r : ByteArray) (w : World) (h0 : Rdb.rd false 0 w cs0 d0) (hS : Rdb.sz d0 ≤ 1048576 → ∀ w', Below w.heap.size w w' → Calls Try.prog 22 #[.agg #[.int .i64 d0.kind, .int .i64 d0.atF, .string d0.bytes]] w' (RetW (.string r) w')) (hI : Rdb.sz d0 ≤ 1048576 → ∀ w', Below w.heap.size w w' → Calls Try.prog 23 #[.agg #[.int .i64 d0.kind, .int .i64 d0.atF, .string d0.bytes]] w' (RetW (.string r) w')) :
    Calls Try.prog 7 #[.agg cs0.toArray] w (RetW (.bool true) w) := by
  obtain ⟨rfl, f0_0, f0_1, f0_2⟩ := shape_Op h0
  have BH := Lib.hid (lay w (.cells #[.int .i64 d0.kind, .int .i64 d0.atF, .string d0.bytes] 32))
  have Q := BxN.new w #[.int .i64 d0.kind, .int .i64 d0.atF, .string d0.bytes] 32
  have X0H := Lib.hid Q
  clear Q
  have SZ0 := Lib.hid (fun (lf : Int) (p0 : 0 ≤ lf) (p1 : lf ≤ 2097152) w' => szOp (fr := true) (lo := 0) d0 lf p0 p1 w' (mk_Op (d := d0) f0_0 f0_1 f0_2))
  have CP0 := Lib.hid (fun (z : Rdb.sz d0 ≤ 2097152) w' => toOp (fr := true) (lo := 0) d0 w' z (mk_Op (d := d0) f0_0 f0_1 f0_2))
  have HS := Lib.hid hS
  have HI := Lib.hid hI
  clear hS hI
  generalize hs0 : Rdb.sz d0 = s0 at *
  clear hs0
  by_cases q0 : (s0 : Int) ≤ 1048576
  rotate_left
  · skip
    go_enter Try.func7, Try.ntmps7
    have V := SZ0.out (1048576) (by omega) (by omega)
    unfold SzB at V
    rw [show szI (1048576) s0 = -1 from szI_no (by omega)] at V
    have VH := Lib.hid V
    clear V
    go_wp2_with fail
    refine (VH.out _).mono ?_
    rintro e w1 ⟨rfl, b1⟩
    have X0H := Lib.hid (X0H.out.later b1); have BH := Lib.hid (chainX w BH.out b1); clear b1 VH
    have c0_0 := X0H.out.cells 0 _ rfl
    have c0_1 := X0H.out.cells 1 _ rfl
    have c0_2 := X0H.out.cells 2 _ rfl
    go_wp2
    go_ret
    exact ⟨rfl, BH.out⟩
  go_enter Try.func7, Try.ntmps7
  have V := SZ0.out (1048576) (by omega) (by omega)
  unfold SzB at V
  rw [show szI (1048576) s0 = 1048576 - (s0 : Int) from szI_yes (by omega)] at V
  have VH := Lib.hid V
  clear V
  go_wp2_with fail
  refine (VH.out _).mono ?_
  rintro e w1 ⟨rfl, b1⟩
  have X0H := Lib.hid (X0H.out.later b1); have BH := Lib.hid (chainX w BH.out b1); clear b1 VH
  have c0_0 := X0H.out.cells 0 _ rfl
  have c0_1 := X0H.out.cells 1 _ rfl
  have c0_2 := X0H.out.cells 2 _ rfl
  go_wp2_with fail
  refine (CP0.out (by omega) _).mono ?_
  rintro e w2 ⟨cs2, rfl, r2, b2⟩
  obtain ⟨rfl, -⟩ := shape_Op r2
  clear r2
  have X0H := Lib.hid (X0H.out.later b2); have BH := Lib.hid (chainX w BH.out b2); clear b2
  have c0_0 := X0H.out.cells 0 _ rfl
  have c0_1 := X0H.out.cells 1 _ rfl
  have c0_2 := X0H.out.cells 2 _ rfl
  go_wp2_with fail
  refine (HS.out (by omega) _ BH.out).mono ?_
  rintro e w3 ⟨rfl, b3⟩
  have X0H := Lib.hid (X0H.out.later b3); have BH := Lib.hid (chainX w BH.out b3); clear b3
  have c0_0 := X0H.out.cells 0 _ rfl
  have c0_1 := X0H.out.cells 1 _ rfl
  have c0_2 := X0H.out.cells 2 _ rfl
  go_wp2_with fail
  refine (CP0.out (by omega) _).mono ?_
  rintro e w2 ⟨cs2, rfl, r2, b2⟩
  obtain ⟨rfl, -⟩ := shape_Op r2
  clear r2
  have X0H := Lib.hid (X0H.out.later b2); have BH := Lib.hid (chainX w BH.out b2); clear b2
  have c0_0 := X0H.out.cells 0 _ rfl
  have c0_1 := X0H.out.cells 1 _ rfl
  have c0_2 := X0H.out.cells 2 _ rfl
  go_wp2_with fail
  refine (HI.out (by omega) _ BH.out).mono ?_
  rintro e w3 ⟨rfl, b3⟩
  have X0H := Lib.hid (X0H.out.later b3); have BH := Lib.hid (chainX w BH.out b3); clear b3
  have c0_0 := X0H.out.cells 0 _ rfl
  have c0_1 := X0H.out.cells 1 _ rfl
  have c0_2 := X0H.out.cells 2 _ rfl
  go_wp2
  go_ret
  exact ⟨rfl, BH.out⟩
end Go.Proofs.Ythbhefgnbomboaa.Rd
