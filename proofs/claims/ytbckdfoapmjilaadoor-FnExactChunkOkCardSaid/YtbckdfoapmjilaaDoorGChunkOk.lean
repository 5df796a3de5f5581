/-
  The exact law of FnExactChunkOk, given the model's answer and the program's (written by tools/gen/plaw.py).
-/
import Derived.Test.YtbckdfoapmjilaaDoorDChunk
import Derived.Deep.RegionHeld3
namespace Go.Proofs.YtbckdfoapmjilaaDoor.Rd
open Go.RowKit Go.ChangeShapes Go.WideShapes
open Go.Proofs.YtbckdfoapmjilaaDoor.Sg (BxN)
set_option linter.unusedVariables false
set_option linter.unusedSimpArgs false

set_option maxRecDepth 100000 in
set_option maxHeartbeats 4000000 in
theorem fnFnExactChunkOk {cs0 : List Value} (d0 : DChunk) (b : Bool) (w : World) (h0 : Rdb.rd false 0 w cs0 d0) (hS : Rdb.sz d0 ≤ 1048576 → ∀ w', Below w.heap.size w w' → Calls Tryd.prog 10 #[.agg #[.string d0.name, .int .i64 d0.ver.epoch, .int .i64 d0.ver.seq, .int .i64 d0.pos, .int .i64 d0.sum, .string d0.bytes]] w' (RetW (.bool b) w')) (hI : Rdb.sz d0 ≤ 1048576 → ∀ w', Below w.heap.size w w' → Calls Tryd.prog 12 #[.agg #[.string d0.name, .int .i64 d0.ver.epoch, .int .i64 d0.ver.seq, .int .i64 d0.pos, .int .i64 d0.sum, .string d0.bytes]] w' (RetW (.bool b) w')) :
    Calls Tryd.prog 4 #[.agg cs0.toArray] w (RetW (.bool true) w) := by
  obtain ⟨rfl, f0_0, f0_1, f0_2, f0_3, f0_4, f0_5⟩ := shape_Chunk h0
  have BH := Lib.hid (lay w (.cells #[.string d0.name, .int .i64 d0.ver.epoch, .int .i64 d0.ver.seq, .int .i64 d0.pos, .int .i64 d0.sum, .string d0.bytes] 37))
  have Q := BxN.new w #[.string d0.name, .int .i64 d0.ver.epoch, .int .i64 d0.ver.seq, .int .i64 d0.pos, .int .i64 d0.sum, .string d0.bytes] 37
  have X0H := Lib.hid Q
  clear Q
  have SZ0 := Lib.hid (fun (lf : Int) (p0 : 0 ≤ lf) (p1 : lf ≤ 2097152) w' => szChunk (fr := true) (lo := 0) d0 lf p0 p1 w' (mk_Chunk (d := d0) f0_0 f0_1 f0_2 f0_3 f0_4 f0_5))
  have CP0 := Lib.hid (fun (z : Rdb.sz d0 ≤ 2097152) w' => toChunk (fr := true) (lo := 0) d0 w' z (mk_Chunk (d := d0) f0_0 f0_1 f0_2 f0_3 f0_4 f0_5))
  have HS := Lib.hid hS
  have HI := Lib.hid hI
  clear hS hI
  generalize hs0 : Rdb.sz d0 = s0 at *
  clear hs0
  by_cases q0 : (s0 : Int) ≤ 1048576
  rotate_left
  · skip
    go_enter Tryd.func4, Tryd.ntmps4
    have V := SZ0.out (1048576) (by omega) (by omega)
    unfold SzB at V
    rw [show szI (1048576) s0 = -1 from szI_no (by omega)] at V
    have VH := Lib.hid V
    clear V
    go_wp2_with fail
    refine (VH.out _).mono ?_
    rintro e w1 ⟨rfl, b1⟩
    have X0H := Lib.hid (X0H.out.later b1); have BH := Lib.hid (chainX w BH.out b1); clear b1 VH
    have c0_0 := X0H.out.cells 0 _ rfl
    have c0_1 := X0H.out.cells 1 _ rfl
    have c0_2 := X0H.out.cells 2 _ rfl
    have c0_3 := X0H.out.cells 3 _ rfl
    have c0_4 := X0H.out.cells 4 _ rfl
    have c0_5 := X0H.out.cells 5 _ rfl
    go_wp2
    go_ret
    exact ⟨rfl, BH.out⟩
  go_enter Tryd.func4, Tryd.ntmps4
  have V := SZ0.out (1048576) (by omega) (by omega)
  unfold SzB at V
  rw [show szI (1048576) s0 = 1048576 - (s0 : Int) from szI_yes (by omega)] at V
  have VH := Lib.hid V
  clear V
  go_wp2_with fail
  refine (VH.out _).mono ?_
  rintro e w1 ⟨rfl, b1⟩
  have X0H := Lib.hid (X0H.out.later b1); have BH := Lib.hid (chainX w BH.out b1); clear b1 VH
  have c0_0 := X0H.out.cells 0 _ rfl
  have c0_1 := X0H.out.cells 1 _ rfl
  have c0_2 := X0H.out.cells 2 _ rfl
  have c0_3 := X0H.out.cells 3 _ rfl
  have c0_4 := X0H.out.cells 4 _ rfl
  have c0_5 := X0H.out.cells 5 _ rfl
  go_wp2_with fail
  refine (CP0.out (by omega) _).mono ?_
  rintro e w2 ⟨cs2, rfl, r2, b2⟩
  obtain ⟨rfl, -⟩ := shape_Chunk r2
  clear r2
  have X0H := Lib.hid (X0H.out.later b2); have BH := Lib.hid (chainX w BH.out b2); clear b2
  have c0_0 := X0H.out.cells 0 _ rfl
  have c0_1 := X0H.out.cells 1 _ rfl
  have c0_2 := X0H.out.cells 2 _ rfl
  have c0_3 := X0H.out.cells 3 _ rfl
  have c0_4 := X0H.out.cells 4 _ rfl
  have c0_5 := X0H.out.cells 5 _ rfl
  go_wp2_with fail
  refine (HS.out (by omega) _ BH.out).mono ?_
  rintro e w3 ⟨rfl, b3⟩
  have X0H := Lib.hid (X0H.out.later b3); have BH := Lib.hid (chainX w BH.out b3); clear b3
  have c0_0 := X0H.out.cells 0 _ rfl
  have c0_1 := X0H.out.cells 1 _ rfl
  have c0_2 := X0H.out.cells 2 _ rfl
  have c0_3 := X0H.out.cells 3 _ rfl
  have c0_4 := X0H.out.cells 4 _ rfl
  have c0_5 := X0H.out.cells 5 _ rfl
  go_wp2_with fail
  refine (CP0.out (by omega) _).mono ?_
  rintro e w2 ⟨cs2, rfl, r2, b2⟩
  obtain ⟨rfl, -⟩ := shape_Chunk r2
  clear r2
  have X0H := Lib.hid (X0H.out.later b2); have BH := Lib.hid (chainX w BH.out b2); clear b2
  have c0_0 := X0H.out.cells 0 _ rfl
  have c0_1 := X0H.out.cells 1 _ rfl
  have c0_2 := X0H.out.cells 2 _ rfl
  have c0_3 := X0H.out.cells 3 _ rfl
  have c0_4 := X0H.out.cells 4 _ rfl
  have c0_5 := X0H.out.cells 5 _ rfl
  go_wp2_with fail
  refine (HI.out (by omega) _ BH.out).mono ?_
  rintro e w3 ⟨rfl, b3⟩
  have X0H := Lib.hid (X0H.out.later b3); have BH := Lib.hid (chainX w BH.out b3); clear b3
  have c0_0 := X0H.out.cells 0 _ rfl
  have c0_1 := X0H.out.cells 1 _ rfl
  have c0_2 := X0H.out.cells 2 _ rfl
  have c0_3 := X0H.out.cells 3 _ rfl
  have c0_4 := X0H.out.cells 4 _ rfl
  have c0_5 := X0H.out.cells 5 _ rfl
  go_wp2
  go_ret
  exact ⟨rfl, BH.out⟩
end Go.Proofs.YtbckdfoapmjilaaDoor.Rd
