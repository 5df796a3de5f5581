/-
  NewState: what the program and the model answer; the laws' marks of a state without slices (written by tools/gen/nst.py).
-/
import Derived.Test.YtbckdfoapmjilaaGreatDoorDPgState
import Derived.Test.YtbckdfoapmjilaaGreatDoorWithin
namespace Go.Proofs.YtbckdfoapmjilaaGreatDoor.Rd
open Go.RowKit Go.ChangeShapes Go.WideShapes Go.Proofs.YtbckdfoapmjilaaGreatDoor.GfI Go.Proofs.YtbckdfoapmjilaaGreatDoor.GfS
open Go.Proofs.YtbckdfoapmjilaaGreatDoor.Sg (BxN)
set_option linter.unusedVariables false
set_option linter.unusedSimpArgs false

def pgB (p n : Int) : Bool := inB p 1 4 && inB n 0 15

set_option maxRecDepth 100000 in
set_option maxHeartbeats 4000000 in
theorem specPg (a b : Int) (w : World) : Calls Tryz.prog 28 #[.agg #[.int .i64 a, .int .i64 b]] w (RetW (.bool (pgB a b)) w) := by
  have BH := Lib.hid (lay w (.cells #[.int .i64 a, .int .i64 b] 34))
  have C1 := Lib.hid (l00In a 1 4)
  have C2 := Lib.hid (l00In b 0 15)
  unfold pgB
  generalize inB a 1 4 = x at *
  generalize inB b 0 15 = y at *
  cases x
  · rw [Bool.false_and]
    go_enter Tryz.func28, Tryz.ntmps28
    go_wp2_with fail
    refine (C1.out _).mono ?_
    rintro e w2 ⟨rfl, rfl⟩
    go_wp2
    go_ret
    exact ⟨rfl, BH.out⟩
  · rw [Bool.true_and]
    go_enter Tryz.func28, Tryz.ntmps28
    go_wp2_with fail
    refine (C1.out _).mono ?_
    rintro e w2 ⟨rfl, rfl⟩
    go_wp2_with fail
    refine (C2.out _).mono ?_
    rintro e w2 ⟨rfl, rfl⟩
    go_wp2
    go_ret
    exact ⟨rfl, BH.out⟩

set_option maxRecDepth 100000 in
set_option maxHeartbeats 4000000 in
theorem implPg (a b : Int) (w : World) : Calls Tryz.prog 42 #[.agg #[.int .i64 a, .int .i64 b]] w (RetW (.bool (pgB a b)) w) := by
  have BH := Lib.hid (lay w (.cells #[.int .i64 a, .int .i64 b] 34))
  have C1 := Lib.hid (Wi.isWithin a 1 4 (by omega))
  have C2 := Lib.hid (Wi.isWithin b 0 15 (by omega))
  unfold pgB
  generalize inB a 1 4 = x at *
  generalize inB b 0 15 = y at *
  cases x
  · rw [Bool.false_and]
    go_enter Tryz.func42, Tryz.ntmps42
    go_wp2_with fail
    refine (C1.out _).mono ?_
    rintro e w2 ⟨rfl, rfl⟩
    go_wp2
    go_ret
    exact ⟨rfl, BH.out⟩
  · rw [Bool.true_and]
    go_enter Tryz.func42, Tryz.ntmps42
    go_wp2_with fail
    refine (C1.out _).mono ?_
    rintro e w2 ⟨rfl, rfl⟩
    go_wp2_with fail
    refine (C2.out _).mono ?_
    rintro e w2 ⟨rfl, rfl⟩
    go_wp2
    go_ret
    exact ⟨rfl, BH.out⟩

end Go.Proofs.YtbckdfoapmjilaaGreatDoor.Rd
