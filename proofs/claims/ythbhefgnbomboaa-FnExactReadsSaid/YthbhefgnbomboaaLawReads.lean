/-
  The exact law of Reads: the program answers as the model, whatever the arguments. No condition.
-/
import Derived.Test.YthbhefgnbomboaaGReads
namespace Go.Proofs.Ythbhefgnbomboaa.Rd
open Go.RowKit Go.ChangeShapes Go.WideShapes
open Go.Proofs.Ythbhefgnbomboaa.Sg (BxN)
set_option linter.unusedVariables false
set_option linter.unusedSimpArgs false
theorem specReads (d : DOp) (w : World) : Calls Try.prog 18 #[.agg #[.int .i64 d.kind, .int .i64 d.atF, .string d.bytes]] w (RetW (.bool (d.kind == 1)) w) := by
  have BH := Lib.hid (lay w (.cells #[.int .i64 d.kind, .int .i64 d.atF, .string d.bytes] 37))
  go_enter Try.func18, Try.ntmps18
  go_wp2
  go_ret
  exact ⟨rfl, BH.out⟩
theorem implReads (d : DOp) (w : World) : Calls Try.prog 19 #[.agg #[.int .i64 d.kind, .int .i64 d.atF, .string d.bytes]] w (RetW (.bool (d.kind == 1)) w) := by
  have BH := Lib.hid (lay w (.cells #[.int .i64 d.kind, .int .i64 d.atF, .string d.bytes] 37))
  go_enter Try.func19, Try.ntmps19
  go_wp2
  go_ret
  exact ⟨rfl, BH.out⟩
theorem lawReads (cs : List Value) (d : DOp) (w : World) (h : Rdb.rd false 0 w cs d) :
    Calls Try.prog 5 #[.agg cs.toArray] w fun e w' => e = .returned (.bool true) ∧ Below w.heap.size w w' :=
  fnFnExactReads d (d.kind == 1) w h (fun _ w' _ => specReads d w') (fun _ w' _ => implReads d w')
end Go.Proofs.Ythbhefgnbomboaa.Rd
