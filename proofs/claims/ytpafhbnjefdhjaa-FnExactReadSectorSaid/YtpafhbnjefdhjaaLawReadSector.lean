/-
  The exact law of ReadSector: the program answers as the model, and the disk is left as it was. No condition.
-/
import Derived.Test.YtpafhbnjefdhjaaGReadSector
import Derived.Test.YtpafhbnjefdhjaaDkR
namespace Go.Proofs.Ytpafhbnjefdhjaa.Rd
open Go.RowKit
set_option linter.unusedVariables false
theorem lawReadSector (cs : List Value) (d : DDisk) (x : Int) (w : World) (h : Rdb.rd false 0 w cs d) (hx : (Lit.int .i64 x).wf = true) :
    Calls Try.prog 5 #[.agg cs.toArray, .int .i64 x] w fun e w' => e = .returned (.bool true) ∧ Below w.heap.size w w' := by
  obtain ⟨s, c, hp⟩ := rdP_ex d x
  exact fnFnExactReadSector d x s c w h (fun z es w' k => specReadSector d x s c hp w' (by omega) k) (fun z es w' k => implReadSector d x s c hp w' (by omega) k)
end Go.Proofs.Ytpafhbnjefdhjaa.Rd
