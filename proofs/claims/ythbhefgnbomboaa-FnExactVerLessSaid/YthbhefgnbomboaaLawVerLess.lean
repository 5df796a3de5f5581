/-
  The exact law of VerLess: the program answers as the model, whatever the arguments. No condition.
-/
import Derived.Test.YthbhefgnbomboaaGVerLess
import Derived.Test.YthbhefgnbomboaaVer
namespace Go.Proofs.Ythbhefgnbomboaa.Rd
open Go.RowKit Go.ChangeShapes Go.WideShapes
open Go.Proofs.Ythbhefgnbomboaa.Sg (BxN)
set_option linter.unusedVariables false
set_option linter.unusedSimpArgs false
theorem lawVerLess (cs : List Value) (a : DVer) (cs2 : List Value) (b : DVer) (w : World) (h : Rdb.rd false 0 w cs a) (h2 : Rdb.rd false 0 w cs2 b) :
    Calls Try.prog 8 #[.agg cs.toArray, .agg cs2.toArray] w fun e w' => e = .returned (.bool true) ∧ Below w.heap.size w w' :=
  fnFnExactVerLess a b (verL a b) w h h2 (fun w' _ => specVerLess a b w') (fun w' _ => implVerLess a b w')
end Go.Proofs.Ythbhefgnbomboaa.Rd
