/-
  The exact law of OpOk: the program answers as the model, whatever the arguments. No condition.
-/
import Derived.Test.YthbhefgnbomboaaGOpOk
import Derived.Test.YthbhefgnbomboaaOpO
namespace Go.Proofs.Ythbhefgnbomboaa.Rd
open Go.RowKit Go.ChangeShapes Go.WideShapes
open Go.Proofs.Ythbhefgnbomboaa.Sg (BxN)
set_option linter.unusedVariables false
set_option linter.unusedSimpArgs false
theorem lawOpOk (cs : List Value) (c : DCode) (cs2 : List Value) (d : DOp) (w : World) (h : Rdb.rd false 0 w cs c) (h2 : Rdb.rd false 0 w cs2 d) :
    Calls Try.prog 4 #[.agg cs.toArray, .agg cs2.toArray] w fun e w' => e = .returned (.bool true) ∧ Below w.heap.size w w' :=
  fnFnExactOpOk c d (okO c.k c.m d.kind d.atF d.bytes) w h h2 (fun _ w' _ => specOpOk _ _ _ _ _ _ rfl w') (fun _ w' _ => implOpOk _ _ _ _ _ _ rfl w')
end Go.Proofs.Ythbhefgnbomboaa.Rd
