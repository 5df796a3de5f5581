/-
  The exact law of PutOp: the program answers as the model, whatever the argument. No condition.
-/
import Derived.Test.YthbhefgnbomboaaGPutOp
import Derived.Test.YthbhefgnbomboaaPutO
namespace Go.Proofs.Ythbhefgnbomboaa.Rd
open Go.RowKit
theorem lawPutOp (cs : List Value) (d : DOp) (w : World) (h : Rdb.rd false 0 w cs d) :
    Calls Try.prog 7 #[.agg cs.toArray] w fun e w' => e = .returned (.bool true) ∧ Below w.heap.size w w' :=
  fnFnExactPutOp d (opText d.kind d.atF d.bytes) w h (fun _ w' _ => specPutOp d.kind d.atF d.bytes w') (fun _ w' _ => implPutOp d.kind d.atF d.bytes w')
end Go.Proofs.Ythbhefgnbomboaa.Rd
