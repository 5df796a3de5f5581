/-
  Two states compared, in the model.
-/
import Derived.Test.YtbnjgehgaellmaaSsSa
import Derived.Test.YtbnjgehgaellmaaSsSb
import Derived.Test.YtbnjgehgaellmaaSsSc
namespace Go.Proofs.Ytbnjgehgaellmaa.Rd
open Go.RowKit Go.ChangeShapes Go.WideShapes
open Go.Proofs.Ytbnjgehgaellmaa.Sg (BxN)
set_option linter.unusedVariables false
set_option linter.unusedSimpArgs false

theorem specStateSame (d e : DPgState) {cs ds : List Value} {fr fr2 : Bool} {lo lo2 : Nat} (w : World) (hd : Rdb.sz d ≤ 2097152) (he : Rdb.sz e ≤ 2097152) (h : Rdb.rd fr lo w cs d) (k : Rdb.rd fr2 lo2 w ds e) :
    Calls Try.prog 63 #[.agg cs.toArray, .agg ds.toArray] w (IffB (d = e) w) := by
  by_cases h5 : d.pg = e.pg ∧ d.seen = e.seen ∧ d.started = e.started ∧ d.tail = e.tail ∧ d.firm = e.firm
  · by_cases h4 : d.base.length = e.base.length ∧ d.clients.length = e.clients.length ∧ d.log.length = e.log.length ∧ d.chunks.length = e.chunks.length
    · exact specStateSameC d e w hd he h k h5 h4
    · exact specStateSameB d e w hd he h k h5 h4
  · exact specStateSameA d e w hd he h k h5
end Go.Proofs.Ytbnjgehgaellmaa.Rd
