/-
  The exact law of SameStore. No condition.
-/
import Derived.Test.YtbnjgehgaellmaaSnI
import Derived.Test.YtbnjgehgaellmaaSnS
import Derived.Test.YtbnjgehgaellmaaGSameStore
namespace Go.Proofs.Ytbnjgehgaellmaa.Rd
open Go.RowKit Go.ChangeShapes Go.WideShapes
open Go.Proofs.Ytbnjgehgaellmaa.Sg (BxN)
set_option linter.unusedVariables false
set_option linter.unusedSimpArgs false

theorem lawSameStore (cs0 : List Value) (d0 : DStore) (cs1 : List Value) (d1 : DStore) (w : World) (h0 : Rdb.rd false 0 w cs0 d0) (h1 : Rdb.rd false 0 w cs1 d1) :
    Calls Try.prog 5 #[.agg cs0.toArray, .agg cs1.toArray] w fun e w' => e = .returned (.bool true) ∧ Below w.heap.size w w' := by
  obtain ⟨b, hb⟩ := bool_of (d0 = d1)
  exact fnFnExactSameStore d0 d1 b w h0 h1 (fun z0 z1 es0 es1 w' k0 k1 => (specSameStore d0 d1 w' (by omega) (by omega) k0 k1).mono fun _ _ q => iff_ret hb q) (fun z0 z1 es0 es1 w' k0 k1 => (implSameStore d0 d1 w' (by omega) (by omega) k0 k1).mono fun _ _ q => iff_ret hb q)
end Go.Proofs.Ytbnjgehgaellmaa.Rd
