/-
  The exact law of HeardEnough: the program answers as the model, and its arguments are left as they were. No condition.
-/
import Derived.Test.YthimpcfodbmhkaaGHeardEnough
import Derived.Test.YthimpcfodbmhkaaIvJ
namespace Go.Proofs.Ythimpcfodbmhkaa.Rd
open Go.RowKit Go.ChangeShapes Go.WideShapes
set_option linter.unusedVariables false

theorem lawHeardEnough (a0 : Option Addr) (c0 : Nat) (d0 : List DInterval) (x1 x2 : Int) (a3 : Option Addr) (c3 : Nat) (d3 : List Int) (w : World) (h0 : d0.length ≤ 9223372036854775807 ∧ Rows false 0 w a0 d0) (_ : (Lit.int .i64 x1).wf = true) (_ : (Lit.int .i64 x2).wf = true) (h3 : d3.length ≤ 9223372036854775807 ∧ Rows false 0 w a3 d3) :
    Calls Try.prog 14 #[.slice a0 d0.length c0, .int .i64 x1, .int .i64 x2, .slice a3 d3.length c3] w fun e w' => e = .returned (.bool true) ∧ Below w.heap.size w w' := by
  obtain ⟨b, hb⟩ := Ac.bool_of (Ac.HeP d0 x1 x2 d3)
  have e := sz_len d0
  exact fnFnExactHeardEnough a0 c0 d0 x1 x2 a3 c3 d3 b w h0 h3 (fun z0 z3 e0 e3 w' k0 k3 => (Ac.specHeardEnough e0 _ d0 x1 x2 e3 _ d3 w' (by omega) (by omega) k0 (by omega) k3).mono fun _ _ q => Ac.iff_ret hb q) (fun z0 z3 e0 e3 w' k0 k3 => (Ac.implHeardEnough e0 _ d0 x1 x2 e3 _ d3 w' (by omega) (by omega) k0 (by omega) k3).mono fun _ _ q => Ac.iff_ret hb q)
end Go.Proofs.Ythimpcfodbmhkaa.Rd
