/-
  The exact law of MembersOf: the program answers as the model, leaves the list as it was, and its answer lies in memory of its own. No condition.
-/
import Derived.Test.YthimpcfodbmhkaaGMembersOf
namespace Go.Proofs.Ythimpcfodbmhkaa.Rd
open Go.RowKit Go.ChangeShapes Go.WideShapes
set_option linter.unusedVariables false

theorem lawMembersOf (a0 : Option Addr) (c0 : Nat) (d0 : List Int) (w : World) (h0 : d0.length ≤ 9223372036854775807 ∧ Rows false 0 w a0 d0) :
    Calls Try.prog 7 #[.slice a0 d0.length c0] w fun e w' => e = .returned (.bool true) ∧ Below w.heap.size w w' := by
  by_cases h : d0.length ≤ 2097152
  · exact fnFnExactMembersOf a0 c0 d0 (Ac.memV d0) (Nat.le_trans (Ac.memV_len d0) h) w h0 (fun z e0 w' k0 => Ac.specMembersOf e0 _ d0 w' (by omega) (Nat.le_refl _) k0) (fun z e0 w' k0 => Ac.implMembersOf e0 _ d0 w' (by omega) (Nat.le_refl _) k0)
  · exact fnFnExactMembersOf a0 c0 d0 [] (by simp) w h0 (fun z e0 w' k0 => absurd z (by omega)) (fun z e0 w' k0 => absurd z (by omega))
end Go.Proofs.Ythimpcfodbmhkaa.Rd
