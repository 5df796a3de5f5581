/-
  The exact law of HeardOf: the program answers as the model, leaves its arguments as they were, and its answer lies in memory of its own. No condition.
-/
import Derived.Test.YthimpcfodbmhkaaGHeardOf
namespace Go.Proofs.Ythimpcfodbmhkaa.Rd
open Go.RowKit Go.ChangeShapes Go.WideShapes
set_option linter.unusedVariables false

theorem lawHeardOf (cs0 : List Value) (d0 : DInterval) (a1 : Option Addr) (c1 : Nat) (d1 : List Int) (w : World) (h0 : Rdb.rd false 0 w cs0 d0) (h1 : d1.length ≤ 9223372036854775807 ∧ Rows false 0 w a1 d1) :
    Calls Try.prog 13 #[.agg cs0.toArray, .slice a1 d1.length c1] w fun e w' => e = .returned (.bool true) ∧ Below w.heap.size w w' := by
  have e0 : Rdb.sz d0 = Rdb.sz d0.acting := rfl
  have e1 := sz_len d0.acting
  by_cases h : d1.length ≤ 2097152
  · refine fnFnExactHeardOf d0 a1 c1 d1 (Ac.heaV d0.acting d1) (Nat.le_trans (Ac.heaV_len _ _) h) w h0 h1 (fun z0 z1 es e w' k0 k1 => ?_) (fun z0 z1 es e w' k0 k1 => ?_)
    · obtain ⟨a, c, rfl, -, -, f2, g2⟩ := shape_Interval k0
      exact Ac.specHeardOf d0 a c e _ d1 w' (by omega) g2.2 (by omega) f2 k1
    · obtain ⟨a, c, rfl, -, -, f2, g2⟩ := shape_Interval k0
      exact Ac.implHeardOf d0 a c e _ d1 w' (by omega) g2.2 (by omega) f2 k1
  · exact fnFnExactHeardOf d0 a1 c1 d1 [] (by simp) w h0 h1 (fun z0 z1 => absurd z1 (by omega)) (fun z0 z1 => absurd z1 (by omega))
end Go.Proofs.Ythimpcfodbmhkaa.Rd
