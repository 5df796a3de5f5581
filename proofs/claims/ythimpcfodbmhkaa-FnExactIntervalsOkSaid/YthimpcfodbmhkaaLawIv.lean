/-
  The exact law of IntervalsOk: the program answers as the model, and the list is left as it was. No condition.
-/
import Derived.Test.YthimpcfodbmhkaaGIntervalsOk
namespace Go.Proofs.Ythimpcfodbmhkaa.Rd
open Go.RowKit Go.ChangeShapes Go.WideShapes
set_option linter.unusedVariables false

theorem lawIntervalsOk (a0 : Option Addr) (c0 : Nat) (d0 : List DInterval) (w : World) (h0 : d0.length ≤ 9223372036854775807 ∧ Rows false 0 w a0 d0) :
    Calls Try.prog 8 #[.slice a0 d0.length c0] w fun e w' => e = .returned (.bool true) ∧ Below w.heap.size w w' := by
  obtain ⟨b, hb⟩ := Ac.bool_of (Ac.IvP d0)
  have := sz_len d0
  exact fnFnExactIntervalsOk a0 c0 d0 b w h0 (fun z e0 w' k0 => (Ac.specIntervalsOk e0 _ d0 w' (by omega) (by omega) k0).mono fun _ _ q => Ac.iff_ret hb q) (fun z e0 w' k0 => (Ac.intervalsOk e0 _ d0 w' (by omega) (by omega) k0).mono fun _ _ q => Ac.iff_ret hb q)
end Go.Proofs.Ythimpcfodbmhkaa.Rd
