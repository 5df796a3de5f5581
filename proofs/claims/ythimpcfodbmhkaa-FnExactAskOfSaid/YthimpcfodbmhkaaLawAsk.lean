/-
  The exact law of AskOf: the program answers as the model, leaves its argument as it was, and its answer lies in memory of its own. No condition.
-/
import Derived.Test.YthimpcfodbmhkaaGAskOf
namespace Go.Proofs.Ythimpcfodbmhkaa.Rd
open Go.RowKit Go.ChangeShapes Go.WideShapes
set_option linter.unusedVariables false

theorem lawAskOf (a0 : Option Addr) (c0 : Nat) (d0 : List DInterval) (w : World) (h0 : d0.length ≤ 9223372036854775807 ∧ Rows false 0 w a0 d0) :
    Calls Try.prog 11 #[.slice a0 d0.length c0] w fun e w' => e = .returned (.bool true) ∧ Below w.heap.size w w' := by
  obtain ⟨r, hr⟩ := Ac.ask_ex d0
  have e := sz_len d0
  have hl : r.length ≤ 2097152 := by
    rcases hr with ⟨hp, rfl⟩ | ⟨-, rfl⟩
    · have h1 := Ac.askL_len hp d0.length (Nat.le_refl _)
      have h2 := hp.len
      rw [List.take_length] at h1; omega
    · simp
  exact fnFnExactAskOf a0 c0 d0 r hl w h0 (fun z e0 w' k0 => Ac.specAskOf e0 _ d0 r w' (by omega) (by omega) k0 hr) (fun z e0 w' k0 => Ac.implAskOf e0 _ d0 r w' (by omega) (by omega) k0 hr)
end Go.Proofs.Ythimpcfodbmhkaa.Rd
