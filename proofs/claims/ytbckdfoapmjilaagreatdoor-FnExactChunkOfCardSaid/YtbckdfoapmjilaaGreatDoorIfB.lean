/-
  An answer that tells whether something holds, and leaves what was there as it was.
-/
import Derived.Test.YtbckdfoapmjilaaGreatDoorRdI
namespace Go.Proofs.YtbckdfoapmjilaaGreatDoor.Rd
open Go.RowKit

/-- A Bool that tells whether P, and memory that was there is as it was. -/
def IffB (P : Prop) (w : World) (e : Ending) (w' : World) : Prop := ∃ b, e = .returned (.bool b) ∧ (b = true ↔ P) ∧ Below w.heap.size w w'
theorem IffB.yes {P : Prop} {w w' : World} (h : P) (b : Below w.heap.size w w') : IffB P w (.returned (.bool true)) w' := ⟨true, rfl, by simp [h], b⟩
theorem IffB.no {P : Prop} {w w' : World} (h : ¬ P) (b : Below w.heap.size w w') : IffB P w (.returned (.bool false)) w' := ⟨false, rfl, by simp [h], b⟩
theorem iff_ret {P : Prop} {b : Bool} {w w' : World} {e : Ending} (hb : b = true ↔ P) (h : IffB P w e w') : RetW (.bool b) w e w' := by
  obtain ⟨b', rfl, hb', B⟩ := h
  obtain rfl : b' = b := by
    cases b <;> cases b' <;> simp_all
  exact ⟨rfl, B⟩
theorem bool_of (P : Prop) : ∃ b : Bool, b = true ↔ P := by
  by_cases h : P
  · exact ⟨true, by simp [h]⟩
  · exact ⟨false, by simp [h]⟩
end Go.Proofs.YtbckdfoapmjilaaGreatDoor.Rd
