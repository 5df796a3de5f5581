/-
  Whether a number lies within bounds, by the least and the greatest.
-/
import Derived.Test.YtbckdfoapmjilaaGreatDoorGfSpec
import Derived.WalkLawsBesides
namespace Go.Proofs.YtbckdfoapmjilaaGreatDoor.Wi
open Go.RowKit Go.Proofs.YtbckdfoapmjilaaGreatDoor.GfI Go.Proofs.YtbckdfoapmjilaaGreatDoor.GfS
set_option linter.unusedVariables false

theorem isWithin (n low high : Int) (hlh : low ≤ high) (w : World) : Calls Tryz.prog 43 #[.int .i64 n, .int .i64 low, .int .i64 high] w fun e w' => e = .returned (.bool (inB n low high)) ∧ w = w' := by
  by_cases h0 : n < low
  · have h1 : (if n < low then low else n) ≤ high := by rw [if_pos h0]; exact hlh
    have E : inB n low high = (n == low) := by unfold inB; rw [decide_eq_false (by omega)]; symm; simp; omega
    rw [E]
    clear E
    go_enter Tryz.func43, Tryz.ntmps43
    go_wp2
    go_ret
    exact ⟨rfl, rfl⟩
  · by_cases h2 : n ≤ high
    · have E := inB_yes (by omega : low ≤ n) h2
      rw [E]
      clear E hlh
      go_enter Tryz.func43, Tryz.ntmps43
      go_wp2
      go_ret
      exact ⟨rfl, rfl⟩
    · have E : inB n low high = (n == high) := by unfold inB; rw [decide_eq_false (by omega)]; symm; simp; omega
      rw [E]
      clear E hlh
      go_enter Tryz.func43, Tryz.ntmps43
      go_wp2
      go_ret
      exact ⟨rfl, rfl⟩
end Go.Proofs.YtbckdfoapmjilaaGreatDoor.Wi
