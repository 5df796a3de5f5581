/-
  Whether a number lies within bounds, by the least and the greatest.
-/
import Derived.Test.YtbckdfoapmjilaaDoorGfSpec
import Derived.WalkLawsBesides
namespace Go.Proofs.YtbckdfoapmjilaaDoor.Wi
open Go.RowKit Go.Proofs.YtbckdfoapmjilaaDoor.GfI Go.Proofs.YtbckdfoapmjilaaDoor.GfS
set_option linter.unusedVariables false

theorem isWithin (n low high : Int) (hlh : low ≤ high) (w : World) : Calls Tryd.prog 35 #[.int .i64 n, .int .i64 low, .int .i64 high] w fun e w' => e = .returned (.bool (inB n low high)) ∧ w = w' := by
  by_cases h0 : n < low
  · have h1 : (if n < low then low else n) ≤ high := by rw [if_pos h0]; exact hlh
    have E : inB n low high = (n == low) := by unfold inB; rw [decide_eq_false (by omega)]; symm; simp; omega
    rw [E]
    clear E
    go_enter Tryd.func35, Tryd.ntmps35
    go_wp2
    go_ret
    exact ⟨rfl, rfl⟩
  · by_cases h2 : n ≤ high
    · have E := inB_yes (by omega : low ≤ n) h2
      rw [E]
      clear E hlh
      go_enter Tryd.func35, Tryd.ntmps35
      go_wp2
      go_ret
      exact ⟨rfl, rfl⟩
    · have E : inB n low high = (n == high) := by unfold inB; rw [decide_eq_false (by omega)]; symm; simp; omega
      rw [E]
      clear E hlh
      go_enter Tryd.func35, Tryd.ntmps35
      go_wp2
      go_ret
      exact ⟨rfl, rfl⟩
end Go.Proofs.YtbckdfoapmjilaaDoor.Wi
