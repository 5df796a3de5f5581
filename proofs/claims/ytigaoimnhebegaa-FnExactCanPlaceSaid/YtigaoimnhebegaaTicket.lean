/-
  The ticket of one unit of an item: the hash of four words, in the program and in the model; and the exact law of TicketOf.
-/
import Derived.Test.YtigaoimnhebegaaMix
import Derived.Test.YtigaoimnhebegaaGfSpec
namespace Go.Proofs.Ytigaoimnhebegaa.Tk
open Go.RowKit Go.Proofs.Ytigaoimnhebegaa.MixC
set_option linter.unusedVariables false

/-- The number of a ticket. -/
def tk (id unit seed try' : Int) : Int := ((Mx.mix [seed, try', id, unit] : Nat) : Int)
theorem tk_lt (id unit seed try' : Int) : 0 ≤ tk id unit seed try' ∧ tk id unit seed try' ≤ 4294967295 := by
  unfold tk; have := Mx.mix_lt [seed, try', id, unit]; omega
/-- A number, and memory that was there is as it was. -/
def IntB (n : Int) (w : World) (e : Ending) (w' : World) : Prop := e = .returned (.int .i64 n) ∧ Below w.heap.size w w'
theorem nums4 (w : World) (a b c d : Int) : Nums (w.alloc (.cells #[.int .i64 a, .int .i64 b, .int .i64 c, .int .i64 d] 2)) w.heap.size 0 [a, b, c, d] := by
  intro i hi
  rw [Nat.zero_add, World.cell?_alloc_new]
  have h4 : i = 0 ∨ i = 1 ∨ i = 2 ∨ i = 3 := by simp at hi; omega
  rcases h4 with rfl | rfl | rfl | rfl <;> rfl
end Go.Proofs.Ytigaoimnhebegaa.Tk
