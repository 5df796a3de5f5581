/-
  The exact law of TreeOk: the program's answer is the model's, and the tree is left as it was.
-/
import Derived.Test.YtigaoimnhebegaaTlaw
namespace Go.Proofs.Ytigaoimnhebegaa.Tm
open Go.RowKit Go.Proofs.Ytigaoimnhebegaa.GfI Go.Proofs.Ytigaoimnhebegaa.GfS Go.Proofs.Ytigaoimnhebegaa.MixC
open Go.Proofs.Ytigaoimnhebegaa.It (lay chain)
open Go.Proofs.Ytigaoimnhebegaa.Bk (tval TreeSz)
open Go.Proofs.Ytigaoimnhebegaa.Sg (BxN)
set_option linter.unusedVariables false
set_option linter.unusedSimpArgs false

/-- A given answer; memory that was there is as it was. -/
def Ret (v : Value) (w : World) (e : Ending) (w' : World) : Prop := e = .returned v ∧ Below w.heap.size w w'
theorem IffB.ret {P : Prop} {b : Bool} (hb : b = true ↔ P) {w : World} {e : Ending} {w' : World} (h : IffB P w e w') : Ret (.bool b) w e w' := by
  obtain ⟨c, rfl, hc, bl⟩ := h
  have : c = b := by cases c <;> cases b <;> simp_all
  exact ⟨by rw [this], bl⟩
theorem exB (P : Prop) : ∃ b : Bool, b = true ↔ P := by
  classical
  exact ⟨decide P, by simp⟩

end Go.Proofs.Ytigaoimnhebegaa.Tm
