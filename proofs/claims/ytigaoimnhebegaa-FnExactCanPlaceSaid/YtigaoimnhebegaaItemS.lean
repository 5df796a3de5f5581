/-
  The laws' own helpers on slices of items.
-/
import Derived.Test.YtigaoimnhebegaaRecs
namespace Go.Proofs.Ytigaoimnhebegaa.Rc
open Go.RowKit Go.Proofs.Ytigaoimnhebegaa.It
set_option linter.unusedVariables false

def SliceOf2 (n : Nat) (f g : Nat → Int) (w : World) (e : Ending) (w' : World) : Prop := ∃ q, e = .returned (.slice (some ⟨q, 0, none⟩) n n) ∧ Copied2 w w' q n f g

def TrueB (w : World) (e : Ending) (w' : World) : Prop := e = .returned (.bool true) ∧ Below w.heap.size w w'

theorem undrew {V w1 : World} (h : Below V.drew.heap.size V.drew w1) : Below V.heap.size V w1 := ⟨h.os, h.tape, h.output, h.size, h.block⟩

end Go.Proofs.Ytigaoimnhebegaa.Rc
