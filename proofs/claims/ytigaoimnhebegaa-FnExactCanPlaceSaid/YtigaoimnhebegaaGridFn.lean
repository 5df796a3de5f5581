/-
  Grids of numbers: a new one of noughts, a row of one, the unit grid, a grid out of a matrix and back.
-/
import Derived.Test.YtigaoimnhebegaaGrid
import Derived.Test.YtigaoimnhebegaaGj
import Derived.Test.YtigaoimnhebegaaMatLaw
import Derived.OwnWalk
import Derived.IntWalk
namespace Go.Proofs.Ytigaoimnhebegaa.Gf2
open Go.RowKit Go.Proofs.Ytigaoimnhebegaa.At Go.Proofs.Ytigaoimnhebegaa.MixC Go.Proofs.Ytigaoimnhebegaa.Ml Go.Proofs.Ytigaoimnhebegaa.Gr Go.Proofs.Ytigaoimnhebegaa.Gj
set_option linter.unusedVariables false

theorem matMono {k : IntKind} {B C : Nat} {w : World} {g h wd : Nat} {M : Mx} (m : Mat k B w g h wd M) (hC : C ≤ B) : Mat k C w g h wd M := ⟨Nat.le_trans hC m.old, m.lt, m.cell, m.free⟩
/-- A grid as a value. -/
abbrev gval (h wd g n : Nat) : Value := .agg #[.int .i64 h, .int .i64 wd, .slice (some ⟨g, 0, none⟩) n n]
/-- A new grid that holds M. -/
def NewG (h wd : Nat) (M : Mx) (w : World) (e : Ending) (w' : World) : Prop :=
  ∃ g, e = .returned (gval h wd g (h * wd)) ∧ Mat .i64 w.heap.size w' g h wd M ∧ Below w.heap.size w w'

theorem below_of_grown {V w1 : World} (h : V.grownBy w1 none) : Below V.heap.size V w1 := ⟨h.os, h.tape, h.output, h.size, fun k hk => h.block k hk (by simp)⟩
theorem matMade {k : IntKind} {B b n h wd : Nat} {w1 : World} {e : TypeId} (ho : w1.ownsRow B e 1 (.slice (some ⟨b, 0, none⟩) n n) n (madeCells (Value.int k 0).cells (n * 1)).toList) (hn : n = h * wd) :
    Mat k B w1 b h wd (fun _ _ => 0) := by
  have hx : (madeCells (Value.int k 0).cells (n * 1)).toList = List.replicate n (Value.int k 0) := by
    rw [Nat.mul_one]; exact toList_madeCells_one _ _
  rw [hx] at ho
  obtain ⟨hb, hlt⟩ := ho.lt b rfl
  refine ⟨hb, hlt, fun i j hi hj => ?_, fun i => ho.frozenAt i⟩
  have := flat_lt hi hj
  rw [ho.cellAt _ (by omega), List.getElem?_replicate, if_pos (by omega)]
def ValB (v : Value) (w : World) (e : Ending) (w' : World) : Prop := e = .returned v ∧ Below w.heap.size w w'
theorem chain {w a b : World} (h : Below w.heap.size w a) (k : Below a.heap.size a b) : Below w.heap.size w b := h.trans (k.mono h.size)
theorem lay (w : World) (x : Obj) : Below w.heap.size w (w.alloc x) := (Below.refl _ _).alloc (Nat.le_refl _) _

end Go.Proofs.Ytigaoimnhebegaa.Gf2
