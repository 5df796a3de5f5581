/-
  WriteAll in the model.
-/
import Derived.Test.YtdieekgihdikdaaDkW
import Derived.Test.YtdieekgihdikdaaDkR
import Derived.Deep.RegionLaw
namespace Go.Proofs.Ytdieekgihdikdaa.Rd
open Go.RowKit Go.ChangeShapes Go.WideShapes Go.Proofs.Ytdieekgihdikdaa.GfI Go.Proofs.Ytdieekgihdikdaa.GfS
open Go.Proofs.Ytdieekgihdikdaa.Sg (BxN)
set_option linter.unusedVariables false
set_option linter.unusedSimpArgs false

/-- The elements' type of a block. -/
def TyB (w : World) (b : Nat) (T : TypeId) : Prop := ∃ c f, w.heap[b]? = some (.cells c T f)
theorem TyB.new (w : World) (c : Array Value) (T : TypeId) : TyB (w.alloc (.cells c T)) w.heap.size T := ⟨c, _, heap_alloc_new w _⟩
theorem TyB.lt {w : World} {b : Nat} {T : TypeId} (h : TyB w b T) : b < w.heap.size := by
  obtain ⟨c, f, e⟩ := h
  rcases Nat.lt_or_ge b w.heap.size with q | q
  · exact q
  · rw [Array.getElem?_eq_none q] at e; cases e
theorem TyB.later {w w' : World} {b : Nat} {T : TypeId} (h : TyB w b T) (k : Below w.heap.size w w') : TyB w' b T := by
  have hl := h.lt
  obtain ⟨c, f, e⟩ := h
  exact ⟨c, f, (k.block b hl).trans e⟩
theorem TyB.grown {w w' : World} {b : Nat} {T : TypeId} {row : Option Nat} (h : TyB w b T) (g : w.grownBy w' row) (hne : some b ≠ row) : TyB w' b T := by
  have hl := h.lt
  obtain ⟨c, f, e⟩ := h
  exact ⟨c, f, (g.block b hl hne).trans e⟩
theorem TyB.set {w : World} {b : Nat} {T : TypeId} (h : TyB w b T) (p : Addr) (v : Value) : TyB (w.setCell p v) b T := by
  obtain ⟨c, f, e⟩ := h
  by_cases q : p.block = b
  · subst q
    refine ⟨if p.spot.isSome then c else c.setIfInBounds p.off v, f, ?_⟩
    unfold World.setCell
    rw [Array.getElem?_modify, if_pos rfl, e]; rfl
  · exact ⟨c, f, by rw [heap_setCell_other w p b v (fun h => q h.symm)]; exact e⟩
theorem own_neT {α : Type} [Rdb α] [Enc α] {E T : TypeId} {B b : Nat} {w : World} {v : Value} {l : List α} (h : OwnL E B w v l) (k : TyB w b T) (ne : E ≠ T) : some b ≠ v.ownBlock := by
  intro e
  obtain ⟨c, f, hb⟩ := k
  rcases h.1.2 with ⟨rfl, _⟩ | ⟨g, cap, cur, rfl, _, hg, _⟩
  · cases e
  · obtain rfl : b = g := by cases e; rfl
    rw [hb] at hg
    simp only [Option.some.injEq, Obj.cells.injEq] at hg
    exact ne hg.2.1.symm
theorem OwnL.setT {α : Type} [Rdb α] [Enc α] {E T : TypeId} {B : Nat} {w : World} {v : Value} {l : List α} (h : OwnL E B w v l) (p : Addr) (u : Value) (k : TyB w p.block T) (ne : E ≠ T) : OwnL E B (w.setCell p u) v l :=
  h.heap (fun g e => heap_setCell_other w p g u (fun q => own_neT h k ne (by rw [← q]; exact e.symm)))
theorem BxN.grown {w w' : World} {b : Nat} {vs : List Value} {row : Option Nat} (h : Sg.BxN w b vs) (g : w.grownBy w' row) (hne : some b ≠ row) : Sg.BxN w' b vs :=
  ⟨Nat.lt_of_lt_of_le h.lt g.size, fun i v hv => g.cell (h.cells i v hv) hne, fun i => (World.frozen?_of_block (a := ⟨b, i, none⟩) (g.block b h.lt hne)).trans (h.free i)⟩
theorem AnsKR.zero {w w' : World} (rc : Int) (b : Below w.heap.size w w') : AnsKR zeroD rc w (.returned (.tuple #[.agg #[.slice none 0 0, .slice none 0 0], .int .i64 rc])) w' := (ansK_zero rc b).r
end Go.Proofs.Ytdieekgihdikdaa.Rd
