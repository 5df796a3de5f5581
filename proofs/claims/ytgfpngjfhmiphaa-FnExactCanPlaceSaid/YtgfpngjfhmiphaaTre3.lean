/-
  Trees (two slices): the laws' copy.
-/
import Derived.Test.YtgfpngjfhmiphaaTre2
namespace Go.Proofs.Ytgfpngjfhmiphaa.Bk
open Go.RowKit Go.Proofs.Ytgfpngjfhmiphaa.At Go.Proofs.Ytgfpngjfhmiphaa.MixC Go.Proofs.Ytgfpngjfhmiphaa.Ml
open Go.Proofs.Ytgfpngjfhmiphaa.It (lay chain)
open Go.Proofs.Ytgfpngjfhmiphaa.Rc (Recs Copied2 toDeviceS)
open Go.Proofs.Ytgfpngjfhmiphaa.Sg (BxN)
set_option linter.unusedVariables false

theorem c2far {w w' : World} {q n : Nat} {f g : Nat → Int} (h : Copied2 w w' q n f g) {p : Addr} (hp : p.block < q) (h0 : w.heap.size ≤ p.block) (v : Value) : Copied2 w (w'.setCell p v) q n f g :=
  have ne : ∀ o, p ≠ ⟨q, o, none⟩ := fun o e => Nat.ne_of_lt hp (congrArg Addr.block e)
  ⟨h.new, by simpa using h.lt, fun i hi => ⟨(World.cell?_setCell_other _ _ _ _ (ne _)).trans (h.cells i hi).1, (World.cell?_setCell_other _ _ _ _ (ne _)).trans (h.cells i hi).2⟩, fun i => (World.frozen?_setCell _ _ _ _).trans (h.free i), h.below.setCell h0 v⟩
theorem c2later {w w' w2 : World} {q n : Nat} {f g : Nat → Int} (h : Copied2 w w' q n f g) (b : Below w'.heap.size w' w2) : Copied2 w w2 q n f g :=
  have hn := h.new
  have hl := h.lt
  ⟨h.new, Nat.lt_of_lt_of_le h.lt b.size, fun i hi => ⟨(b.cell (p := ⟨q, 0 + i * 2, none⟩) hl).trans (h.cells i hi).1, (b.cell (p := ⟨q, 0 + i * 2 + 1, none⟩) hl).trans (h.cells i hi).2⟩, fun i => (b.frozen (p := ⟨q, i, none⟩) hl).trans (h.free i), h.below.trans (b.mono (by omega))⟩
theorem c2from {w V w' : World} {q n : Nat} {f g : Nat → Int} (h : Copied2 V w' q n f g) (b : Below w.heap.size w V) : Copied2 w w' q n f g :=
  ⟨Nat.le_trans b.size h.new, h.lt, h.cells, h.free, b.trans (h.below.mono b.size)⟩
theorem RndB.from {w V w' : World} {q n k : Nat} {f g : Nat → Int} {L : Nat → List Int} {J : Nat → Nat} (h : RndB V w' q n k f g L J) (b : Below w.heap.size w V) : RndB w w' q n k f g L J :=
  ⟨Nat.le_trans b.size h.new, h.lt, h.asc, h.cells, h.there, h.free, b.trans (h.below.mono b.size)⟩
theorem RndB.far {w w' : World} {q n k : Nat} {f g : Nat → Int} {L : Nat → List Int} {J : Nat → Nat} (h : RndB w w' q n k f g L J) {p : Addr} (hp : p.block < q) (h0 : w.heap.size ≤ p.block) (v : Value) : RndB w (w'.setCell p v) q n k f g L J := by
  have ne : ∀ o, p ≠ ⟨q, o, none⟩ := fun o e => Nat.ne_of_lt hp (congrArg Addr.block e)
  have hJ := h.cells
  refine ⟨h.new, by simpa using h.lt, h.asc, fun i hi => ?_, fun i hi => ?_, fun i => (World.frozen?_setCell _ _ _ _).trans (h.free i), h.below.setCell h0 v⟩
  · obtain ⟨c0, c1, c2, j0, j1, wd, fr⟩ := hJ i hi
    exact ⟨(World.cell?_setCell_other _ _ _ _ (ne _)).trans c0, (World.cell?_setCell_other _ _ _ _ (ne _)).trans c1, (World.cell?_setCell_other _ _ _ _ (ne _)).trans c2, j0, by simpa using j1, words_set wd (by omega) v, fun o => (World.frozen?_setCell _ _ _ _).trans (fr o)⟩
  · obtain ⟨u, hu⟩ := h.there i hi
    exact ⟨u, (World.cell?_setCell_other _ _ _ _ (ne _)).trans hu⟩
def TreeCopy (dn : Nat) (df dg : Nat → Int) (bn : Nat) (f g : Nat → Int) (L : Nat → List Int) (w : World) (e : Ending) (w' : World) : Prop :=
  ∃ p q J, e = .returned (tval (.slice (some ⟨p, 0, none⟩) dn dn) (.slice (some ⟨q, 0, none⟩) bn bn)) ∧ Copied2 w w' p dn df dg ∧ RndB w w' q bn bn f g L J ∧ p < q
end Go.Proofs.Ytgfpngjfhmiphaa.Bk
