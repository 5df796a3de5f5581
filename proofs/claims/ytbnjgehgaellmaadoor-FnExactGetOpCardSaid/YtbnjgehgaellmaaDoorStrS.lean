/-
  The laws' own helpers on slices of strings.
-/
import Derived.Test.YtbnjgehgaellmaaDoorStrs
import Derived.BigQuiet
import Derived.Deep.QuietTactic
import Derived.Laws.MakeOwn
import Derived.OwnWalk
namespace Go.Proofs.YtbnjgehgaellmaaDoor.Sg
open Go.RowKit Go.Proofs.YtbnjgehgaellmaaDoor.GfI
set_option linter.unusedVariables false

theorem infoS : (Tryd.prog.info? 9).map (fun i => (i.zero, i.size, i.bytes)) = some (some (.string ⟨#[]⟩), 1, 16) := by kernel_rfl

/-- The strings' number and their bytes together. -/
def tot (n : Nat) (S : Nat → ByteArray) : Nat → Nat
  | 0 => n
  | k + 1 => tot n S k + (S k).size
theorem tot_mono (n : Nat) (S : Nat → ByteArray) {i : Nat} : ∀ {j : Nat}, i ≤ j → tot n S i ≤ tot n S j
  | 0, h => by obtain rfl : i = 0 := by omega
               exact Nat.le_refl _
  | j + 1, h => by
    by_cases e : i = j + 1
    · rw [e]; exact Nat.le_refl _
    · have := tot_mono n S (i := i) (j := j) (by omega); have e1 : tot n S (j + 1) = tot n S j + (S j).size := rfl; omega

/-- A new slice of n strings, made after world w. -/
structure CopyS (w w' : World) (g n : Nat) (S : Nat → ByteArray) : Prop where
  new : w.heap.size ≤ g
  lt : g < w'.heap.size
  cells : ∀ i, i < n → w'.cell? ⟨g, 0 + i, none⟩ = some (.string (S i))
  free : ∀ i, w'.frozen? ⟨g, i, none⟩ = false
  below : Below w.heap.size w w'
theorem CopyS.strs {w w' : World} {g n : Nat} {S : Nat → ByteArray} (h : CopyS w w' g n S) : Strs w' (some ⟨g, 0, none⟩) n S := .inr ⟨g, 0, rfl, h.lt, h.cells⟩
/-- After k rounds of the copy. -/
structure RndS (w wr : World) (n k : Nat) (S : Nat → ByteArray) : Prop where
  own : ∃ xs, wr.ownsRow w.heap.size 9 1 (.slice (some ⟨w.heap.size, 0, none⟩) n n) n xs ∧ ∀ j, j < k → xs[j]? = some (.string (S j))
  below : Below w.heap.size w wr
theorem RndS.cell {w wr : World} {n k : Nat} {S : Nat → ByteArray} (h : RndS w wr n k S) (hk : k < n) : ∃ u, wr.cell? ⟨w.heap.size, k, none⟩ = some u := by
  obtain ⟨xs, ho, _⟩ := h.own
  have hl := ho.1
  exact ⟨xs[k]'(by omega), (ho.cellAt k (by omega)).trans (List.getElem?_eq_getElem (by omega))⟩
theorem RndS.free {w wr : World} {n k : Nat} {S : Nat → ByteArray} (h : RndS w wr n k S) (j : Nat) : wr.frozen? ⟨w.heap.size, j, none⟩ = false := by
  obtain ⟨xs, ho, _⟩ := h.own; exact ho.frozenAt j
theorem RndS.put {w wr : World} {n k : Nat} {S : Nat → ByteArray} (h : RndS w wr n k S) (hk : k < n) : RndS w (wr.setCell ⟨w.heap.size, k, none⟩ (.string (S k))) n (k + 1) S := by
  obtain ⟨xs, ho, hx⟩ := h.own
  have hl := ho.1
  refine ⟨⟨_, (ho.stored k _).1, fun j hj => ?_⟩, h.below.setCell (Nat.le_refl _) _⟩
  rw [List.getElem?_set]
  by_cases e : k = j
  · subst e; rw [if_pos rfl, if_pos (by omega)]
  · rw [if_neg e]; exact hx j (by omega)
theorem RndS.done {w wr : World} {n : Nat} {S : Nat → ByteArray} (h : RndS w wr n n S) : CopyS w wr w.heap.size n S := by
  have hf := h.free
  obtain ⟨xs, ho, hx⟩ := h.own
  refine ⟨Nat.le_refl _, (ho.lt _ rfl).2, fun i hi => ?_, hf, h.below⟩
  rw [Nat.zero_add, ho.cellAt i (by omega)]
  exact hx i (by omega)
def SliceOfS (n : Nat) (S : Nat → ByteArray) (w : World) (e : Ending) (w' : World) : Prop := ∃ g, e = .returned (.slice (some ⟨g, 0, none⟩) n n) ∧ CopyS w w' g n S

def TrueB (w : World) (e : Ending) (w' : World) : Prop := e = .returned (.bool true) ∧ Below w.heap.size w w'

end Go.Proofs.YtbnjgehgaellmaaDoor.Sg
