/-
  A byte of a text turned, in the model.
-/
import Derived.Test.YtdieekgihdikdaaBlk
import Derived.Laws.IdiomStrings
namespace Go.Proofs.Ytdieekgihdikdaa.Rd
open Go.RowKit Go.ChangeShapes Go.WideShapes Go.Proofs.Ytdieekgihdikdaa.GfI Go.Proofs.Ytdieekgihdikdaa.GfS
open Go.Proofs.Ytdieekgihdikdaa.Sg (BxN)
set_option linter.unusedVariables false
set_option linter.unusedSimpArgs false

/-- Numbers of bytes, one of them turned by an exclusive or. -/
def turnL (xs : List Int) (p : Nat) (y : Int) : List Int := xs.set p (bits .xor .u8 (xs.getD p 0) y)
theorem turnL_len (xs : List Int) (p : Nat) (y : Int) : (turnL xs p y).length = xs.length := List.length_set
def turnS (s : ByteArray) (p : Nat) (y : Int) : ByteArray := strOfNums (turnL (nums s) p y)
theorem turnS_size (s : ByteArray) (p : Nat) (y : Int) : (turnS s p y).size = s.size := by unfold turnS; rw [strOfNums_size, turnL_len, nums_len]
theorem bytesRow_num (s : ByteArray) (cap j : Nat) (hj : j < s.size) : (bytesRow s cap)[j]? = some (.int .u8 ((nums s).getD j 0)) := by
  have hj' : j < s.data.size := hj
  rw [bytesRow_at s cap j hj', List.getD_eq_getElem?_getD]
  unfold nums
  rw [List.getElem?_map, Array.getElem?_toList, Array.getElem?_eq_getElem hj']; rfl
/-- []byte(s), in memory of its own. -/
theorem bytes_of (s : ByteArray) (w : World) : ∃ W c, (convert 9 64 (.string s)).run Try.prog w = .ok (.slice (some ⟨w.heap.size, 0, none⟩) s.size c) W ∧ Below w.heap.size w W ∧ w.heap.size < W.heap.size ∧
    (∀ i, i < s.size → W.cell? ⟨w.heap.size, i, none⟩ = some (.int .u8 ((nums s).getD i 0))) ∧ (∀ i, i < s.size → W.frozen? ⟨w.heap.size, i, none⟩ = false) := by
  have h := run_bytes_of_string (P := Try.prog) w 9 64 5 s Try.underlying9 Try.underlying64 Try.underlying5
  generalize hc : grownCap w s.size 0 5 = c at h
  have hg : (w.drew.alloc (.cells (bytesRow s c) 5 ((bytesRow s c).size, (bytesRow s c).size + 1))).heap[w.heap.size]? = some (.cells (bytesRow s c) 5 ((bytesRow s c).size, (bytesRow s c).size + 1)) := heap_alloc_new w.drew _
  refine ⟨_, _, h, ((Below.refl _ w).drew).trans (lay w.drew _), by rw [World.size_alloc]; exact Nat.lt_succ_self _, fun i hi => ?_, fun i hi => ?_⟩
  · rw [cell_of_row _ _ _ _ _ _ hg, bytesRow_num s c i hi]
  · have hsz : s.size ≤ (bytesRow s c).size := by unfold bytesRow; rw [Array.size_append, Array.size_map]; show s.data.size ≤ _; omega
    have hg' : (w.drew.alloc (.cells (bytesRow s c) 5 ((bytesRow s c).size, (bytesRow s c).size + 1))).heap[w.heap.size]? = some (.cells (bytesRow s c) 5 ((bytesRow s c).size, (bytesRow s c).size + 1)) := hg
    simp only [World.frozen?, hg']
    simp
    omega
end Go.Proofs.Ytdieekgihdikdaa.Rd
