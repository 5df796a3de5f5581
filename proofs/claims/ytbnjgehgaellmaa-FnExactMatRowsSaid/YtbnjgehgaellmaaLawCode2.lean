/-
  The generator matrix: what the model's function returns; the exact law of CodeMatrix.
-/
import Derived.Test.YtbnjgehgaellmaaCodeM
import Derived.Test.YtbnjgehgaellmaaMatRes2
import Derived.Deep.AppendLies
import Derived.IntWalk
namespace Go.Proofs.Ytbnjgehgaellmaa.Gf2
open Go.RowKit Go.Proofs.Ytbnjgehgaellmaa.At Go.Proofs.Ytbnjgehgaellmaa.MixC Go.Proofs.Ytbnjgehgaellmaa.Ml Go.Proofs.Ytbnjgehgaellmaa.Gr Go.Proofs.Ytbnjgehgaellmaa.Gj Go.Proofs.Ytbnjgehgaellmaa.GfI Go.Proofs.Ytbnjgehgaellmaa.GfS
set_option linter.unusedVariables false

/-- The first n cells of the generator matrix. -/
def codeL (k n : Nat) : List Int := (List.range n).map fun x => codeM k (x / k) (x % k)
theorem codeL_len (k n : Nat) : (codeL k n).length = n := by simp [codeL]
theorem codeL_unit (k : Nat) : flat k k unitZ = codeL k (k * k) := by
  unfold flat codeL
  refine List.map_congr_left fun x hx => ?_
  have hx := List.mem_range.1 hx
  have hw : 0 < k := by rcases Nat.eq_zero_or_pos k with q | q; (rw [q] at hx; omega); exact q
  unfold codeM
  rw [if_pos (by rw [Nat.div_lt_iff_lt_mul hw]; exact hx)]
theorem codeL_snoc {k i j : Nat} (hj : j < k) (hi : k ≤ i) : codeL k (i * k + j + 1) = codeL k (i * k + j) ++ [mulZ i (invZ (xorZ i j))] := by
  unfold codeL
  rw [List.range_succ, List.map_append]
  have hw : 0 < k := by omega
  have h1 : (i * k + j) / k = i := by rw [Nat.mul_comm, Nat.mul_add_div hw, Nat.div_eq_of_lt hj]; rfl
  have h2 : (i * k + j) % k = j := by rw [Nat.mul_comm, Nat.mul_add_mod, Nat.mod_eq_of_lt hj]
  show _ ++ [codeM k ((i * k + j) / k) ((i * k + j) % k)] = _
  rw [h1, h2]
  unfold codeM
  rw [if_neg (by omega)]
theorem codeL_row (k i : Nat) : codeL k (i * k + k) = codeL k ((i + 1) * k + 0) := by rw [Nat.add_zero, Nat.add_mul, Nat.one_mul]

/-- A matrix's box, its block known whole. -/
def Whole (w : World) (b : Nat) (x y z : Value) : Prop := w.heap[b]? = some (.cells #[x, y, z] 26 (0, 0))
theorem Whole.lt {w : World} {b : Nat} {x y z : Value} (h : Whole w b x y z) : b < w.heap.size := by
  rcases Nat.lt_or_ge b w.heap.size with q | q
  · exact q
  · unfold Whole at h; rw [Array.getElem?_eq_none q] at h; cases h
theorem Whole.bx {w : World} {b : Nat} {x y z : Value} (h : Whole w b x y z) : Bx w b x y z := by
  have c : ∀ i, w.cell? ⟨b, i, none⟩ = (#[x, y, z] : Array Value)[i]? := fun i => cell_of_row w b i _ _ _ h
  have f : ∀ i, w.frozen? ⟨b, i, none⟩ = false := fun i => frozen_of_row w b i _ _ h
  exact ⟨h.lt, c 0, c 1, c 2, f 0, f 1, f 2⟩
theorem Whole.top (V : World) (x y z : Value) : Whole (V.alloc (.cells #[x, y, z] 26)) V.heap.size x y z := heap_alloc_new V _
theorem Whole.grown {w w1 : World} {b : Nat} {x y z : Value} {r : Option Nat} (h : Whole w b x y z) (g : w.grownBy w1 r) (hr : r ≠ some b) : Whole w1 b x y z :=
  (g.block b h.lt (fun q => hr q.symm)).trans h
theorem Whole.below {w w1 : World} {b : Nat} {x y z : Value} (h : Whole w b x y z) (k : Below w.heap.size w w1) : Whole w1 b x y z := (k.block b h.lt).trans h
theorem Whole.put2 {w : World} {b : Nat} {x y z : Value} (h : Whole w b x y z) (u : Value) : Whole (w.setCell ⟨b, 2, none⟩ u) b x y u := heap_setCell_same w b 2 _ _ u h
theorem Whole.put0 {w : World} {b : Nat} {x y z : Value} (h : Whole w b x y z) (u : Value) : Whole (w.setCell ⟨b, 0, none⟩ u) b u y z := heap_setCell_same w b 0 _ _ u h
theorem Whole.ne {w : World} {b B : Nat} {x y z v : Value} {zs : List Int} (h : Whole w b x y z) (I : Ib B w v zs) : v.ownBlock ≠ some b := by
  rcases I with ⟨_, ⟨rfl, _⟩ | ⟨g, cap, cur, rfl, hb, hg, _⟩⟩
  · simp [Value.ownBlock]
  · intro e
    have : g = b := by simpa [Value.ownBlock] using e
    subst this
    unfold Whole at h; rw [h] at hg
    simp at hg
theorem Ib.apart {B : Nat} {w : World} {v : Value} {zs : List Int} (h : Ib B w v zs) {p : Addr} (hp : v.ownBlock ≠ some p.block) (u : Value) : Ib B (w.setCell p u) v zs :=
  World.ownsRow.kept (row := some p.block) h ⟨rfl, rfl, rfl, by simp, fun k _ hk => Below.heap_setCell _ _ _ _ (fun e => hk (by rw [e]))⟩ (.inr hp)

/-- One append to the cells of a matrix in a box, and the store into the box. -/
theorem app_done {w wr w3 : World} {b g cap : Nat} {x y v p q r : Value} {zs : List Int} {c : Int} {o : Obj} (I : Ib (w.heap.size + 1) wr v zs) (T : Whole wr b x y v) (R : Bx wr w.heap.size p q r) (B : Below w.heap.size w wr) (hb : w.heap.size < b)
    (hg : (wr.alloc o).grownBy w3 v.ownBlock) (ho : w3.ownsRow (w.heap.size + 1) 2 1 (.slice (some ⟨g, 0, none⟩) (zs.length + 1) cap) (zs.length + 1) (zs.map (Value.int .i64) ++ [.int .i64 c])) (hsz : w.heap.size + 1 ≤ wr.heap.size) :
    Whole w3 b x y v ∧ Ib (w.heap.size + 1) (w3.setCell ⟨b, 2, none⟩ (.slice (some ⟨g, 0, none⟩) (zs.length + 1) cap)) (.slice (some ⟨g, 0, none⟩) (zs.length + 1) cap) (zs ++ [c]) ∧
      Bx (w3.setCell ⟨b, 2, none⟩ (.slice (some ⟨g, 0, none⟩) (zs.length + 1) cap)) w.heap.size p q r ∧ Whole (w3.setCell ⟨b, 2, none⟩ (.slice (some ⟨g, 0, none⟩) (zs.length + 1) cap)) b x y (.slice (some ⟨g, 0, none⟩) (zs.length + 1) cap) ∧
      Below w.heap.size w (w3.setCell ⟨b, 2, none⟩ (.slice (some ⟨g, 0, none⟩) (zs.length + 1) cap)) := by
  have T3 : Whole w3 b x y v := (T.below (lay _ o)).grown hg (T.ne I)
  have bw := I.grown hsz o hg
  have I3 : Ib (w.heap.size + 1) w3 (.slice (some ⟨g, 0, none⟩) (zs.length + 1) cap) (zs ++ [c]) := by
    unfold Ib; rw [List.length_append, List.map_append]; exact ho
  exact ⟨T3, I3.apart (p := ⟨b, 2, none⟩) (T3.ne I3) _, (R.under (by omega) bw).far (p := ⟨b, 2, none⟩) (by show b ≠ w.heap.size; omega) _, T3.put2 _, (B.trans (bw.mono (by omega))).setCell (p := ⟨b, 2, none⟩) (by show w.heap.size ≤ b; omega) _⟩

end Go.Proofs.Ytbnjgehgaellmaa.Gf2
