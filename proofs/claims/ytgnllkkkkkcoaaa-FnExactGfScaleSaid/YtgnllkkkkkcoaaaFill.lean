/-
  A new slice of bytes that a call makes at its length and fills from the front; the bytes of a string.
-/
import Derived.Test.YtgnllkkkkkcoaaaBuf
namespace Go.Proofs.Ytgnllkkkkkcoaaa.Bf
open Go.RowKit

/-- Byte i of a string; 0 behind its end. -/
def byteAt (s : ByteArray) (i : Nat) : Int := if h : i < s.size then ((s[i]'h).toNat : Int) else 0
theorem byteAt_at {s : ByteArray} {i : Nat} (h : i < s.size) : byteAt s i = ((s[i]'h).toNat : Int) := by unfold byteAt; rw [dif_pos h]
theorem byteAt_lt (s : ByteArray) (i : Nat) : 0 ≤ byteAt s i ∧ byteAt s i ≤ 255 := by
  unfold byteAt
  by_cases h : i < s.size
  · rw [dif_pos h]; have := (s[i]'h).toNat_lt; omega
  · rw [dif_neg h]; omega

/-- The first k bytes of the made slice in block g are f 0, f 1, .. -/
def Fill (W0 wr : World) (g n : Nat) (f : Nat → Int) (k : Nat) : Prop :=
  ∃ xs, wr.ownsRow W0.heap.size 5 1 (.slice (some ⟨g, 0, none⟩) n n) n xs ∧ (∀ j, j < k → xs[j]? = some (.int .u8 (f j))) ∧ Below W0.heap.size W0 wr ∧ W0.heap.size ≤ g
theorem Fill.below {W0 wr : World} {g n : Nat} {f : Nat → Int} {k : Nat} (h : Fill W0 wr g n f k) : Below W0.heap.size W0 wr := by obtain ⟨_, _, _, b, _⟩ := h; exact b
theorem Fill.cell {W0 wr : World} {g n : Nat} {f : Nat → Int} {k : Nat} (h : Fill W0 wr g n f k) (hk : k < n) : ∃ u, wr.cell? ⟨g, k, none⟩ = some u := by
  obtain ⟨xs, ho, _, _⟩ := h
  have hl := ho.1
  exact ⟨xs[k]'(by omega), (ho.cellAt k (by omega)).trans (List.getElem?_eq_getElem (by omega))⟩
theorem Fill.free {W0 wr : World} {g n : Nat} {f : Nat → Int} {k : Nat} (h : Fill W0 wr g n f k) (j : Nat) : wr.frozen? ⟨g, j, none⟩ = false := by
  obtain ⟨xs, ho, _, _⟩ := h; exact ho.frozenAt j
theorem Fill.put {W0 wr : World} {g n : Nat} {f : Nat → Int} {k : Nat} (h : Fill W0 wr g n f k) (hk : k < n) : Fill W0 (wr.setCell ⟨g, k, none⟩ (.int .u8 (f k))) g n f (k + 1) := by
  obtain ⟨xs, ho, hx, hb, hg⟩ := h
  have hl := ho.1
  refine ⟨_, (ho.stored k _).1, fun j hj => ?_, hb.setCell hg _, hg⟩
  rw [List.getElem?_set]
  by_cases e : k = j
  · subst e; rw [if_pos rfl, if_pos (by omega)]
  · rw [if_neg e]; exact hx j (by omega)
theorem Fill.done {W0 wr : World} {g n : Nat} {f : Nat → Int} (h : Fill W0 wr g n f n) : Buf W0 wr (.slice (some ⟨g, 0, none⟩) n n) ((List.range n).map f) := by
  obtain ⟨xs, ho, hx, hb, hg⟩ := h
  have hl := ho.1
  have e : xs = ((List.range n).map f).map (Value.int IntKind.u8) := by
    apply List.ext_getElem?
    intro i
    by_cases hi : i < n
    · rw [hx i hi, List.getElem?_map, List.getElem?_map, List.getElem?_range hi]; rfl
    · rw [List.getElem?_eq_none (by omega), List.getElem?_eq_none (by simp; omega)]
  rw [e] at ho
  refine ⟨?_, hb, hb.size⟩
  rw [show ((List.range n).map f).length = n from by simp]
  exact World.ownsRowF_of ho
theorem range_snoc (k : Nat) (f : Nat → Int) : (List.range (k + 1)).map f = (List.range k).map f ++ [f k] := by rw [List.range_succ, List.map_append]; rfl
end Go.Proofs.Ytgnllkkkkkcoaaa.Bf
