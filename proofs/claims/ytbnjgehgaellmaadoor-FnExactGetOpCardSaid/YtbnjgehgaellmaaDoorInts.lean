/-
  The laws' own helpers on slices of numbers: a copy of a slice, and whether two slices hold the same numbers.
-/
import Derived.Test.YtbnjgehgaellmaaDoorNums
namespace Go.Proofs.YtbnjgehgaellmaaDoor.MixC
open Go.RowKit Go.Proofs.YtbnjgehgaellmaaDoor.At

theorem info2 : (Tryd.prog.info? 2).map (fun i => (i.zero, i.size, i.bytes)) = some (some (.int .i64 0), 1, 8) := by kernel_rfl

/-- The numbers of a slice that came in, nil or not. -/
def Words (w : World) (a : Option Addr) (zs : List Int) : Prop :=
  zs = [] ∨ ∃ b off, a = some ⟨b, off, none⟩ ∧ b < w.heap.size ∧ Nums w b off zs
theorem Nums.below {w w' : World} {b off : Nat} {zs : List Int} (h : Nums w b off zs) {B : Nat} (hb : Below B w w') (hB : b < B) : Nums w' b off zs :=
  fun i hi => (hb.cell hB).trans (h i hi)
theorem Words.below {w w' : World} {a : Option Addr} {zs : List Int} (h : Words w a zs) (hb : Below w.heap.size w w') : Words w' a zs := by
  rcases h with h | ⟨b, off, rfl, hB, hc⟩
  · exact .inl h
  · exact .inr ⟨b, off, rfl, Nat.lt_of_lt_of_le hB hb.size, hc.below hb hB⟩
theorem IsRow.words {w : World} {a : Option Addr} {len cap : Nat} {zs : List Int} (h : IsRow .i64 w a len cap zs) : Words w a (zs.take len) ∧ (zs.take len).length = len := by
  rcases h with ⟨rfl, rfl, rfl, rfl⟩ | ⟨x, rfl, hl, hm, hz, hcell, hwz⟩
  · exact ⟨.inl rfl, rfl⟩
  · have hlen : (zs.take len).length = len := by rw [List.length_take]; omega
    refine ⟨?_, hlen⟩
    by_cases h0 : len = 0
    · subst h0; exact .inl rfl
    · obtain ⟨b, off, spot⟩ := x
      have hc := hcell 0 (by omega)
      have hspot : spot = none := by simpa [Addr.add] using World.cell?_spot hc
      subst hspot
      refine .inr ⟨b, off, rfl, World.block_lt_of_cell? w ⟨b, off, none⟩ (by simpa [Addr.add] using hc), fun i hi => ?_⟩
      have := hcell i (by omega)
      rw [Addr.add_lit] at this
      rw [this, List.getD_eq_getElem?_getD, List.getD_eq_getElem?_getD, List.getElem?_take, if_pos (by omega)]

/-- A new slice that holds the numbers zs, made after world w. -/
structure Copied (w w' : World) (g : Nat) (zs : List Int) : Prop where
  new : w.heap.size ≤ g
  lt : g < w'.heap.size
  nums : Nums w' g 0 zs
  free : ∀ i, w'.frozen? ⟨g, i, none⟩ = false
  below : Below w.heap.size w w'
theorem Copied.later {w w1 w2 : World} {g : Nat} {zs : List Int} (h : Copied w w1 g zs) (hb : Below w1.heap.size w1 w2) : Nums w2 g 0 zs := h.nums.below hb h.lt

/-- After k rounds of the copy. -/
def Round (w wr : World) (n : Nat) (zs : List Int) (k : Nat) : Prop :=
  ∃ xs, wr.ownsRow w.heap.size 2 1 (.slice (some ⟨w.heap.size, 0, none⟩) n n) n xs ∧ (∀ j, j < k → xs[j]? = some (.int .i64 (zs.getD j 0))) ∧ Below w.heap.size w wr
theorem Round.below {w wr : World} {n : Nat} {zs : List Int} {k : Nat} (h : Round w wr n zs k) : Below w.heap.size w wr := by obtain ⟨_, _, _, b⟩ := h; exact b
theorem Round.cell {w wr : World} {n : Nat} {zs : List Int} {k : Nat} (h : Round w wr n zs k) (hk : k < n) : ∃ u, wr.cell? ⟨w.heap.size, k, none⟩ = some u := by
  obtain ⟨xs, ho, _, _⟩ := h
  have hl := ho.1
  exact ⟨xs[k]'(by omega), (ho.cellAt k (by omega)).trans (List.getElem?_eq_getElem (by omega))⟩
theorem Round.free {w wr : World} {n : Nat} {zs : List Int} {k : Nat} (h : Round w wr n zs k) (j : Nat) : wr.frozen? ⟨w.heap.size, j, none⟩ = false := by
  obtain ⟨xs, ho, _, _⟩ := h; exact ho.frozenAt j
theorem Round.put {w wr : World} {n : Nat} {zs : List Int} {k : Nat} (h : Round w wr n zs k) (hk : k < n) :
    Round w (wr.setCell ⟨w.heap.size, k, none⟩ (.int .i64 (zs.getD k 0))) n zs (k + 1) := by
  obtain ⟨xs, ho, hx, hb⟩ := h
  have hl := ho.1
  refine ⟨_, (ho.stored k _).1, fun j hj => ?_, hb.setCell (Nat.le_refl _) _⟩
  rw [List.getElem?_set]
  by_cases e : k = j
  · subst e; rw [if_pos rfl, if_pos (by omega)]
  · rw [if_neg e]; exact hx j (by omega)
theorem Round.done {w wr : World} {n : Nat} {zs : List Int} (h : Round w wr n zs n) (hn : n = zs.length) : Copied w wr w.heap.size zs := by
  have hf := h.free
  obtain ⟨xs, ho, hx, hb⟩ := h
  refine ⟨Nat.le_refl _, (ho.lt _ rfl).2, fun i hi => ?_, hf, hb⟩
  rw [Nat.zero_add, ho.cellAt i (by omega)]
  exact hx i (by omega)
def SliceOf (zs : List Int) (w : World) (e : Ending) (w' : World) : Prop := ∃ g, e = .returned (.slice (some ⟨g, 0, none⟩) zs.length zs.length) ∧ Copied w w' g zs

theorem Copied.words {w w' : World} {g : Nat} {zs : List Int} (h : Copied w w' g zs) : Words w' (some ⟨g, 0, none⟩) zs := .inr ⟨g, 0, rfl, h.lt, h.nums⟩
end Go.Proofs.YtbnjgehgaellmaaDoor.MixC
