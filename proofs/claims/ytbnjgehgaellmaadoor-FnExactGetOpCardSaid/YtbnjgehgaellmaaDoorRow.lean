/-
  A slice of numbers or bytes that came in.
-/
import Derived.Test.YtbnjgehgaellmaaDoorGfCore
namespace Go.Proofs.YtbnjgehgaellmaaDoor.At
open Go.RowKit

/-- What the frame of a law tells of a slice of integers that came in. -/
def IsRow (k : IntKind) (w : World) (a : Option Addr) (len cap : Nat) (zs : List Int) : Prop :=
  (a = none ∧ len = 0 ∧ cap = 0 ∧ zs = []) ∨
  ∃ x, a = some x ∧ len ≤ cap ∧ cap ≤ maxLen ∧ zs.length = cap ∧ (∀ i, i < zs.length → w.cell? (x.add i) = some (.int k (zs.getD i 0))) ∧ ∀ n ∈ zs, (Lit.int k n).wf = true

theorem u8_bounds {n : Int} (h : (Lit.int .u8 n).wf = true) : 0 ≤ n ∧ n ≤ 255 := by
  simp [Lit.wf, IntKind.min, IntKind.max, IntKind.signed, IntKind.bits] at h
  omega
/-- The bytes of the slice, in a world in which its cells read as they did. -/
def Byts (w : World) (a : Option Addr) (len : Nat) (f : Nat → Int) : Prop :=
  len = 0 ∨ ∃ b off, a = some ⟨b, off, none⟩ ∧ len ≤ 9223372036854775807 ∧ b < w.heap.size ∧ ∀ i, i < len → w.cell? ⟨b, off + i, none⟩ = some (.int .u8 (f i)) ∧ 0 ≤ f i ∧ f i ≤ 255
theorem IsRow.byts {w : World} {a : Option Addr} {len cap : Nat} {zs : List Int} (h : IsRow .u8 w a len cap zs) : Byts w a len (fun i => zs.getD i 0) := by
  rcases h with ⟨rfl, rfl, rfl, rfl⟩ | ⟨x, rfl, hl, hm, hz, hcell, hwz⟩
  · exact .inl rfl
  · by_cases h0 : len = 0
    · exact .inl h0
    · obtain ⟨b, off, spot⟩ := x
      have hc := hcell 0 (by omega)
      have hspot : spot = none := by simpa [Addr.add] using World.cell?_spot hc
      subst hspot
      refine .inr ⟨b, off, rfl, by unfold maxLen at hm; omega, World.block_lt_of_cell? w ⟨b, off, none⟩ (by simpa [Addr.add] using hc), fun i hi => ⟨by have := hcell i (by omega); rwa [Addr.add_lit] at this, ?_⟩⟩
      have hi' : i < zs.length := by omega
      have hmem : zs.getD i 0 ∈ zs := by rw [List.getD_eq_getElem?_getD, List.getElem?_eq_getElem hi']; exact List.getElem_mem hi'
      exact u8_bounds (hwz _ hmem)
theorem Byts.below {w w' : World} {a : Option Addr} {len : Nat} {f : Nat → Int} (h : Byts w a len f) (hb : Below w.heap.size w w') : Byts w' a len f := by
  rcases h with h | ⟨b, off, rfl, hl, hB, hc⟩
  · exact .inl h
  · exact .inr ⟨b, off, rfl, hl, Nat.lt_of_lt_of_le hB hb.size, fun i hi => ⟨(hb.cell hB).trans (hc i hi).1, (hc i hi).2⟩⟩

theorem under_ret {a b : Int} (h : a = b) : Ending.returned (.int .i64 a) = .returned (.int .i64 b) := by rw [h]
/-- Some number from 0 to n - 1. -/
def Under (n : Int) (e : Ending) : Prop := ∃ r : Int, 0 ≤ r ∧ r < n ∧ e = .returned (.int .i64 r)

theorem Under.mod {X n : Int} (hn : 1 ≤ n) : Under n (.returned (.int .i64 (X % n))) := ⟨_, Int.emod_nonneg _ (by omega), Int.emod_lt_of_pos _ (by omega), rfl⟩

end Go.Proofs.YtbnjgehgaellmaaDoor.At
