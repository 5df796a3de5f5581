/-
  Data of the type []string: the laws' helpers on it.
-/
import Derived.Test.YtbnjgehgaellmaaDoorRdI
import Derived.Test.YtbnjgehgaellmaaDoorStrS
namespace Go.Proofs.YtbnjgehgaellmaaDoor.Rd
open Go.RowKit Go.ChangeShapes Go.WideShapes
open Go.Proofs.YtbnjgehgaellmaaDoor.Sg (BxN)
set_option linter.unusedVariables false
set_option linter.unusedSimpArgs false

def stAt (l : List ByteArray) (i : Nat) : ByteArray := l.getD i ByteArray.empty
theorem stAt_eq {l : List ByteArray} {i : Nat} {x : ByteArray} (h : l[i]? = some x) : stAt l i = x := by unfold stAt; rw [List.getD_eq_getElem?_getD, h]; rfl
theorem rows_strs {fr : Bool} {lo : Nat} {w : World} {a : Option Addr} {l : List ByteArray} (h : Rows fr lo w a l) : Sg.Strs w a l.length (stAt l) := by
  rcases h with h | ⟨b, off, e, h0, hB, hf, hc⟩
  · exact .inl (by rw [h]; rfl)
  · refine .inr ⟨b, off, e, hB, fun i hi => ?_⟩
    obtain ⟨cs, ⟨rfl, _⟩, cc⟩ := hc i _ (List.getElem?_eq_getElem hi)
    have := cc 0 _ rfl
    rw [show off + i * Rdb.size ByteArray + 0 = off + i from by show off + i * 1 + 0 = _; omega] at this
    rw [this, stAt_eq (List.getElem?_eq_getElem hi)]
theorem rows_strsz {fr : Bool} {lo : Nat} {w : World} {a : Option Addr} {l : List ByteArray} (h : Rows fr lo w a l) : ∀ x, x ∈ l → x.size ≤ 9223372036854775807 := by
  intro z hz
  obtain ⟨i, hi, rfl⟩ := List.getElem_of_mem hz
  rcases h with h | ⟨b, off, e, h0, hB, hf, hc⟩
  · subst h; simp at hi
  · obtain ⟨cs, ⟨_, r⟩, _⟩ := hc i _ (List.getElem?_eq_getElem hi); exact r
theorem rows_ofs {fr : Bool} {lo : Nat} {w : World} {b off : Nat} {l : List ByteArray} (h0 : lo ≤ b) (hB : b < w.heap.size) (hf : fr = true → ∀ i, w.frozen? ⟨b, i, none⟩ = false) (hn : ∀ i, i < l.length → w.cell? ⟨b, off + i, none⟩ = some (.string (stAt l i))) (hz : ∀ x, x ∈ l → x.size ≤ 9223372036854775807) : Rows fr lo w (some ⟨b, off, none⟩) l := by
  refine .inr ⟨b, off, rfl, h0, hB, hf, fun i x hx => ⟨[.string x], ⟨rfl, hz x (List.mem_of_getElem? hx)⟩, fun c v hv => ?_⟩⟩
  have hi := (List.getElem?_eq_some_iff.1 hx).1
  have e := hn i hi
  rw [stAt_eq hx] at e
  have hc : c < 1 := (List.getElem?_eq_some_iff.1 hv).1
  obtain rfl : c = 0 := by omega
  obtain rfl : Value.string x = v := by simpa using hv
  rw [show off + i * Rdb.size ByteArray + 0 = off + i from by show off + i * 1 + 0 = _; omega]
  exact e
theorem tot_str (l : List ByteArray) : ∀ k, k ≤ l.length → Sg.tot l.length (stAt l) k = tot l k
  | 0, _ => (tot_zero l).symm
  | k + 1, h => by
    have hx : l[k]? = some l[k] := List.getElem?_eq_getElem (by omega)
    rw [tot_succ hx, ← tot_str l k (by omega)]
    show Sg.tot l.length (stAt l) k + (stAt l k).size = _
    rw [stAt_eq hx]; rfl
end Go.Proofs.YtbnjgehgaellmaaDoor.Rd
