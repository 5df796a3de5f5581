/-
  Data of the type []string: the laws' helpers on it.
-/
import Derived.Test.YtdieekgihdikdaaRdI
import Derived.Test.YtdieekgihdikdaaStrS
namespace Go.Proofs.Ytdieekgihdikdaa.Rd
open Go.RowKit Go.ChangeShapes Go.WideShapes
open Go.Proofs.Ytdieekgihdikdaa.Sg (BxN)
set_option linter.unusedVariables false
set_option linter.unusedSimpArgs false

def stAt (l : List ByteArray) (i : Nat) : ByteArray := l.getD i ByteArray.empty
theorem stAt_eq {l : List ByteArray} {i : Nat} {x : ByteArray} (h : l[i]? = some x) : stAt l i = x := by unfold stAt; rw [List.getD_eq_getElem?_getD, h]; rfl
theorem rows_strs {fr : Bool} {lo : Nat} {w : World} {a : Option Addr} {l : List ByteArray} (h : Rows fr lo w a l) : Sg.Strs w a l.length (stAt l) := by
  rcases h with h | ⟨b, off, e, h0, hB, hf, hc⟩
  · exact .inl (by rw [h]; rfl)
  · refine .inr ⟨b, off, e, hB, fun i hi => ?_⟩
    obtain ⟨cs, ⟨rfl, _⟩, cc⟩ := hc i _ (List.getElem?_eq_getElem hi)
    have := cc 0 _ rfl
    rw [show off + i * Rdb.size ByteArray + 0 = off + i from by show off + i * 1 + 0 = _; omega] at this
    rw [this, stAt_eq (List.getElem?_eq_getElem hi)]
theorem rows_strsz {fr : Bool} {lo : Nat} {w : World} {a : Option Addr} {l : List ByteArray} (h : Rows fr lo w a l) : ∀ x, x ∈ l → x.size ≤ 9223372036854775807 := by
  intro z hz
  obtain ⟨i, hi, rfl⟩ := List.getElem_of_mem hz
  rcases h with h | ⟨b, off, e, h0, hB, hf, hc⟩
  · subst h; simp at hi
  · obtain ⟨cs, ⟨_, r⟩, _⟩ := hc i _ (List.getElem?_eq_getElem hi); exact r
theorem rows_ofs {fr : Bool} {lo : Nat} {w : World} {b off : Nat} {l : List ByteArray} (h0 : lo ≤ b) (hB : b < w.heap.size) (hf : fr = true → ∀ i, w.frozen? ⟨b, i, none⟩ = false) (hn : ∀ i, i < l.length → w.cell? ⟨b, off + i, none⟩ = some (.string (stAt l i))) (hz : ∀ x, x ∈ l → x.size ≤ 9223372036854775807) : Rows fr lo w (some ⟨b, off, none⟩) l := by
  refine .inr ⟨b, off, rfl, h0, hB, hf, fun i x hx => ⟨[.string x], ⟨rfl, hz x (List.mem_of_getElem? hx)⟩, fun c v hv => ?_⟩⟩
  have hi := (List.getElem?_eq_some_iff.1 hx).1
  have e := hn i hi
  rw [stAt_eq hx] at e
  have hc : c < 1 := (List.getElem?_eq_some_iff.1 hv).1
  obtain rfl : c = 0 := by omega
  obtain rfl : Value.string x = v := by simpa using hv
  rw [show off + i * Rdb.size ByteArray + 0 = off + i from by show off + i * 1 + 0 = _; omega]
  exact e
theorem tot_str (l : List ByteArray) : ∀ k, k ≤ l.length → Sg.tot l.length (stAt l) k = tot l k
  | 0, _ => (tot_zero l).symm
  | k + 1, h => by
    have hx : l[k]? = some l[k] := List.getElem?_eq_getElem (by omega)
    rw [tot_succ hx, ← tot_str l k (by omega)]
    show Sg.tot l.length (stAt l) k + (stAt l k).size = _
    rw [stAt_eq hx]; rfl
theorem szStringS (a : Option Addr) (cap : Nat) (l : List ByteArray) (left : Int) (l0 : 0 ≤ left) (l1 : left ≤ 2097152) (w : World) {fr : Bool} {lo : Nat} (hl : l.length ≤ 9223372036854775807) (hc : Rows fr lo w a l) :
    Calls Try.prog 43 #[.slice a l.length cap, .int .i64 left] w (SzB left (Rdb.sz l) w) := by
  have hz := rows_strsz hc
  refine (Sg.szStringS a l.length cap (stAt l) left l0 l1 w ⟨hl, rows_strs hc, fun i hi => by rw [stAt_eq (List.getElem?_eq_getElem hi)]; exact hz _ (List.getElem_mem hi)⟩).mono ?_
  rintro e w' ⟨rfl, rfl⟩
  rw [tot_str l _ (Nat.le_refl _), tot_all]
  exact ⟨rfl, Below.refl _ _⟩
theorem toStringS (a : Option Addr) (cap : Nat) (l : List ByteArray) (w : World) (hs : Rdb.sz l ≤ 2097152) {fr : Bool} {lo : Nat} (hc : Rows fr lo w a l) :
    Calls Try.prog 48 #[.slice a l.length cap] w (SlC l w) := by
  refine (Sg.toStringS a cap l.length (stAt l) w (Nat.le_trans (sz_len l) hs) (rows_strs hc)).mono ?_
  rintro e w' ⟨g, rfl, K⟩
  exact ⟨g, rfl, rows_ofs K.new K.lt (fun _ => K.free) K.cells (rows_strsz hc), K.new, K.lt, K.free, K.below⟩
theorem eqStringS (a b : Option Addr) (cap1 cap2 : Nat) (l : List ByteArray) (w : World) (hs : Rdb.sz l ≤ 2097152) {fr fr2 : Bool} {lo lo2 : Nat} (ha : Rows fr lo w a l) (hb : Rows fr2 lo2 w b l) :
    Calls Try.prog 59 #[.slice a l.length cap1, .slice b l.length cap2] w (TrueW w) :=
  Sg.eqStringS a b cap1 cap2 l.length (stAt l) w (Nat.le_trans (sz_len l) hs) (rows_strs ha) (rows_strs hb)
end Go.Proofs.Ytdieekgihdikdaa.Rd
