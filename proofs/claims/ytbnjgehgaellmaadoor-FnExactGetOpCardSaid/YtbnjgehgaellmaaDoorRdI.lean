/-
  Data that memory holds: slices of numbers, and the laws' helpers on them.
-/
import Derived.Test.YtbnjgehgaellmaaDoorRd
import Derived.Test.YtbnjgehgaellmaaDoorStrs
import Derived.Test.YtbnjgehgaellmaaDoorMatLaw
import Derived.Deep.RegionWith
namespace Go.Proofs.YtbnjgehgaellmaaDoor.Rd
open Go.RowKit Go.ChangeShapes Go.WideShapes
open Go.Proofs.YtbnjgehgaellmaaDoor.Sg (BxN)
open Go.Proofs.YtbnjgehgaellmaaDoor.MixC (Words Nums Copied SliceOf)
set_option linter.unusedVariables false
set_option linter.unusedSimpArgs false

def TrueW (w : World) (e : Ending) (w' : World) : Prop := e = .returned (.bool true) ∧ Below w.heap.size w w'
def RetW (v : Value) (w : World) (e : Ending) (w' : World) : Prop := e = .returned v ∧ Below w.heap.size w w'
theorem chainX (w : World) {a b : World} (h : Below w.heap.size w a) (k : Below a.heap.size a b) : Below w.heap.size w b := h.trans (k.mono h.size)
theorem undrewX {V w1 : World} (h : Below V.drew.heap.size V.drew w1) : Below V.heap.size V w1 := ⟨h.os, h.tape, h.output, h.size, h.block⟩
theorem below_drewN' {w w1 : World} {B : Nat} (h : Below B w w1) : ∀ q, Below B w (w1.drewN q) := fun q => ⟨h.os, h.tape, h.output, h.size, h.block⟩
/-- What laying marks into a copy leaves: v is the world of the copy, w the true one; all that is reached lies from lo on and ahead of v's size. -/
def MkR (lo : Nat) (v : World) (r : Int) (w : World) (e : Ending) (w' : World) : Prop :=
  ∃ v' : World, e = .returned (.int .i64 r) ∧ Stirred v v' ∧ Shadow v.heap.size v' w' ∧ Chg lo v.heap.size w w'
/-- What laying marks into an answer's block leaves. -/
def MkX {α : Type} [Rdb α] (lo q n : Nat) (r : Int) (g : Nat → α) (w : World) (e : Ending) (w' : World) : Prop :=
  e = .returned (.int .i64 r) ∧ Rows true lo w' (some ⟨q, 0, none⟩) ((List.range n).map g) ∧ Chg q (q + 1) w w'
theorem rows_words {fr : Bool} {lo : Nat} {w : World} {a : Option Addr} {l : List Int} (h : Rows fr lo w a l) : Words w a l := by
  rcases h with h | ⟨b, off, e, h0, hB, hf, hc⟩
  · exact .inl h
  · refine .inr ⟨b, off, e, hB, fun i hi => ?_⟩
    obtain ⟨cs, ⟨r, _⟩, cc⟩ := hc i _ (List.getElem?_eq_getElem hi)
    subst r
    have := cc 0 _ rfl
    rw [show off + i * Rdb.size Int + 0 = off + i from by show off + i * 1 + 0 = _; omega] at this
    rw [this, List.getD_eq_getElem?_getD, List.getElem?_eq_getElem hi]; rfl
theorem rows_wf {fr : Bool} {lo : Nat} {w : World} {a : Option Addr} {l : List Int} (h : Rows fr lo w a l) : ∀ z, z ∈ l → (Lit.int .i64 z).wf = true := by
  intro z hz
  obtain ⟨i, hi, rfl⟩ := List.getElem_of_mem hz
  rcases h with h | ⟨b, off, e, h0, hB, hf, hc⟩
  · subst h; simp at hi
  · obtain ⟨cs, ⟨_, r⟩, _⟩ := hc i _ (List.getElem?_eq_getElem hi); exact r
theorem rows_of {fr : Bool} {lo : Nat} {w : World} {b : Nat} {off : Nat} {l : List Int} (h0 : lo ≤ b) (hB : b < w.heap.size) (hf : fr = true → ∀ i, w.frozen? ⟨b, i, none⟩ = false) (hn : Nums w b off l) (wf : ∀ z, z ∈ l → (Lit.int .i64 z).wf = true) : Rows fr lo w (some ⟨b, off, none⟩) l := by
  refine .inr ⟨b, off, rfl, h0, hB, hf, fun i x hx => ⟨[.int .i64 x], ⟨rfl, wf x (List.mem_of_getElem? hx)⟩, fun c v hv => ?_⟩⟩
  have hi := (List.getElem?_eq_some_iff.1 hx).1
  have e := hn i hi
  rw [List.getD_eq_getElem?_getD, hx] at e
  have hc : c < 1 := (List.getElem?_eq_some_iff.1 hv).1
  obtain rfl : c = 0 := by omega
  obtain rfl : Value.int .i64 x = v := by simpa using hv
  rw [show off + i * Rdb.size Int + 0 = off + i from by show off + i * 1 + 0 = _; omega]
  exact e
end Go.Proofs.YtbnjgehgaellmaaDoor.Rd
