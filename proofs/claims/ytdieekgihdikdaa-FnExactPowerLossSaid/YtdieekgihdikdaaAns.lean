/-
  Answers that are lists of numbers: in one block of the call's own, and what marking such a block leaves.
-/
import Derived.Test.YtdieekgihdikdaaMInts
import Derived.Test.YtdieekgihdikdaaMatRes2
namespace Go.Proofs.Ytdieekgihdikdaa.Rd
open Go.RowKit Go.ChangeShapes Go.WideShapes
open Go.Proofs.Ytdieekgihdikdaa.MixC (Words Nums)
open Go.Proofs.Ytdieekgihdikdaa.Gf2 (OwnS Ib)
set_option linter.unusedVariables false
set_option linter.unusedSimpArgs false

/-- A list of numbers in one block from lo on, which may be written, or none. -/
def GOne (lo : Nat) (w : World) (a : Option Addr) (l : List Int) : Prop := l = [] ∨ ∃ q, a = some ⟨q, 0, none⟩ ∧ Rows true lo w (some ⟨q, 0, none⟩) l ∧ lo ≤ q ∧ q < w.heap.size
theorem GOne.rows {lo : Nat} {w : World} {a : Option Addr} {l : List Int} (h : GOne lo w a l) : Rows true lo w a l := by
  rcases h with h | ⟨q, rfl, r, _, _⟩
  · exact .inl h
  · exact r
theorem GOne.below {lo : Nat} {w w' : World} {a : Option Addr} {l : List Int} (h : GOne lo w a l) (b : Below w.heap.size w w') : GOne lo w' a l := by
  rcases h with h | ⟨q, e, r, h1, h2⟩
  · exact .inl h
  · exact .inr ⟨q, e, r.below b, h1, Nat.lt_of_lt_of_le h2 b.size⟩
theorem GOne.high {lo lo' hi : Nat} {w w' : World} {a : Option Addr} {l : List Int} (h : GOne lo w a l) (hh : hi ≤ lo) (c : Chg lo' hi w w') : GOne lo w' a l := by
  rcases h with h | ⟨q, e, r, h1, h2⟩
  · exact .inl h
  · refine .inr ⟨q, e, r.move c.size (fun k hk hs => c.block k (.inr (Nat.le_trans hh hk)) hs), h1, Nat.lt_of_lt_of_le h2 c.size⟩
theorem Chg.widen {lo lo' hi hi' : Nat} {w w' : World} (c : Chg lo hi w w') (h1 : lo' ≤ lo) (h2 : hi ≤ hi') : Chg lo' hi' w w' := ⟨c.os, c.tape, c.output, c.size, fun k hk hs => c.block k (by omega) hs⟩
/-- Marks laid into such an answer. -/
def MkG (lo : Nat) (a : Option Addr) (n : Nat) (m : Int) (w : World) (e : Ending) (w' : World) : Prop :=
  e = .returned (.int .i64 (m + n)) ∧ Rows true lo w' a ((List.range n).map (mkInt m)) ∧ Chg lo w.heap.size w w'
theorem markG (a : Option Addr) (cap : Nat) (l : List Int) (m : Int) (lo : Nat) (w : World) (hl : l.length ≤ 2097152) (k0 : 0 ≤ m) (k1 : m ≤ 1000000000000) (h : GOne lo w a l) :
    Calls Try.prog 19 #[.slice a l.length cap, .int .i64 m] w (MkG lo a l.length m w) := by
  rcases h with h | ⟨q, rfl, r, h1, h2⟩
  · refine (markInt64S a cap l m lo w w hl k0 k1 (.inl h) (fun k _ => rfl) (Nat.le_refl _)).mono ?_
    rintro e w' ⟨v', rfl, -, -, c⟩
    exact ⟨rfl, .inl (by rw [h]; rfl), c⟩
  · refine (markXInt64S q cap l.length l m lo w rfl hl k0 k1 r).mono ?_
    rintro e w' ⟨rfl, r', c⟩
    exact ⟨rfl, r', c.widen h1 (by omega)⟩
/-- What the program hands back: a list in memory of its own. -/
def AnsI (l : List Int) (w : World) (e : Ending) (w' : World) : Prop := ∃ a cap, e = .returned (.slice a l.length cap) ∧ GOne w.heap.size w' a l ∧ Below w.heap.size w w'
/-- What the model hands back. -/
def AnsR (l : List Int) (w : World) (e : Ending) (w' : World) : Prop := ∃ a cap, e = .returned (.slice a l.length cap) ∧ Rows false 0 w' a l ∧ Below w.heap.size w w'
theorem gone_of_own {w w' : World} {a : Option Addr} {l : List Int} (h : OwnS w w' a l) (wf : ∀ z, z ∈ l → (Lit.int .i64 z).wf = true) : GOne w.heap.size w' a l := by
  rcases h with h | ⟨g, rfl, h0, h1, hn, hf⟩
  · exact .inl h
  · exact .inr ⟨g, rfl, rows_of h0 h1 (fun _ => hf) hn wf, h0, h1⟩
theorem rows_of_words {w : World} {a : Option Addr} {l : List Int} (h : Words w a l) (wf : ∀ z, z ∈ l → (Lit.int .i64 z).wf = true) : Rows false 0 w a l := by
  rcases h with h | ⟨b, off, rfl, hB, hn⟩
  · exact .inl h
  · exact rows_of (Nat.zero_le _) hB (fun e => by cases e) hn wf
theorem ltL {q : Nat} {w w' : World} (h : q < w.heap.size) (b : Below w.heap.size w w') : q < w'.heap.size := Nat.lt_of_lt_of_le h b.size
theorem leL {q : Nat} {w w' : World} (h : q ≤ w.heap.size) (b : Below w.heap.size w w') : q ≤ w'.heap.size := Nat.le_trans h b.size
theorem bxChg {lo hi : Nat} {w w' : World} {b : Nat} {vs : List Value} (h : Sg.BxN w b vs) (c : Chg lo hi w w') (hb : b < lo ∨ hi ≤ b) : Sg.BxN w' b vs :=
  ⟨Nat.lt_of_lt_of_le h.lt c.size, fun i v hv => (World.cell?_of_block (a := ⟨b, i, none⟩) (c.block b hb h.lt)).trans (h.cells i v hv), fun i => (World.frozen?_of_block (a := ⟨b, i, none⟩) (c.block b hb h.lt)).trans (h.free i)⟩
/-- Marks laid into a copied list of numbers, in the block q. -/
theorem markI (q cap : Nat) (l : List Int) (k : Int) (lo : Nat) (w : World) (hl : l.length ≤ 2097152) (k0 : 0 ≤ k) (k1 : k ≤ 1000000000000) (h : Rows true lo w (some ⟨q, 0, none⟩) l) :
    Calls Try.prog 19 #[.slice (some ⟨q, 0, none⟩) l.length cap, .int .i64 k] w (fun e w' => ∃ r : Int, e = .returned (.int .i64 r) ∧ 0 ≤ r ∧ r ≤ k + 2097152 ∧ Chg q (q + 1) w w') := by
  refine (markXInt64S q cap l.length l k lo w rfl hl k0 k1 h).mono ?_
  rintro e w' ⟨rfl, -, c⟩
  exact ⟨_, rfl, by omega, by omega, c⟩
theorem markG1 (a : Option Addr) (cap : Nat) (l : List Int) (mm : Int) (hm : mm = 1 + (l.length : Int)) (lo : Nat) (w : World) (hl : l.length ≤ 2097152) (h : GOne lo w a l) :
    Calls Try.prog 19 #[.slice a l.length cap, .int .i64 1] w (fun e w' => e = .returned (.int .i64 mm) ∧ Rows true lo w' a ((List.range l.length).map (mkInt 1)) ∧ Chg lo w.heap.size w w') := by
  rw [hm]; exact markG a cap l 1 lo w hl (by omega) (by omega) h
theorem heldG1 (a : Option Addr) (cap : Nat) (l : List Int) (mm : Int) (hm : mm = 1 + (l.length : Int)) (lo : Nat) (w : World) (hl : l.length ≤ 2097152) (h : Rows true lo w a ((List.range l.length).map (mkInt 1))) :
    Calls Try.prog 73 #[.slice a l.length cap, .int .i64 1] w (RetW (.int .i64 mm) w) := by
  rw [hm]; exact heldInt64S a cap l.length 1 true lo w hl (by omega) (by omega) h
theorem eqAns (a b : Option Addr) (cap1 cap2 : Nat) (l : List Int) (w : World) (hl : l.length ≤ 2097152) {fr fr2 : Bool} {lo lo2 : Nat} (ha : Rows fr lo w a l) (hb : Rows fr2 lo2 w b l) :
    Calls Try.prog 17 #[.slice a l.length cap1, .slice b l.length cap2] w (TrueW w) :=
  eqInt64S a b cap1 cap2 l w (by rw [sz_flat (fun _ => rfl)]; exact hl) ha hb
end Go.Proofs.Ytdieekgihdikdaa.Rd
