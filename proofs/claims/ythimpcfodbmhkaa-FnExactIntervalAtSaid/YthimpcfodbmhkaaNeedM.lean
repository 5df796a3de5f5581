/-
  Which intervals are needed, and whether enough was heard of them. No program runs.
-/
import Derived.Test.YthimpcfodbmhkaaHrdM
import Derived.Test.YthimpcfodbmhkaaIvM
namespace Go.Proofs.Ythimpcfodbmhkaa.Ac
open Go.RowKit Go.Proofs.Ythimpcfodbmhkaa.GfI Go.Proofs.Ythimpcfodbmhkaa.GfS Go.Proofs.Ythimpcfodbmhkaa.MixC
open Go.Proofs.Ythimpcfodbmhkaa.Gf2 (Ib wpList_append_int)
open Go.Proofs.Ythimpcfodbmhkaa.Rd (lay chain chainX RetW Rdb rows_words rows_wf GOne AnsI AnsR gone_of_own rows_of_words DInterval shape_Interval mk_Interval)
open Go.Proofs.Ythimpcfodbmhkaa.Sg (BxN)
set_option linter.unusedVariables false
set_option linter.unusedSimpArgs false

def needB (s : Int) (v : DInterval) : Bool := v.first == s || (v.may && decide (s ≤ v.first))
def stB (s : Int) (v : DInterval) : Bool := v.first == s
def lackB (k : Int) (h : List Int) (v : DInterval) : Bool := decide (((heaV v.acting h).length : Int) < k)
def needL (l : List DInterval) (s : Int) : List DInterval := l.filter (needB s)
/-- Enough were heard. -/
def EnP (l : List DInterval) (k s : Int) (h : List Int) : Prop := (s > 0 → ∃ x, x ∈ l ∧ stB s x = true) ∧ ¬ ∃ x, x ∈ needL l s ∧ lackB k h x = true
def HeP (l : List DInterval) (k s : Int) (h : List Int) : Prop := IvP l ∧ inB k 1 7 = true ∧ OutP h ∧ EnP l k s h
theorem IvP.mem {l : List DInterval} (h : IvP l) {v : DInterval} (hv : v ∈ l) : ActP v.acting := by
  obtain ⟨i, hi, rfl⟩ := List.getElem_of_mem hv
  exact (h i _ hi (List.getElem?_eq_getElem hi)).2.2.1
theorem filter_snoc {l : List DInterval} {k : Nat} {v : DInterval} (p : DInterval → Bool) (h : l[k]? = some v) : (l.take (k + 1)).filter p = (l.take k).filter p ++ (if p v then [v] else []) := by
  rw [List.take_add_one, h, List.filter_append]
  congr 1
  cases q : p v <;> simp [q]
theorem filter_len (l : List DInterval) (p : DInterval → Bool) (k : Nat) : ((l.take k).filter p).length ≤ k := by
  have h1 := List.length_filter_le p (l.take k)
  rw [List.length_take] at h1; omega
/-- An interval handed back with its places in a block of their own. -/
def ElR (v : DInterval) (w : World) (e : Ending) (w' : World) : Prop := ∃ q c, e = .returned (.agg #[.int .i64 v.first, .int .i64 v.last, .slice (some ⟨q, 0, none⟩) v.acting.length c, .bool v.may]) ∧ w.heap.size ≤ q ∧ q < w'.heap.size ∧ v.acting.length ≤ c ∧ Rd.Rows true w.heap.size w' (some ⟨q, 0, none⟩) v.acting ∧ Below w.heap.size w w'
theorem el_of {l : List Int} {w : World} {v : Value} {w' : World} (hl : 1 ≤ l.length) (wf : ∀ z, z ∈ l → (Lit.int .i64 z).wf = true) (h : NodR l w (.returned v) w') : ∃ q c, v = .slice (some ⟨q, 0, none⟩) l.length c ∧ w.heap.size ≤ q ∧ q < w'.heap.size ∧ l.length ≤ c ∧ Rd.Rows true w.heap.size w' (some ⟨q, 0, none⟩) l ∧ Below w.heap.size w w' := by
  obtain ⟨a, c, e, -, J, b⟩ := h
  have hc : l.length ≤ c := by
    rcases J.2 with ⟨_, e0⟩ | ⟨g, cap, cur, e, _, _, hn, _⟩
    · omega
    · cases e; exact hn
  rcases gone_of_own (Gf2.Ib.own (w0 := w) J (Nat.le_refl _)).1 wf with e0 | ⟨q, rfl, r, h1, h2⟩
  · rw [e0] at hl; simp at hl
  · exact ⟨q, c, Ending.returned.inj e, h1, h2, hc, r, b⟩
end Go.Proofs.Ythimpcfodbmhkaa.Ac
