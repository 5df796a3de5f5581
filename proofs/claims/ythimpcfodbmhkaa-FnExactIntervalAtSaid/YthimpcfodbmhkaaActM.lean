/-
  Acting sets as lists of numbers: which are valid, their nodes in order, the first one, where one stands. No program runs.
-/
import Derived.Test.YthimpcfodbmhkaaLst
namespace Go.Proofs.Ythimpcfodbmhkaa.Ac
open Go.Proofs.Ythimpcfodbmhkaa.GfS
set_option linter.unusedVariables false
set_option linter.unusedSimpArgs false

/-- The nodes among the places. -/
def nodl (l : List Int) : List Int := l.filter (fun z => !(z == -1))
/-- The nodes of several sets, in order. -/
def nodesL (ls : List (List Int)) : List Int := srt (nodl ls.flatten)
theorem nodl_len (l : List Int) : (nodl l).length ≤ l.length := List.length_filter_le ..
theorem nodl_app (a b : List Int) : nodl (a ++ b) = nodl a ++ nodl b := List.filter_append ..
theorem nodl_snoc_hole (l : List Int) : nodl (l ++ [-1]) = nodl l := by rw [nodl_app]; simp [nodl]
theorem nodl_snoc {l : List Int} {x : Int} (h : x ≠ -1) : nodl (l ++ [x]) = nodl l ++ [x] := by rw [nodl_app]; simp [nodl, h]
theorem mem_nodl {l : List Int} {x : Int} : x ∈ nodl l ↔ x ∈ l ∧ x ≠ -1 := by unfold nodl; simp
/-- Valid. -/
def ActP (l : List Int) : Prop := (1 ≤ l.length ∧ l.length ≤ 7) ∧ (∀ z, z ∈ l → inB z (-1) 15 = true) ∧ (nodl l).Nodup
instance (l : List Int) : Decidable (ActP l) := by unfold ActP; exact inferInstance
/-- The first k places are within, and no node stands twice. -/
def ActN (l : List Int) (k : Nat) : Prop := ∀ i, i < k → inB (zF l i) (-1) 15 = true ∧ (0 ≤ zF l i → zF l i ∉ l.take i)
theorem ActN.zero (l : List Int) : ActN l 0 := fun i hi => absurd hi (Nat.not_lt_zero _)
theorem ActN.step {l : List Int} {k : Nat} (h : ActN l k) (a : inB (zF l k) (-1) 15 = true) (b : 0 ≤ zF l k → zF l k ∉ l.take k) : ActN l (k + 1) := fun i hi => by
  by_cases e : i = k
  · rw [e]; exact ⟨a, b⟩
  · exact h i (by omega)
theorem inB_iff {n a b : Int} : inB n a b = true ↔ a ≤ n ∧ n ≤ b := by unfold inB; exact decide_eq_true_iff
theorem actN_nodup {l : List Int} : ∀ k, k ≤ l.length → ((ActN l k) ↔ ((∀ z, z ∈ l.take k → inB z (-1) 15 = true) ∧ (nodl (l.take k)).Nodup))
  | 0, _ => ⟨fun _ => ⟨by simp, by simp [nodl]⟩, fun _ => ActN.zero l⟩
  | k + 1, h => by
    have hk : k < l.length := by omega
    have IH := actN_nodup k (by omega : k ≤ l.length)
    rw [take_snoc l k hk]
    have ez : l.getD k 0 = zF l k := rfl
    rw [ez]
    constructor
    · intro H
      obtain ⟨A, B⟩ := IH.1 (fun i hi => H i (by omega))
      obtain ⟨C, D⟩ := H k (by omega)
      refine ⟨fun z hz => ?_, ?_⟩
      · rcases List.mem_append.1 hz with hz | hz
        · exact A z hz
        · rw [show z = zF l k from by simpa using hz]; exact C
      · by_cases e : zF l k = -1
        · rw [e, nodl_snoc_hole]; exact B
        · rw [nodl_snoc e]
          refine nodup_snoc B (fun m => D ?_ (mem_nodl.1 m).1)
          have := inB_iff.1 C; omega
    · rintro ⟨A, B⟩
      have A1 : ∀ z, z ∈ l.take k → inB z (-1) 15 = true := fun z hz => A z (List.mem_append.2 (.inl hz))
      have C := A (zF l k) (by simp)
      by_cases e : zF l k = -1
      · rw [e, nodl_snoc_hole] at B
        exact (IH.2 ⟨A1, B⟩).step C (fun p => by omega)
      · rw [nodl_snoc e, List.nodup_append] at B
        exact (IH.2 ⟨A1, B.1⟩).step C (fun p m => B.2.2 _ (mem_nodl.2 ⟨m, e⟩) _ (by simp) rfl)
theorem actP_iff {l : List Int} (h1 : 1 ≤ l.length) (h7 : l.length ≤ 7) : ActP l ↔ ActN l l.length := by
  have := actN_nodup (l := l) l.length (Nat.le_refl _)
  rw [List.take_length] at this
  unfold ActP
  rw [this]
  exact ⟨fun h => h.2, fun h => ⟨⟨h1, h7⟩, h⟩⟩
theorem srt_pw (l : List Int) : (srt l).Pairwise (fun a b => a ≤ b) :=
  (List.pairwise_mergeSort (le := fun x y : Int => decide (x ≤ y)) (fun a b c h k => by simp at *; omega) (fun a b => by simp; omega) l).imp (fun h => by simpa using h)
theorem srt_perm (l : List Int) : (srt l).Perm l := List.mergeSort_perm l _
theorem mem_srt {l : List Int} {x : Int} : x ∈ srt l ↔ x ∈ l := (srt_perm l).mem_iff
theorem ris_pw {l : List Int} : RisN (zF l) l.length ↔ l.Pairwise (fun a b => a < b) := by
  constructor
  · intro h
    have key : ∀ d i, i + d < l.length → 0 < d → zF l i < zF l (i + d) := by
      intro d
      induction d with
      | zero => intro i _ h0; omega
      | succ d ih =>
        intro i hi _
        have s := h (i + d) (by omega)
        by_cases hd : d = 0
        · subst hd; exact s
        · have := ih i (by omega) (by omega)
          rw [show i + (d + 1) = i + d + 1 from rfl]; omega
    rw [List.pairwise_iff_getElem]
    intro i j hi hj hij
    have := key (j - i) i (by omega) (by omega)
    rw [show i + (j - i) = j by omega] at this
    unfold zF at this
    rwa [List.getD_eq_getElem?_getD, List.getElem?_eq_getElem hi, List.getD_eq_getElem?_getD, List.getElem?_eq_getElem hj] at this
  · intro h i hi
    have := List.pairwise_iff_getElem.1 h i (i + 1) (by omega) hi (by omega)
    unfold zF
    rwa [List.getD_eq_getElem?_getD, List.getElem?_eq_getElem (by omega : i < l.length), List.getD_eq_getElem?_getD, List.getElem?_eq_getElem hi]
theorem ris_srt (l : List Int) : RisN (zF (srt l)) (srt l).length ↔ l.Nodup := by
  rw [ris_pw]
  constructor
  · intro h
    exact (srt_perm l).nodup_iff.1 (h.imp (fun k => by omega))
  · intro h
    have h2 : (srt l).Nodup := (srt_perm l).nodup_iff.2 h
    exact ((srt_pw l).and h2).imp (fun ⟨a, b⟩ => by omega)
/-- Two lists that rise strictly and hold the same numbers are one. -/
theorem rise_ext {a b : List Int} (ha : a.Pairwise (fun a b => a < b)) (hb : b.Pairwise (fun a b => a < b)) (h : ∀ z, z ∈ a ↔ z ∈ b) : a = b := by
  have na : a.Nodup := ha.imp (fun k => by omega)
  have nb : b.Nodup := hb.imp (fun k => by omega)
  refine List.Perm.eq_of_pairwise (le := fun a b : Int => a ≤ b) (fun a b _ _ h k => by omega) (ha.imp (fun k => by omega)) (hb.imp (fun k => by omega)) ((List.perm_ext_iff_of_nodup na nb).2 h)
theorem srt_rise {l : List Int} (h : l.Nodup) : (srt l).Pairwise (fun a b => a < b) := by
  have h2 : (srt l).Nodup := (srt_perm l).nodup_iff.2 h
  exact ((srt_pw l).and h2).imp (fun ⟨a, b⟩ => by omega)
def putAll (out l : List Int) : List Int := l.foldl (fun o y => put y o) out
theorem putAll_snoc (out l : List Int) (y : Int) : putAll out (l ++ [y]) = put y (putAll out l) := by unfold putAll; rw [List.foldl_append]; rfl
theorem mem_putAll {z : Int} : ∀ {l out : List Int}, z ∈ putAll out l ↔ z ∈ out ∨ z ∈ l
  | [], out => by simp [putAll]
  | a :: l, out => by
    show z ∈ putAll (put a out) l ↔ _
    rw [mem_putAll (l := l), mem_put, List.mem_cons]
    constructor
    · rintro ((h | h) | h)
      · exact .inr (.inl h)
      · exact .inl h
      · exact .inr (.inr h)
    · rintro (h | h | h)
      · exact .inl (.inr h)
      · exact .inl (.inl h)
      · exact .inr h
theorem rise_putAll : ∀ {l out : List Int}, out.Pairwise (fun a b => a < b) → (putAll out l).Pairwise (fun a b => a < b)
  | [], out, h => h
  | a :: l, out, h => rise_putAll (l := l) (sorted_put h)
theorem putAll_len : ∀ (l out : List Int), (putAll out l).length ≤ out.length + l.length
  | [], out => by simp [putAll]
  | a :: l, out => by
    have h1 := putAll_len l (put a out); have h2 := put_len a out
    show (putAll (put a out) l).length ≤ _
    rw [List.length_cons]; omega
theorem putAll_srt {l : List Int} (h : l.Nodup) : putAll [] l = srt l :=
  rise_ext (rise_putAll List.Pairwise.nil) (srt_rise h) (fun z => by rw [mem_putAll, mem_srt]; simp)
/-- The first node, or -1. -/
def leadV : List Int → Int
  | [] => -1
  | a :: l => if a = -1 then leadV l else a
theorem leadV_first {l : List Int} : ∀ {k : Nat}, k < l.length → (∀ i, i < k → zF l i = -1) → zF l k ≠ -1 → leadV l = zF l k := by
  induction l with
  | nil => intro k h; simp at h
  | cons a l ih =>
    intro k hk h0 h1
    cases k with
    | zero =>
      have h1' : a ≠ -1 := h1
      show (if a = -1 then leadV l else a) = a
      rw [if_neg h1']
    | succ k =>
      have e : a = -1 := h0 0 (by omega)
      show (if a = -1 then leadV l else a) = _
      rw [if_pos e]
      exact ih (k := k) (by simp at hk; omega) (fun i hi => h0 (i + 1) (by omega)) h1
theorem leadV_none {l : List Int} (h : ∀ i, i < l.length → zF l i = -1) : leadV l = -1 := by
  induction l with
  | nil => rfl
  | cons a l ih =>
    have e : a = -1 := h 0 (by simp)
    show (if a = -1 then leadV l else a) = _
    rw [if_pos e]
    exact ih (fun i hi => h (i + 1) (by simp; omega))
/-- Where a node stands first, or -1. -/
def placeV (l : List Int) (x : Int) : Int := if x ∈ l then (l.idxOf x : Nat) else -1
theorem placeV_first {l : List Int} {x : Int} {k : Nat} (hk : k < l.length) (h0 : x ∉ l.take k) (h1 : zF l k = x) : placeV l x = k := by
  have e : l = l.take k ++ x :: l.drop (k + 1) := by
    conv => lhs; rw [← List.take_append_drop k l]
    rw [List.drop_eq_getElem_cons hk]
    congr 2
    unfold zF at h1
    rwa [List.getD_eq_getElem?_getD, List.getElem?_eq_getElem hk] at h1
  have m : x ∈ l := by rw [e]; simp
  unfold placeV
  rw [if_pos m]
  have : l.idxOf x = k := by
    rw [e, List.idxOf_append, if_neg h0, List.idxOf_cons_self, List.length_take]; omega
  rw [this]
theorem placeV_none {l : List Int} {x : Int} (h : x ∉ l) : placeV l x = -1 := by unfold placeV; rw [if_neg h]
end Go.Proofs.Ythimpcfodbmhkaa.Ac
