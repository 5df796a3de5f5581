/-
  What was heard of an interval, as lists. No program runs.
-/
import Derived.Test.YthimpcfodbmhkaaActK
import Derived.Test.YthimpcfodbmhkaaDInterval
namespace Go.Proofs.Ythimpcfodbmhkaa.Ac
open Go.RowKit Go.Proofs.Ythimpcfodbmhkaa.GfI Go.Proofs.Ythimpcfodbmhkaa.GfS Go.Proofs.Ythimpcfodbmhkaa.MixC
open Go.Proofs.Ythimpcfodbmhkaa.Gf2 (Ib wpList_append_int)
open Go.Proofs.Ythimpcfodbmhkaa.Rd (lay chain chainX RetW Rdb rows_words rows_wf GOne AnsI AnsR gone_of_own rows_of_words DInterval shape_Interval mk_Interval)
open Go.Proofs.Ythimpcfodbmhkaa.Sg (BxN)
set_option linter.unusedVariables false
set_option linter.unusedSimpArgs false

/-- The places of l whose nodes are in h; holes else. -/
def onlyF (h : List Int) (z : Int) : Int := if z ∈ h then z else -1
def onlyL (l h : List Int) : List Int := l.map (onlyF h)
def onlyK (l h : List Int) (k : Nat) : List Int := (l.take k).map (onlyF h) ++ l.drop k
theorem onlyK_zero (l h : List Int) : onlyK l h 0 = l := by simp [onlyK]
theorem onlyK_all (l h : List Int) : onlyK l h l.length = onlyL l h := by simp [onlyK, onlyL]
theorem onlyK_len {l h : List Int} {k : Nat} (hk : k ≤ l.length) : (onlyK l h k).length = l.length := by unfold onlyK; simp; omega
theorem onlyK_succ {l h : List Int} {k : Nat} (hk : k < l.length) : onlyK l h (k + 1) = (onlyK l h k).set k (onlyF h (zF l k)) := by
  have e1 : zF l k = l[k] := by unfold zF; rw [List.getD_eq_getElem?_getD, List.getElem?_eq_getElem hk]; rfl
  have e2 : l.drop k = l[k] :: l.drop (k + 1) := List.drop_eq_getElem_cons hk
  unfold onlyK
  rw [List.take_succ_eq_append_getElem hk, List.map_append, List.set_append_right _ _ (by simp; omega)]
  have e3 : k - ((l.take k).map (onlyF h)).length = 0 := by simp; omega
  rw [e3, e1, e2, List.set_cons_zero]; simp
theorem onlyK_keep {l h : List Int} {k : Nat} (hk : k < l.length) (m : zF l k ∈ h) : onlyK l h (k + 1) = onlyK l h k := by
  rw [onlyK_succ hk]
  have e : onlyF h (zF l k) = zF l k := if_pos m
  rw [e]
  have e1 : (onlyK l h k)[k]? = some (zF l k) := by
    unfold onlyK
    rw [List.getElem?_append_right (by simp; omega)]
    have : k - ((l.take k).map (onlyF h)).length = 0 := by simp; omega
    rw [this, List.getElem?_drop]
    unfold zF
    rw [List.getD_eq_getElem?_getD, Nat.add_zero, List.getElem?_eq_getElem hk]; rfl
  refine List.ext_getElem? fun i => ?_
  rw [List.getElem?_set]
  split
  · rename_i q; subst q
    split
    · rw [e1]
    · rename_i q2; rw [List.getElem?_eq_none (by omega)]
  · rfl
theorem onlyK_hole {l h : List Int} {k : Nat} (hk : k < l.length) (m : zF l k ∉ h) : onlyK l h (k + 1) = (onlyK l h k).set k (-1) := by
  rw [onlyK_succ hk]
  have e : onlyF h (zF l k) = -1 := if_neg m
  rw [e]
def hrdV (l h : List Int) : List Int := h.filter (fun z => decide (z ∈ l))
theorem outP_iff (h : List Int) : OutP h ↔ h.Pairwise (fun a b => a < b) ∧ ∀ z, z ∈ h → inB z 0 15 = true := by
  unfold OutP
  rw [ris_pw]
  refine and_congr Iff.rfl ⟨fun q z hz => ?_, fun q i hi => ?_⟩
  · obtain ⟨i, hi, rfl⟩ := List.getElem_of_mem hz
    have := q i hi
    unfold zF at this
    rwa [List.getD_eq_getElem?_getD, List.getElem?_eq_getElem hi] at this
  · exact q _ (getD_mem hi)
instance (h : List Int) : Decidable (OutP h) := decidable_of_iff _ (outP_iff h).symm
def heaV (l h : List Int) : List Int := if ActP l ∧ OutP h then hrdV l h else []
theorem nodl_only (l h : List Int) (hh : ∀ z, z ∈ h → inB z 0 15 = true) : nodl (onlyL l h) = l.filter (fun z => decide (z ∈ h)) := by
  induction l with
  | nil => rfl
  | cons a l ih =>
    show nodl (onlyF h a :: onlyL l h) = _
    by_cases m : a ∈ h
    · have e : onlyF h a = a := if_pos m
      have n : a ≠ -1 := fun q => by have := inB_iff.1 (hh a m); omega
      rw [e]
      show (a :: onlyL l h).filter _ = _
      rw [List.filter_cons_of_pos (by simp [n]), List.filter_cons_of_pos (by simp [m])]
      exact congrArg _ ih
    · have e : onlyF h a = -1 := if_neg m
      rw [e]
      show ((-1) :: onlyL l h).filter _ = _
      rw [List.filter_cons_of_neg (by simp), List.filter_cons_of_neg (by simp [m])]
      exact ih
theorem heard_eq {l h : List Int} (hp : ActP l) (ho : OutP h) : srt (nodl (onlyL l h)) = hrdV l h := by
  obtain ⟨o1, o2⟩ := (outP_iff h).1 ho
  rw [nodl_only l h o2]
  have nd : (l.filter (fun z => decide (z ∈ h))).Nodup := by
    have e : l.filter (fun z => decide (z ∈ h)) = (nodl l).filter (fun z => decide (z ∈ h)) := by
      unfold nodl
      rw [List.filter_filter]
      refine List.filter_congr (fun z hz => ?_)
      by_cases m : z ∈ h
      · have := inB_iff.1 (o2 z m)
        have n : z ≠ -1 := by omega
        simp [m, n]
      · simp [m]
    rw [e]
    exact hp.2.2.filter _
  refine rise_ext (srt_rise nd) (o1.filter _) (fun z => ?_)
  rw [mem_srt]
  unfold hrdV
  simp [and_comm]
theorem heaV_len (l h : List Int) : (heaV l h).length ≤ h.length := by
  unfold heaV; split
  · exact List.length_filter_le ..
  · simp
theorem hrdV_snoc (l h : List Int) {k : Nat} (hk : k < h.length) : hrdV l (h.take (k + 1)) = hrdV l (h.take k) ++ (if zF h k ∈ l then [zF h k] else []) := by
  unfold hrdV
  rw [take_snoc h k hk, List.filter_append]
  have ez : h.getD k 0 = zF h k := rfl
  rw [ez]
  congr 1
  by_cases m : zF h k ∈ l
  · rw [if_pos m]; simp [m]
  · rw [if_neg m]; simp [m]
end Go.Proofs.Ythimpcfodbmhkaa.Ac
