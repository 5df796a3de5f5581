/-
  Valid lists of intervals. No program runs.
-/
import Derived.Test.YthimpcfodbmhkaaActJ
import Derived.Test.YthimpcfodbmhkaaDInterval
namespace Go.Proofs.Ythimpcfodbmhkaa.Ac
open Go.RowKit Go.Proofs.Ythimpcfodbmhkaa.GfI Go.Proofs.Ythimpcfodbmhkaa.GfS Go.Proofs.Ythimpcfodbmhkaa.MixC
open Go.Proofs.Ythimpcfodbmhkaa.Gf2 (Ib wpList_append_int)
open Go.Proofs.Ythimpcfodbmhkaa.Rd (lay chain chainX RetW Rdb rows_words DInterval shape_Interval mk_Interval)
open Go.Proofs.Ythimpcfodbmhkaa.Sg (BxN)
set_option linter.unusedVariables false
set_option linter.unusedSimpArgs false

/-- With which epoch the k-th interval begins. -/
def nxF (l : List DInterval) : Nat → Int
  | 0 => 1
  | k + 1 => (l.getD k default).last + 1
/-- What an interval must be, where the k-th begins with n and the places are m. -/
def IvC (n : Int) (m : Nat) (v : DInterval) : Prop := v.first = n ∧ inB v.last v.first 60 = true ∧ ActP v.acting ∧ v.acting.length = m
def plc0 (l : List DInterval) : Nat := (l.getD 0 default).acting.length
def IvN (l : List DInterval) (k : Nat) : Prop := ∀ i v, i < k → l[i]? = some v → IvC (nxF l i) (plc0 l) v
def IvP (l : List DInterval) : Prop := IvN l l.length
theorem IvN.zero (l : List DInterval) : IvN l 0 := fun i v hi => absurd hi (Nat.not_lt_zero _)
theorem IvN.step {l : List DInterval} {k : Nat} {v : DInterval} (h : IvN l k) (hv : l[k]? = some v) (c : IvC (nxF l k) (plc0 l) v) : IvN l (k + 1) := fun i u hi hu => by
  by_cases e : i = k
  · subst e; rw [hv] at hu; rw [← Option.some.inj hu]; exact c
  · exact h i u (by omega) hu
theorem nxF_succ {l : List DInterval} {k : Nat} {v : DInterval} (hv : l[k]? = some v) : nxF l (k + 1) = v.last + 1 := by
  show (l.getD k default).last + 1 = _
  rw [List.getD_eq_getElem?_getD, hv]; rfl
theorem plc0_eq {l : List DInterval} {v : DInterval} (hv : l[0]? = some v) : plc0 l = v.acting.length := by
  unfold plc0; rw [List.getD_eq_getElem?_getD, hv]; rfl
theorem IvN.no {l : List DInterval} {k : Nat} {v : DInterval} (hk : k < l.length) (hv : l[k]? = some v) (c : ¬ IvC (nxF l k) (plc0 l) v) : ¬ IvP l := fun h => c (h k v hk hv)
/-- Epochs rise. -/
theorem IvN.bnd {l : List DInterval} : ∀ {k : Nat}, IvN l k → k ≤ l.length → (k : Int) + 1 ≤ nxF l k
  | 0, _, _ => by show (0 : Int) + 1 ≤ 1; omega
  | k + 1, h, hk => by
    have IH := IvN.bnd (k := k) (fun i v hi => h i v (by omega)) (by omega)
    have hv : l[k]? = some l[k] := List.getElem?_eq_getElem (by omega)
    have c := h k _ (by omega) hv
    rw [nxF_succ hv]
    have := inB_iff.1 c.2.1
    have := c.1
    omega
theorem IvP.len {l : List DInterval} (h : IvP l) : l.length ≤ 60 := by
  cases hn : l.length with
  | zero => omega
  | succ n =>
    have hv : l[n]? = some l[n] := List.getElem?_eq_getElem (by omega)
    have c := h n _ (by omega) hv
    have b := IvN.bnd (l := l) (k := n) (fun i v hi => h i v (by omega)) (by omega)
    have := inB_iff.1 c.2.1
    have := c.1
    omega
theorem nx_wf {l : List DInterval} {k : Nat} (h : IvN l k) (hk : k ≤ l.length) : 1 ≤ nxF l k ∧ nxF l k ≤ 61 := by
  cases k with
  | zero => exact ⟨by show (1 : Int) ≤ 1; omega, by show (1 : Int) ≤ 61; omega⟩
  | succ k =>
    have b := IvN.bnd h hk
    have hv : l[k]? = some l[k] := List.getElem?_eq_getElem (by omega)
    have c := h k _ (by omega) hv
    have := inB_iff.1 c.2.1
    rw [nxF_succ hv] at b ⊢
    omega
end Go.Proofs.Ythimpcfodbmhkaa.Ac
