/-
  The nodes of intervals, as lists. No program runs.
-/
import Derived.Test.YthimpcfodbmhkaaIvJ
import Derived.Test.YthimpcfodbmhkaaActK
import Derived.Lib.SlicesCompact
namespace Go.Proofs.Ythimpcfodbmhkaa.Ac
open Go.RowKit Go.Proofs.Ythimpcfodbmhkaa.GfI Go.Proofs.Ythimpcfodbmhkaa.GfS Go.Proofs.Ythimpcfodbmhkaa.MixC
open Go.Proofs.Ythimpcfodbmhkaa.Gf2 (Ib wpList_append_int)
open Go.Proofs.Ythimpcfodbmhkaa.Rd (lay chain chainX RetW Rdb rows_words rows_wf GOne AnsI AnsR gone_of_own rows_of_words DInterval shape_Interval mk_Interval)
open Go.Proofs.Ythimpcfodbmhkaa.Sg (BxN)
set_option linter.unusedVariables false
set_option linter.unusedSimpArgs false

/-- All places of the intervals. -/
def askN (l : List DInterval) : List Int := (l.map DInterval.acting).flatten
def askL (l : List DInterval) : List Int := putAll [] (nodl (askN l))
def AskR (l : List DInterval) (r : List Int) : Prop := (IvP l ∧ r = askL l) ∨ (¬ IvP l ∧ r = [])
theorem ask_ex (l : List DInterval) : ∃ r, AskR l r := by
  by_cases h : IvP l
  · exact ⟨_, .inl ⟨h, rfl⟩⟩
  · exact ⟨_, .inr ⟨h, rfl⟩⟩
theorem askN_snoc {l : List DInterval} {k : Nat} {v : DInterval} (h : l[k]? = some v) : askN (l.take (k + 1)) = askN (l.take k) ++ v.acting := by
  unfold askN; rw [List.take_add_one, h]; simp
theorem askN_len {l : List DInterval} (h : IvP l) : ∀ k, k ≤ l.length → (askN (l.take k)).length ≤ 7 * k
  | 0, _ => by simp [askN]
  | k + 1, hk => by
    have hv : l[k]? = some l[k] := List.getElem?_eq_getElem (by omega)
    have c := (h k _ (by omega) hv).2.2.1.1
    have := askN_len h k (by omega)
    rw [askN_snoc hv, List.length_append]; omega
theorem askL_len {l : List DInterval} (h : IvP l) (k : Nat) (hk : k ≤ l.length) : (askL (l.take k)).length ≤ 7 * k := by
  have h1 := putAll_len (nodl (askN (l.take k))) []
  have h2 := nodl_len (askN (l.take k))
  have h3 := askN_len h k hk
  unfold askL; simp at h1; omega
theorem askL_snoc {l : List DInterval} {k : Nat} {v : DInterval} (h : l[k]? = some v) : askL (l.take (k + 1)) = putAll (askL (l.take k)) (putAll [] (nodl v.acting)) := by
  unfold askL
  rw [askN_snoc h, nodl_app]
  refine rise_ext (rise_putAll List.Pairwise.nil) (rise_putAll (rise_putAll List.Pairwise.nil)) (fun z => ?_)
  rw [mem_putAll, mem_putAll, mem_putAll, mem_putAll, List.mem_append]
  simp
theorem mem_askN {l : List DInterval} {z : Int} : z ∈ askN l ↔ ∃ v, v ∈ l ∧ z ∈ v.acting := by
  unfold askN; simp
  exact ⟨fun ⟨_, ⟨a, ha, e⟩, hz⟩ => ⟨a, ha, by rw [e]; exact hz⟩, fun ⟨v, hv, hz⟩ => ⟨_, ⟨v, hv, rfl⟩, hz⟩⟩
open Go.Lib in
theorem compact_k {d : List Int} (hs : d.Pairwise (fun a b => a ≤ b)) : ∀ k, k ≤ d.length → (compactUpTo d.toArray k).Pairwise (fun a b => a < b) ∧ ∀ z, z ∈ compactUpTo d.toArray k ↔ z ∈ d.take k
  | 0, _ => by
    have e : compactUpTo d.toArray 0 = [] := rfl
    rw [e]; simp
  | k + 1, hk => by
    obtain ⟨h1, h2⟩ := compact_k hs k (by omega)
    have hkl : k < d.length := by omega
    have e0 : d.toArray[k]! = zF d k := by
      unfold zF
      rw [List.getD_eq_getElem?_getD, List.getElem?_eq_getElem hkl]
      simp [hkl]
    have ts : d.take (k + 1) = d.take k ++ [zF d k] := take_snoc d k hkl
    have lek : ∀ z, z ∈ d.take k → z ≤ zF d k := fun z hz => by
      obtain ⟨i, hi, rfl⟩ := List.getElem_of_mem hz
      rw [List.length_take] at hi
      have := List.pairwise_iff_getElem.1 hs i k (by omega) hkl (by omega)
      unfold zF
      rw [List.getD_eq_getElem?_getD, List.getElem?_eq_getElem hkl]
      simpa using this
    rw [compactUpTo_succ, ts]
    cases k with
    | zero =>
      have kp : keeps d.toArray 0 = true := by unfold keeps; simp
      rw [if_pos kp, e0]
      have e : compactUpTo d.toArray 0 = [] := rfl
      rw [e]
      exact ⟨by simp, fun z => by simp⟩
    | succ k =>
      have hk1 : k < d.length := by omega
      have e1 : d.toArray[k]! = zF d k := by
        unfold zF
        rw [List.getD_eq_getElem?_getD, List.getElem?_eq_getElem hk1]
        simp [hk1]
      have mk : zF d k ∈ d.take (k + 1) := by rw [take_snoc d k hk1]; exact List.mem_append.2 (.inr (by show zF d k ∈ [zF d k]; simp))
      by_cases q : zF d (k + 1) = zF d k
      · have kp : keeps d.toArray (k + 1) = false := by unfold keeps; simp [e0, e1, q]
        rw [if_neg (by rw [kp]; simp), List.append_nil]
        refine ⟨h1, fun z => ?_⟩
        rw [h2, List.mem_append]
        refine ⟨.inl, fun h => h.elim id (fun h => ?_)⟩
        have : z = zF d (k + 1) := by simpa using h
        rw [this, q]; exact mk
      · have kp : keeps d.toArray (k + 1) = true := by unfold keeps; simp [e0, e1, q]
        rw [if_pos kp, e0]
        refine ⟨List.pairwise_append.2 ⟨h1, by simp, fun a ha b hb => ?_⟩, fun z => ?_⟩
        · have hb' : b = zF d (k + 1) := by simpa using hb
          rw [hb']
          have ha' := (h2 a).1 ha
          have l1 := lek a ha'
          have l2 := lek _ mk
          have : a ≤ zF d k := by
            obtain ⟨i, hi, rfl⟩ := List.getElem_of_mem ha'
            rw [List.length_take] at hi
            unfold zF
            rw [List.getD_eq_getElem?_getD, List.getElem?_eq_getElem hk1]
            by_cases e : i = k
            · subst e; simp
            · have := List.pairwise_iff_getElem.1 hs i k (by omega) hk1 (by omega)
              simpa using this
          omega
        · rw [List.mem_append, List.mem_append, h2]
theorem compact_srt (m : List Int) : Lib.compactUpTo (srt m).toArray (srt m).length = putAll [] m := by
  obtain ⟨h1, h2⟩ := compact_k (srt_pw m) (srt m).length (Nat.le_refl _)
  refine rise_ext h1 (rise_putAll List.Pairwise.nil) (fun z => ?_)
  rw [h2, List.take_length, mem_srt, mem_putAll]; simp
theorem askL_wf {l : List DInterval} (h : ∀ v, v ∈ l → ∀ z, z ∈ v.acting → (Lit.int .i64 z).wf = true) : ∀ z, z ∈ askL l → (Lit.int .i64 z).wf = true := fun z hz => by
  unfold askL at hz
  rw [mem_putAll] at hz
  obtain ⟨v, hv, hz⟩ := mem_askN.1 (mem_nodl.1 (hz.resolve_left (by simp))).1
  exact h v hv z hz
theorem iv_wf {fr : Bool} {lo : Nat} {w : World} {a : Option Addr} {l : List DInterval} (h : Rd.Rows fr lo w a l) : ∀ v, v ∈ l → ∀ z, z ∈ v.acting → (Lit.int .i64 z).wf = true := fun v hv z hz => by
  obtain ⟨i, hi, rfl⟩ := List.getElem_of_mem hv
  obtain ⟨b, off, cs, -, -, -, hr, -⟩ := h.at' (List.getElem?_eq_getElem hi)
  obtain ⟨a2, c2, rfl, -, -, f2, -⟩ := shape_Interval hr
  exact rows_wf f2 z hz
end Go.Proofs.Ythimpcfodbmhkaa.Ac
