/-
  What PowerLoss answers.
-/
import Derived.Test.YtdieekgihdikdaaPlT
import Derived.Test.YtdieekgihdikdaaPlC
import Derived.Test.YtdieekgihdikdaaPlR
import Derived.Test.YtdieekgihdikdaaDkZ
import Derived.Lib.IndexBytes
namespace Go.Proofs.Ytdieekgihdikdaa.Rd
open Go.RowKit Go.ChangeShapes Go.WideShapes Go.Proofs.Ytdieekgihdikdaa.GfI Go.Proofs.Ytdieekgihdikdaa.GfS
open Go.Proofs.Ytdieekgihdikdaa.Sg (BxN)
set_option linter.unusedVariables false
set_option linter.unusedSimpArgs false

/-- A list of writes that may be kept. -/
def KOk (m : Nat) (z : List Int) : Prop := Ac.RisN (Ac.zF z) z.length ∧ ∀ x, x ∈ z → inD m x = true
theorem kok_out (m : Nat) (z : List Int) : Ac.OutH ((m : Int) - 1) z ↔ KOk m z := by
  unfold Ac.OutH KOk Ac.InH
  refine ⟨fun h => ⟨h.1, fun x hx => ?_⟩, fun h => ⟨h.1, fun i hi => ?_⟩⟩
  · obtain ⟨i, hi, rfl⟩ := List.getElem_of_mem hx
    have := h.2 i hi
    unfold Ac.zF inB at this
    rw [List.getD_eq_getElem?_getD, List.getElem?_eq_getElem hi] at this
    have := of_decide_eq_true this
    exact decide_eq_true ⟨this.1, by have := this.2; simp at this ⊢; omega⟩
  · have := of_decide_eq_true (h.2 _ (List.getElem_mem hi))
    unfold Ac.zF inB
    rw [List.getD_eq_getElem?_getD, List.getElem?_eq_getElem hi]
    exact decide_eq_true ⟨this.1, by have := this.2; simp; omega⟩
/-- The writes that a list names. -/
def keptL (d : DDisk) (z : List Int) : List DPending := z.filterMap fun x => d.waits[x.toNat]?
theorem keptL_mem {d : DDisk} {z : List Int} {x : DPending} (h : x ∈ keptL d z) : x ∈ d.waits := by
  obtain ⟨v, _, e⟩ := List.mem_filterMap.1 h
  exact List.mem_of_getElem? e
theorem keptL_app {d : DDisk} {z : List Int} {v : Int} {x : DPending} (h : d.waits[v.toNat]? = some x) : keptL d (z ++ [v]) = keptL d z ++ [x] := by
  unfold keptL; rw [List.filterMap_append, List.filterMap_cons, h]; rfl
theorem keptL_succ {d : DDisk} {z : List Int} {j : Nat} {v : Int} {x : DPending} (hz : z[j]? = some v) (h : d.waits[v.toNat]? = some x) : keptL d (z.take (j + 1)) = keptL d (z.take j) ++ [x] := by
  rw [List.take_add_one, hz]; exact keptL_app h
theorem keptL_len {d : DDisk} : ∀ {z : List Int}, (∀ x, x ∈ z → inD d.waits.length x = true) → (keptL d z).length = z.length
  | [], _ => rfl
  | v :: z, h => by
    obtain ⟨i0, i1⟩ := inD_yes (h v (by simp))
    obtain ⟨x, hx⟩ := get_lt (show v.toNat < d.waits.length by omega)
    have ih := keptL_len (d := d) (z := z) (fun y hy => h y (by simp [hy]))
    unfold keptL at ih ⊢
    rw [List.filterMap_cons, hx]
    simp only [List.length_cons, ih]
/-- A text of which the first n bytes are another's. -/
def tornS (s b : ByteArray) (n : Nat) : ByteArray := strOfNums (tornL (nums s) b n)
theorem tornS_size {s b : ByteArray} {n : Nat} (h : s.size = b.size) (hn : n ≤ b.size) : (tornS s b n).size = b.size := by
  unfold tornS; rw [strOfNums_size, tornL_len (by rw [nums_len]; exact h) hn]
theorem tornS_cut (s b : ByteArray) (n : Nat) : b.extract 0 n ++ s.extract n s.size = tornS s b n := by
  apply ByteArray.ext
  apply Array.toList_inj.1
  have e1 : (tornS s b n).data.toList = b.data.toList.take n ++ s.data.toList.drop n := by
    have e : tornL (nums s) b n = nums ⟨(b.data.toList.take n ++ s.data.toList.drop n).toArray⟩ := by
      unfold tornL nums
      rw [List.map_append, List.map_take, List.map_drop]
    unfold tornS
    rw [e, nums_str]
  rw [e1, ByteArray.data_append, Array.toList_append, Go.Lib.extract_to_end, ByteArray.data_extract, Array.toList_extract]
  simp
/-- What PowerLoss answers. -/
def LossP (d : DDisk) (z : List Int) (t : Int) (r : DDisk) (c : Int) : Prop :=
  (¬ DOk d ∧ r = zeroD ∧ c = 1) ∨ (DOk d ∧ ¬ (KOk d.waits.length z ∧ inB t (-1) 64 = true) ∧ r = zeroD ∧ c = 2) ∨
  (DOk d ∧ KOk d.waits.length z ∧ inB t (-1) 64 = true ∧ (t < 0 ∨ z = []) ∧ r = ⟨flushL d.sectors (keptL d z), []⟩ ∧ c = 0) ∨
  (DOk d ∧ KOk d.waits.length z ∧ ∃ za v x s n i, z = za ++ [v] ∧ d.waits[v.toNat]? = some x ∧ x.atF = ((i : Nat) : Int) ∧ t = ((n : Nat) : Int) ∧ n ≤ 64 ∧ (flushL d.sectors (keptL d za))[i]? = some s ∧
    r = ⟨(flushL d.sectors (keptL d za)).set i (tornS s x.bytes n), []⟩ ∧ c = 0)
theorem lossP_ex (d : DDisk) (z : List Int) (t : Int) : ∃ r c, LossP d z t r c := by
  classical
  by_cases h : DOk d
  · by_cases k : KOk d.waits.length z ∧ inB t (-1) 64 = true
    · by_cases e : t < 0 ∨ z = []
      · exact ⟨_, _, .inr (.inr (.inl ⟨h, k.1, k.2, e, rfl, rfl⟩))⟩
      · have ht : -1 ≤ t ∧ t ≤ 64 := of_decide_eq_true k.2
        have e1 : ¬ t < 0 := fun q => e (.inl q)
        have e2 : z ≠ [] := fun q => e (.inr q)
        have hz := List.dropLast_concat_getLast e2
        have hv := k.1.2 (z.getLast e2) (List.getLast_mem e2)
        obtain ⟨i0, i1⟩ := inD_yes hv
        obtain ⟨x, hx⟩ := get_lt (show (z.getLast e2).toNat < d.waits.length by omega)
        have hw := h.2.2.2 x (List.mem_of_getElem? hx)
        unfold wait at hw
        obtain ⟨j0, j1⟩ := inD_yes (Bool.and_eq_true_iff.1 hw).1
        obtain ⟨s, hs⟩ := get_lt (show x.atF.toNat < (flushL d.sectors (keptL d z.dropLast)).length by rw [flushL_len]; omega)
        exact ⟨_, _, .inr (.inr (.inr ⟨h, k.1, z.dropLast, z.getLast e2, x, s, t.toNat, x.atF.toNat, hz.symm, hx, by omega, by omega, by omega, hs, rfl, rfl⟩))⟩
    · exact ⟨_, _, .inr (.inl ⟨h, k, rfl, rfl⟩)⟩
  · exact ⟨_, _, .inl ⟨h, rfl, rfl⟩⟩
theorem kept_sec {d : DDisk} (h : DOk d) (z : List Int) : ∀ s, s ∈ flushL d.sectors (keptL d z) → sec s = true := flushL_sec _ _ h.2.2.1 (fun x hx => wait_sec (h.2.2.2 x (keptL_mem hx)))
theorem lossP_sz {d : DDisk} {z : List Int} {t : Int} {r : DDisk} {c : Int} (h : LossP d z t r c) : Rdb.sz r ≤ 2097152 := by
  rcases h with ⟨_, rfl, _⟩ | ⟨_, _, rfl, _⟩ | ⟨h, _, _, _, rfl, _⟩ | ⟨h, _, za, v, x, s, n, i, _, hx, _, _, hn, hs, rfl, _⟩
  · exact (by show (0 : Nat) ≤ _; omega)
  · exact (by show (0 : Nat) ≤ _; omega)
  · exact sz_disk 1200 0 (kept_sec h z) (fun x hx => by cases hx) (by show (flushL d.sectors (keptL d z)).length ≤ 1200; rw [flushL_len]; exact h.1.2) (Nat.le_refl _) (by omega)
  · have s1 : s.size = 64 := of_decide_eq_true (kept_sec h za s (List.mem_of_getElem? hs))
    have b1 : x.bytes.size = 64 := of_decide_eq_true (wait_sec (h.2.2.2 x (List.mem_of_getElem? hx)))
    refine sz_disk 1200 0 (fun y hy => ?_) (fun x hx => by cases hx) (by show ((flushL d.sectors (keptL d za)).set i _).length ≤ 1200; rw [List.length_set, flushL_len]; exact h.1.2) (Nat.le_refl _) (by omega)
    rcases List.mem_or_eq_of_mem_set hy with q | q
    · exact kept_sec h za y q
    · rw [q]; exact decide_eq_true ((tornS_size (by omega) (by omega)).trans b1)
end Go.Proofs.Ytdieekgihdikdaa.Rd
