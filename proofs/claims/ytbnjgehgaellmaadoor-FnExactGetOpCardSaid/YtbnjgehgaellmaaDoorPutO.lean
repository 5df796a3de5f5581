/-
  The binary form of an operation: what the program and the model answer (written by tools/gen/puto.py).
-/
import Derived.Test.YtbnjgehgaellmaaDoorOpO
import Derived.Test.YtbnjgehgaellmaaDoorLawVar
import Derived.Deep.RegionHeld3
namespace Go.Proofs.YtbnjgehgaellmaaDoor.Rd
open Go.RowKit Go.ChangeShapes Go.WideShapes Go.Proofs.YtbnjgehgaellmaaDoor.GfI Go.Proofs.YtbnjgehgaellmaaDoor.GfS Go.Proofs.YtbnjgehgaellmaaDoor.Cd
open Go.Proofs.YtbnjgehgaellmaaDoor.Sg (BxN)
set_option linter.unusedVariables false
set_option linter.unusedSimpArgs false

def opText (K A : Int) (S : ByteArray) : ByteArray := if okO 1 0 K A S = true then strOfNums (Bf.encF 9 K) ++ strOfNums (Bf.encF 9 A) ++ LawVar.encT S else ⟨#[]⟩
theorem empty_sz {s : ByteArray} (h : s.toList.isEmpty = true) : s.size = 0 := by
  rw [Lib.toList_data] at h
  rw [Lib.size_eq, List.isEmpty_iff.1 h]; rfl
theorem inB_le {n : Int} (h : inB n 0 64 = true) : 0 ≤ n ∧ n ≤ 64 := of_decide_eq_true h
theorem okO_true {k m K A : Int} {S : ByteArray} (h : okO k m K A S = true) : 1 ≤ K ∧ K ≤ 6 ∧ 0 ≤ A ∧ A ≤ 64 ∧ S.size ≤ 64 := by
  unfold okO at h
  rw [Bool.and_eq_true] at h
  have h := h.2
  repeat' split at h
  all_goals simp only [Bool.and_eq_true, beq_iff_eq, decide_eq_true_eq, Bool.false_eq_true] at h
  · obtain ⟨h1, h2⟩ := h; have := empty_sz h2; omega
  · omega
  · obtain ⟨⟨_, h1⟩, h2⟩ := h; have := inB_le h1; omega
  · omega
  · obtain ⟨⟨_, h1⟩, h2⟩ := h; have := inB_le h1; have := empty_sz h2; omega
  · obtain ⟨h1, h2⟩ := h; have := empty_sz h2; omega
theorem head_sz (n : Int) : (strOfNums (Bf.encF 9 n)).size ≤ 10 := by
  rw [strOfNums_size]; exact LawVar.encF_len 9 n
theorem encT_sz (t : ByteArray) (h : t.size ≤ 64) : (LawVar.encT t).size ≤ 100 := by
  unfold LawVar.encT
  rw [ByteArray.size_append]
  have := head_sz t.size; omega
theorem l16Plain (w : World) : Calls Tryd.prog 10 #[] w (RetW (cval 1 0) w) := by
  go_enter Tryd.func10, Tryd.ntmps10
  go_wp2
  refine bodyPost_ret (v := cval 1 0) (by simp [results, Tryd.results10, go_sem]) rfl ⟨rfl, ?_⟩
  repeat (first | exact Below.refl _ _ | refine Below.alloc ?_ (by simp <;> omega) _)
theorem opIsOk (K A : Int) (S : ByteArray) (v : Bool) (hv : okO 1 0 K A S = v) (w : World) : Calls Tryd.prog 13 #[.agg #[.int .i64 K, .int .i64 A, .string S]] w (RetW (.bool v) w) := by
  have BH := Lib.hid (lay w (.cells #[.int .i64 K, .int .i64 A, .string S] 23))
  have OK := Lib.hid (fun w' => implOpOk 1 0 K A S v hv w')
  clear hv
  go_enter Tryd.func13, Tryd.ntmps13
  go_wp2_with (go_at_call 22; refine (OK.out _).mono ?_; rintro e w2 ⟨rfl, b2⟩; have B2 := Lib.hid (chainX w BH.out b2); clear b2)
  go_ret
  exact ⟨rfl, B2.out⟩
end Go.Proofs.YtbnjgehgaellmaaDoor.Rd
