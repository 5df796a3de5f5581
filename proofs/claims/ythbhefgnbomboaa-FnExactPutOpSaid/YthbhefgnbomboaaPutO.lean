/-
  The binary form of an operation: what the program and the model answer (written by tools/gen/puto.py).
-/
import Derived.Test.YthbhefgnbomboaaOpO
import Derived.Test.YthbhefgnbomboaaLawVar
import Derived.Deep.RegionHeld3
namespace Go.Proofs.Ythbhefgnbomboaa.Rd
open Go.RowKit Go.ChangeShapes Go.WideShapes Go.Proofs.Ythbhefgnbomboaa.GfI Go.Proofs.Ythbhefgnbomboaa.GfS Go.Proofs.Ythbhefgnbomboaa.Cd
open Go.Proofs.Ythbhefgnbomboaa.Sg (BxN)
set_option linter.unusedVariables false
set_option linter.unusedSimpArgs false

def opText (K A : Int) (S : ByteArray) : ByteArray := if okO 1 0 K A S = true then strOfNums (Bf.encF 9 K) ++ strOfNums (Bf.encF 9 A) ++ LawVar.encT S else ⟨#[]⟩
theorem empty_sz {s : ByteArray} (h : s.toList.isEmpty = true) : s.size = 0 := by
  rw [Lib.toList_data] at h
  rw [Lib.size_eq, List.isEmpty_iff.1 h]; rfl
theorem inB_le {n : Int} (h : inB n 0 64 = true) : 0 ≤ n ∧ n ≤ 64 := of_decide_eq_true h
theorem okO_true {k m K A : Int} {S : ByteArray} (h : okO k m K A S = true) : 1 ≤ K ∧ K ≤ 6 ∧ 0 ≤ A ∧ A ≤ 64 ∧ S.size ≤ 64 := by
  unfold okO at h
  rw [Bool.and_eq_true] at h
  have h := h.2
  repeat' split at h
  all_goals simp only [Bool.and_eq_true, beq_iff_eq, decide_eq_true_eq, Bool.false_eq_true] at h
  · obtain ⟨h1, h2⟩ := h; have := empty_sz h2; omega
  · omega
  · obtain ⟨⟨_, h1⟩, h2⟩ := h; have := inB_le h1; omega
  · omega
  · obtain ⟨⟨_, h1⟩, h2⟩ := h; have := inB_le h1; have := empty_sz h2; omega
  · obtain ⟨h1, h2⟩ := h; have := empty_sz h2; omega
theorem head_sz (n : Int) : (strOfNums (Bf.encF 9 n)).size ≤ 10 := by
  rw [strOfNums_size]; exact LawVar.encF_len 9 n
theorem encT_sz (t : ByteArray) (h : t.size ≤ 64) : (LawVar.encT t).size ≤ 100 := by
  unfold LawVar.encT
  rw [ByteArray.size_append]
  have := head_sz t.size; omega
theorem l16Plain (w : World) : Calls Try.prog 40 #[] w (RetW (cval 1 0) w) := by
  go_enter Try.func40, Try.ntmps40
  go_wp2
  refine bodyPost_ret (v := cval 1 0) (by simp [results, Try.results40, go_sem]) rfl ⟨rfl, ?_⟩
  repeat (first | exact Below.refl _ _ | refine Below.alloc ?_ (by simp <;> omega) _)
theorem opIsOk (K A : Int) (S : ByteArray) (v : Bool) (hv : okO 1 0 K A S = v) (w : World) : Calls Try.prog 46 #[.agg #[.int .i64 K, .int .i64 A, .string S]] w (RetW (.bool v) w) := by
  have BH := Lib.hid (lay w (.cells #[.int .i64 K, .int .i64 A, .string S] 37))
  have OK := Lib.hid (fun w' => implOpOk 1 0 K A S v hv w')
  clear hv
  go_enter Try.func46, Try.ntmps46
  go_wp2_with (go_at_call 17; refine (OK.out _).mono ?_; rintro e w2 ⟨rfl, b2⟩; have B2 := Lib.hid (chainX w BH.out b2); clear b2)
  go_ret
  exact ⟨rfl, B2.out⟩
set_option maxRecDepth 100000 in
set_option maxHeartbeats 4000000 in
theorem specPutOp (K A : Int) (S : ByteArray) (w : World) : Calls Try.prog 22 #[.agg #[.int .i64 K, .int .i64 A, .string S]] w (RetW (.string (opText K A S)) w) := by
  have BH := Lib.hid (lay w (.cells #[.int .i64 K, .int .i64 A, .string S] 37))
  have XH := Lib.hid (BxN.new w #[.int .i64 K, .int .i64 A, .string S] 37)
  obtain ⟨r, hr⟩ : ∃ r, opText K A S = r := ⟨_, rfl⟩
  rw [hr]
  unfold opText at hr
  obtain ⟨v, hv⟩ : ∃ v, okO 1 0 K A S = v := ⟨_, rfl⟩
  have OK := Lib.hid (fun w' => specOpOk 1 0 K A S v hv w')
  rw [hv] at hr
  cases v
  · rw [if_neg (by simp)] at hr
    subst hr
    clear hv
    go_enter Try.func22, Try.ntmps22
    go_wp2
    have X_0 := XH.out.cells 0 _ rfl; have X_1 := XH.out.cells 1 _ rfl; have X_2 := XH.out.cells 2 _ rfl
    go_region_held3 (fun w' => w'.cell? ⟨w.heap.size, 0, none⟩ = some (.int .i64 K) ∧ w'.cell? ⟨w.heap.size, 1, none⟩ = some (.int .i64 A) ∧ w'.cell? ⟨w.heap.size, 2, none⟩ = some (.string S)) (go_keep)
      ((first
        | (go_at_call 40; refine (l16Plain _).mono ?_; rintro e w2 ⟨rfl, b2⟩; have b9 := b2; (try replace b9 := undrewX b9); have XH := Lib.hid (XH.out.later b9); have BH := Lib.hid (chainX w BH.out b9); clear b9 b2; have X_0 := XH.out.cells 0 _ rfl; have X_1 := XH.out.cells 1 _ rfl; have X_2 := XH.out.cells 2 _ rfl;)
        | (go_at_call 14; refine (OK.out _).mono ?_; rintro e w2 ⟨rfl, b2⟩; have b9 := b2; (try replace b9 := undrewX b9); have XH := Lib.hid (XH.out.later b9); have BH := Lib.hid (chainX w BH.out b9); clear b9 b2; have X_0 := XH.out.cells 0 _ rfl; have X_1 := XH.out.cells 1 _ rfl; have X_2 := XH.out.cells 2 _ rfl;)))
    all_goals

      go_wp2
      go_ret
      exact ⟨rfl, BH.out⟩
  · rw [if_pos rfl] at hr
    obtain ⟨K0, K1, A0, A1, S1⟩ := okO_true hv
    clear hv
    have P1 := Lib.hid (fun w' => LawVar.specPutVar K (by omega) (by omega) w')
    have P2 := Lib.hid (fun w' => LawVar.specPutVar A (by omega) (by omega) w')
    have P3 := Lib.hid (fun w' => LawVar.specPutText S (by omega) w')
    have z1 := head_sz K
    have z2 := head_sz A
    have z3 := encT_sz S S1
    generalize strOfNums (Bf.encF 9 K) = s1 at *
    generalize strOfNums (Bf.encF 9 A) = s2 at *
    generalize LawVar.encT S = s3 at *
    have z4 : s1.size + s2.size ≤ 9223372036854775807 := by omega
    have z5 : (s1 ++ s2).size + s3.size ≤ 9223372036854775807 := by rw [ByteArray.size_append]; omega
    have z6 : ¬ (9223372036854775807 < s1.size + s2.size) := by omega
    have z7 : ¬ (9223372036854775807 < s1.size + s2.size + s3.size) := by omega
    clear K0 K1 A0 A1 S1 z1 z2 z3 z4 z5
    subst hr
    go_enter Try.func22, Try.ntmps22
    go_wp2
    have X_0 := XH.out.cells 0 _ rfl; have X_1 := XH.out.cells 1 _ rfl; have X_2 := XH.out.cells 2 _ rfl
    go_region_held3 (fun w' => w'.cell? ⟨w.heap.size, 0, none⟩ = some (.int .i64 K) ∧ w'.cell? ⟨w.heap.size, 1, none⟩ = some (.int .i64 A) ∧ w'.cell? ⟨w.heap.size, 2, none⟩ = some (.string S)) (go_keep)
      ((first
        | (go_at_call 40; refine (l16Plain _).mono ?_; rintro e w2 ⟨rfl, b2⟩; have b9 := b2; (try replace b9 := undrewX b9); have XH := Lib.hid (XH.out.later b9); have BH := Lib.hid (chainX w BH.out b9); clear b9 b2; have X_0 := XH.out.cells 0 _ rfl; have X_1 := XH.out.cells 1 _ rfl; have X_2 := XH.out.cells 2 _ rfl;)
        | (go_at_call 14; refine (OK.out _).mono ?_; rintro e w2 ⟨rfl, b2⟩; have b9 := b2; (try replace b9 := undrewX b9); have XH := Lib.hid (XH.out.later b9); have BH := Lib.hid (chainX w BH.out b9); clear b9 b2; have X_0 := XH.out.cells 0 _ rfl; have X_1 := XH.out.cells 1 _ rfl; have X_2 := XH.out.cells 2 _ rfl;)))
    all_goals

      go_wp2
      have tok := True.intro
      go_region_held3 (fun w' => w'.cell? ⟨w.heap.size, 0, none⟩ = some (.int .i64 K) ∧ w'.cell? ⟨w.heap.size, 1, none⟩ = some (.int .i64 A) ∧ w'.cell? ⟨w.heap.size, 2, none⟩ = some (.string S)) (go_keep)
        ((first
          | (go_at_call 44; clear tok; refine (P1.out _).mono ?_; rintro e w2 ⟨rfl, b2⟩; have b9 := b2; (try replace b9 := undrewX b9); have XH := Lib.hid (XH.out.later b9); have BH := Lib.hid (chainX w BH.out b9); clear b9 b2; have X_0 := XH.out.cells 0 _ rfl; have X_1 := XH.out.cells 1 _ rfl; have X_2 := XH.out.cells 2 _ rfl;)
          | (go_at_call 44; refine (P2.out _).mono ?_; rintro e w2 ⟨rfl, b2⟩; have b9 := b2; (try replace b9 := undrewX b9); have XH := Lib.hid (XH.out.later b9); have BH := Lib.hid (chainX w BH.out b9); clear b9 b2; have X_0 := XH.out.cells 0 _ rfl; have X_1 := XH.out.cells 1 _ rfl; have X_2 := XH.out.cells 2 _ rfl;)
          | (go_at_call 45; refine (P3.out _).mono ?_; rintro e w2 ⟨rfl, b2⟩; have b9 := b2; (try replace b9 := undrewX b9); have XH := Lib.hid (XH.out.later b9); have BH := Lib.hid (chainX w BH.out b9); clear b9 b2; have X_0 := XH.out.cells 0 _ rfl; have X_1 := XH.out.cells 1 _ rfl; have X_2 := XH.out.cells 2 _ rfl;)))
      all_goals
        go_wp2
        go_ret
        exact ⟨rfl, BH.out⟩
set_option maxRecDepth 100000 in
set_option maxHeartbeats 4000000 in
theorem implPutOp (K A : Int) (S : ByteArray) (w : World) : Calls Try.prog 23 #[.agg #[.int .i64 K, .int .i64 A, .string S]] w (RetW (.string (opText K A S)) w) := by
  have BH := Lib.hid (lay w (.cells #[.int .i64 K, .int .i64 A, .string S] 37))
  have XH := Lib.hid (BxN.new w #[.int .i64 K, .int .i64 A, .string S] 37)
  obtain ⟨r, hr⟩ : ∃ r, opText K A S = r := ⟨_, rfl⟩
  rw [hr]
  unfold opText at hr
  obtain ⟨v, hv⟩ : ∃ v, okO 1 0 K A S = v := ⟨_, rfl⟩
  have OK := Lib.hid (fun w' => opIsOk K A S v hv w')
  rw [hv] at hr
  cases v
  · rw [if_neg (by simp)] at hr
    subst hr
    clear hv
    go_enter Try.func23, Try.ntmps23
    go_wp2_with fail
    refine (OK.out _).mono ?_
    rintro e w2 ⟨rfl, b2⟩
    have b9 := b2; (try replace b9 := undrewX b9); have XH := Lib.hid (XH.out.later b9); have BH := Lib.hid (chainX w BH.out b9); clear b9 b2; have X_0 := XH.out.cells 0 _ rfl; have X_1 := XH.out.cells 1 _ rfl; have X_2 := XH.out.cells 2 _ rfl;
    go_wp2
    go_ret
    exact ⟨rfl, BH.out⟩
  · rw [if_pos rfl] at hr
    obtain ⟨K0, K1, A0, A1, S1⟩ := okO_true hv
    clear hv
    have P1 := Lib.hid (fun w' => Vr.implPutVar K (by omega) (by omega) w')
    have P2 := Lib.hid (fun w' => Vr.implPutVar A (by omega) (by omega) w')
    have P3 := Lib.hid (fun w' => LawVar.implPutText S (by omega) w')
    have z1 := head_sz K
    have z2 := head_sz A
    have z3 := encT_sz S S1
    generalize strOfNums (Bf.encF 9 K) = s1 at *
    generalize strOfNums (Bf.encF 9 A) = s2 at *
    generalize LawVar.encT S = s3 at *
    have z4 : s1.size + s2.size ≤ 9223372036854775807 := by omega
    have z5 : (s1 ++ s2).size + s3.size ≤ 9223372036854775807 := by rw [ByteArray.size_append]; omega
    have z6 : ¬ (9223372036854775807 < s1.size + s2.size) := by omega
    have z7 : ¬ (9223372036854775807 < s1.size + s2.size + s3.size) := by omega
    clear K0 K1 A0 A1 S1 z1 z2 z3 z4 z5
    subst hr
    go_enter Try.func23, Try.ntmps23
    go_wp2_with fail
    refine (OK.out _).mono ?_
    rintro e w2 ⟨rfl, b2⟩
    have b9 := b2; (try replace b9 := undrewX b9); have XH := Lib.hid (XH.out.later b9); have BH := Lib.hid (chainX w BH.out b9); clear b9 b2; have X_0 := XH.out.cells 0 _ rfl; have X_1 := XH.out.cells 1 _ rfl; have X_2 := XH.out.cells 2 _ rfl;
    go_wp2
    have tok := True.intro
    go_region_held3 (fun w' => w'.cell? ⟨w.heap.size, 0, none⟩ = some (.int .i64 K) ∧ w'.cell? ⟨w.heap.size, 1, none⟩ = some (.int .i64 A) ∧ w'.cell? ⟨w.heap.size, 2, none⟩ = some (.string S)) (go_keep)
      ((first
        | (go_at_call 47; clear tok; refine (P1.out _).mono ?_; rintro e w2 ⟨rfl, b2⟩; have b9 := b2; (try replace b9 := undrewX b9); have XH := Lib.hid (XH.out.later b9); have BH := Lib.hid (chainX w BH.out b9); clear b9 b2; have X_0 := XH.out.cells 0 _ rfl; have X_1 := XH.out.cells 1 _ rfl; have X_2 := XH.out.cells 2 _ rfl;)
        | (go_at_call 47; refine (P2.out _).mono ?_; rintro e w2 ⟨rfl, b2⟩; have b9 := b2; (try replace b9 := undrewX b9); have XH := Lib.hid (XH.out.later b9); have BH := Lib.hid (chainX w BH.out b9); clear b9 b2; have X_0 := XH.out.cells 0 _ rfl; have X_1 := XH.out.cells 1 _ rfl; have X_2 := XH.out.cells 2 _ rfl;)
        | (go_at_call 48; refine (P3.out _).mono ?_; rintro e w2 ⟨rfl, b2⟩; have b9 := b2; (try replace b9 := undrewX b9); have XH := Lib.hid (XH.out.later b9); have BH := Lib.hid (chainX w BH.out b9); clear b9 b2; have X_0 := XH.out.cells 0 _ rfl; have X_1 := XH.out.cells 1 _ rfl; have X_2 := XH.out.cells 2 _ rfl;)))
    all_goals
      go_wp2
      go_ret
      exact ⟨rfl, BH.out⟩
end Go.Proofs.Ythbhefgnbomboaa.Rd
