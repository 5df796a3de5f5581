/-
  The exact law of GfLog: the program returns what the model returns.
-/
import Derived.Test.YtbbenadihfhfmabGfLog
import Derived.Test.YtbbenadihfhfmabGfSpecX
import Derived.Test.YtbbenadihfhfmabLawsGf
namespace Go.Proofs.Ytbbenadihfhfmab.GfS
open Go.RowKit Go.Proofs.Ytbbenadihfhfmab.GfI
theorem mulZ_two {a : Int} (h0 : 0 ≤ a) (h1 : a ≤ 255) : mulZ a 2 = dblZ a := by
  unfold mulZ dblZ; rw [show (2 : Int).toNat = 2 from rfl, Gf.mul_two (by omega)]
theorem pw_one_pos (k : Nat) : 1 ≤ pwZ 1 k := by
  have d : ∀ x, x < 256 → 1 ≤ x → 1 ≤ Gf.dbl x := by decide +kernel
  have : ∀ k, 1 ≤ Gf.pw 1 k := by
    intro k
    induction k with
    | zero => exact Nat.le_refl 1
    | succ k ih => exact d _ (Gf.pw_lt (by omega) k) ih
  unfold pwZ; have := this k; simp only [Int.toNat_one]; omega

set_option maxRecDepth 100000 in
theorem GfLog_ok (a : Int) (h0 : 1 ≤ a) (h1 : a ≤ 255) (w : World) :
    Calls Try.prog 30 #[.int .i64 a] w fun e w' => e = .returned (.tuple #[.int .i64 (logN a), .int .i64 0]) ∧ w = w' := by
  have h00 : 0 ≤ a := by omega
  have hL := logN_lt h0 h1
  have ha := elt_yes h00 h1
  go_enter Try.func30, Try.ntmps30
  go_wp2_with fail
  refine (l02Byte a _).mono ?_
  rintro e w1 ⟨rfl, rfl⟩
  go_wp2_with fail
  go_loop [4, 5] (fun n i => ∃ k : Nat, k ≤ logN a ∧ i = .int .i64 k ∧ n = .int .i64 (pwZ 1 k)) (fun _ i => 255 - (intOf i).toNat)
  case atStart => exact ⟨0, by omega, rfl, rfl⟩
  case round =>
    obtain ⟨k, hk, rfl, rfl⟩ := hrel
    have x0 := pwZ_lt (a := 1) (by omega) (by omega) k
    by_cases hkl : k = logN a
    · have A : (pwZ 1 k == a) = true := by rw [hkl, logN_at h0 h1]; simp
      have K := Lib.hid hkl
      clear hkl hk
      have hk : k < 255 := by rw [K.out]; exact hL
      go_wp2
      go_ret2
      exact ⟨ret_two (by rw [← K.out]), rfl⟩
    · have hlt : k < logN a := by omega
      have N : (pwZ 1 k == a) = false := by rw [beq_eq_false_iff_ne]; exact logN_ne h0 h1 hlt
      have hk : k < 255 := by omega
      have D := Lib.hid ((mulZ_two x0.1 x0.2).trans (pwZ_succ (a := 1) k))
      clear hkl
      go_wp2_with fail
      refine (l02Times (pwZ 1 k) 2 x0.1 x0.2 (by omega) _).mono ?_
      rintro e w1 ⟨rfl, rfl⟩
      go_wp2
      go_round
      case rel => exact ⟨k + 1, by omega, by go_num, by rw [← D.out]⟩
      case measure => simp [intOf]; omega

set_option maxRecDepth 100000 in
theorem GfLog_zero (w : World) :
    Calls Try.prog 30 #[.int .i64 0] w fun e w' => e = .returned (.tuple #[.int .i64 0, .int .i64 3]) ∧ w = w' := by
  have ha := elt_yes (a := 0) (by omega) (by omega)
  go_enter Try.func30, Try.ntmps30
  go_wp2_with fail
  refine (l02Byte 0 _).mono ?_
  rintro e w1 ⟨rfl, rfl⟩
  go_wp2_with fail
  go_loop [4, 5] (fun n i => ∃ k : Nat, k ≤ 255 ∧ i = .int .i64 k ∧ n = .int .i64 (pwZ 1 k)) (fun _ i => 255 - (intOf i).toNat)
  case atStart => exact ⟨0, by omega, rfl, rfl⟩
  case round =>
    obtain ⟨k, hk, rfl, rfl⟩ := hrel
    have x0 := pwZ_lt (a := 1) (by omega) (by omega) k
    have x1 := pw_one_pos k
    by_cases hkl : k = 255
    · subst hkl
      go_wp2
      go_ret2
      exact ⟨rfl, rfl⟩
    · have hlt : k < 255 := by omega
      have D := Lib.hid ((mulZ_two x0.1 x0.2).trans (pwZ_succ (a := 1) k))
      clear hkl
      go_wp2_with fail
      refine (l02Times (pwZ 1 k) 2 x0.1 x0.2 (by omega) _).mono ?_
      rintro e w1 ⟨rfl, rfl⟩
      go_wp2
      go_round
      case rel => exact ⟨k + 1, by omega, by go_num, by rw [← D.out]⟩
      case measure => simp [intOf]; omega

theorem GfLog_bad (a : Int) (h : isElt a = false) (w : World) :
    Calls Try.prog 30 #[.int .i64 a] w fun e w' => e = .returned (.tuple #[.int .i64 0, .int .i64 2]) ∧ w = w' := by
  go_enter Try.func30, Try.ntmps30
  go_wp2_with fail
  refine (l02Byte a _).mono ?_
  rintro e w1 ⟨rfl, rfl⟩
  go_wp2
  go_ret2
  exact ⟨rfl, rfl⟩
end Go.Proofs.Ytbbenadihfhfmab.GfS
namespace Go.Proofs.Ytbbenadihfhfmab.LawsGf
open Go.RowKit Go.Proofs.Ytbbenadihfhfmab.GfI
set_option linter.unusedVariables false
set_option maxRecDepth 100000 in
theorem gfLog (a : Int) (wa : (Lit.int .i64 a).wf = true) (w : World) :
    Calls Try.prog 11 #[.int .i64 a] w fun e w' => e = .returned (.bool true) ∧ Below w.heap.size w w' := by
  clear wa
  by_cases ha : isElt a = true
  · obtain ⟨h0, h1⟩ := elt_of ha
    clear ha
    by_cases hz : a = 0
    · subst hz
      clear h0 h1
      go_enter Try.func11, Try.ntmps11
      go_wp2_with fail
      refine (GfS.GfLog_zero _).mono ?_
      rintro e w1 ⟨rfl, rfl⟩
      go_wp2_with fail
      refine (GfI.GfLog_zero _).mono ?_
      rintro e w2 ⟨rfl, rfl⟩
      go_wp2
      go_ret
      exact ⟨rfl, Below.refl _ _⟩
    · have h2 : 1 ≤ a := by omega
      clear hz
      go_enter Try.func11, Try.ntmps11
      go_wp2_with fail
      refine (GfS.GfLog_ok a h2 h1 _).mono ?_
      rintro e w1 ⟨rfl, rfl⟩
      go_wp2_with fail
      refine (GfI.GfLog_ok a h2 h1 _).mono ?_
      rintro e w2 ⟨rfl, hb⟩
      go_wp2
      go_ret
      exact ⟨rfl, hb⟩
  · have ha : isElt a = false := by simpa using ha
    go_enter Try.func11, Try.ntmps11
    go_wp2_with fail
    refine (GfS.GfLog_bad a ha _).mono ?_
    rintro e w1 ⟨rfl, rfl⟩
    go_wp2_with fail
    refine (GfI.GfLog_bad a ha _).mono ?_
    rintro e w2 ⟨rfl, rfl⟩
    go_wp2
    go_ret
    exact ⟨rfl, Below.refl _ _⟩
end Go.Proofs.Ytbbenadihfhfmab.LawsGf
