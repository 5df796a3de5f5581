/-
  The exact laws of chapter 2 on numbers: sum, product, inverse, quotient, power: the program returns what the model returns.
-/
import Derived.Test.YtbbenadihfhfmabGfSpecX
namespace Go.Proofs.Ytbbenadihfhfmab.LawsGf
open Go.RowKit Go.Proofs.Ytbbenadihfhfmab.GfI
set_option linter.unusedVariables false
theorem i64_bounds {n : Int} (h : (Lit.int .i64 n).wf = true) : -9223372036854775808 ≤ n ∧ n ≤ 9223372036854775807 := by
  simp only [Lit.wf, IntKind.min, IntKind.max, IntKind.signed, IntKind.bits, Bool.and_eq_true, decide_eq_true_eq, if_true] at h
  omega

set_option maxRecDepth 100000 in
theorem gfAdd (a b : Int) (wa : (Lit.int .i64 a).wf = true) (wb : (Lit.int .i64 b).wf = true) (w : World) :
    Calls Try.prog 6 #[.int .i64 a, .int .i64 b] w fun e w' => e = .returned (.bool true) ∧ Below w.heap.size w w' := by
  clear wa wb
  by_cases ha : isElt a = true
  · by_cases hb : isElt b = true
    · obtain ⟨h0, h1⟩ := elt_of ha
      obtain ⟨g0, g1⟩ := elt_of hb
      clear ha hb
      go_enter Try.func6, Try.ntmps6
      go_wp2_with fail
      refine (GfS.GfAdd_ok a b h0 h1 g0 g1 _).mono ?_
      rintro e w1 ⟨rfl, rfl⟩
      go_wp2_with fail
      refine (GfI.GfAdd_ok a b h0 h1 g0 g1 _).mono ?_
      rintro e w2 ⟨rfl, rfl⟩
      go_wp2
      go_ret
      exact ⟨rfl, Below.refl _ _⟩
    · have hb : isElt b = false := by simpa using hb
      clear ha
      go_enter Try.func6, Try.ntmps6
      go_wp2_with fail
      refine (GfS.GfAdd_bad a b (.inr hb) _).mono ?_
      rintro e w1 ⟨rfl, rfl⟩
      go_wp2_with fail
      refine (GfI.GfAdd_bad a b (.inr hb) _).mono ?_
      rintro e w2 ⟨rfl, rfl⟩
      go_wp2
      go_ret
      exact ⟨rfl, Below.refl _ _⟩
  · have ha : isElt a = false := by simpa using ha
    go_enter Try.func6, Try.ntmps6
    go_wp2_with fail
    refine (GfS.GfAdd_bad a b (.inl ha) _).mono ?_
    rintro e w1 ⟨rfl, rfl⟩
    go_wp2_with fail
    refine (GfI.GfAdd_bad a b (.inl ha) _).mono ?_
    rintro e w2 ⟨rfl, rfl⟩
    go_wp2
    go_ret
    exact ⟨rfl, Below.refl _ _⟩

set_option maxRecDepth 100000 in
theorem gfMul (a b : Int) (wa : (Lit.int .i64 a).wf = true) (wb : (Lit.int .i64 b).wf = true) (w : World) :
    Calls Try.prog 7 #[.int .i64 a, .int .i64 b] w fun e w' => e = .returned (.bool true) ∧ Below w.heap.size w w' := by
  clear wa wb
  by_cases ha : isElt a = true
  · by_cases hb : isElt b = true
    · obtain ⟨h0, h1⟩ := elt_of ha
      obtain ⟨g0, g1⟩ := elt_of hb
      clear ha hb
      go_enter Try.func7, Try.ntmps7
      go_wp2_with fail
      refine (GfS.GfMul_ok a b h0 h1 g0 g1 _).mono ?_
      rintro e w1 ⟨rfl, rfl⟩
      go_wp2_with fail
      refine (GfI.GfMul_ok a b h0 h1 g0 g1 _).mono ?_
      rintro e w2 ⟨rfl, hb⟩
      go_wp2
      go_ret
      exact ⟨rfl, hb⟩
    · have hb : isElt b = false := by simpa using hb
      clear ha
      go_enter Try.func7, Try.ntmps7
      go_wp2_with fail
      refine (GfS.GfMul_bad a b (.inr hb) _).mono ?_
      rintro e w1 ⟨rfl, rfl⟩
      go_wp2_with fail
      refine (GfI.GfMul_bad a b (.inr hb) _).mono ?_
      rintro e w2 ⟨rfl, rfl⟩
      go_wp2
      go_ret
      exact ⟨rfl, Below.refl _ _⟩
  · have ha : isElt a = false := by simpa using ha
    go_enter Try.func7, Try.ntmps7
    go_wp2_with fail
    refine (GfS.GfMul_bad a b (.inl ha) _).mono ?_
    rintro e w1 ⟨rfl, rfl⟩
    go_wp2_with fail
    refine (GfI.GfMul_bad a b (.inl ha) _).mono ?_
    rintro e w2 ⟨rfl, rfl⟩
    go_wp2
    go_ret
    exact ⟨rfl, Below.refl _ _⟩

set_option maxRecDepth 100000 in
theorem gfDiv (a b : Int) (wa : (Lit.int .i64 a).wf = true) (wb : (Lit.int .i64 b).wf = true) (w : World) :
    Calls Try.prog 9 #[.int .i64 a, .int .i64 b] w fun e w' => e = .returned (.bool true) ∧ Below w.heap.size w w' := by
  clear wa wb
  by_cases ha : isElt a = true
  · by_cases hb : isElt b = true
    · obtain ⟨h0, h1⟩ := elt_of ha
      obtain ⟨g0, g1⟩ := elt_of hb
      clear ha hb
      by_cases hz : b = 0
      · subst hz
        clear g0 g1
        go_enter Try.func9, Try.ntmps9
        go_wp2_with fail
        refine (GfS.GfDiv_zero a h0 h1 _).mono ?_
        rintro e w1 ⟨rfl, rfl⟩
        go_wp2_with fail
        refine (GfI.GfDiv_zero a h0 h1 _).mono ?_
        rintro e w2 ⟨rfl, rfl⟩
        go_wp2
        go_ret
        exact ⟨rfl, Below.refl _ _⟩
      · have g2 : 1 ≤ b := by omega
        clear hz
        go_enter Try.func9, Try.ntmps9
        go_wp2_with fail
        refine (GfS.GfDiv_ok a b h0 h1 g2 g1 _).mono ?_
        rintro e w1 ⟨rfl, rfl⟩
        go_wp2_with fail
        refine (GfI.GfDiv_ok a b h0 h1 g2 g1 _).mono ?_
        rintro e w2 ⟨rfl, hb⟩
        go_wp2
        go_ret
        exact ⟨rfl, hb⟩
    · have hb : isElt b = false := by simpa using hb
      clear ha
      go_enter Try.func9, Try.ntmps9
      go_wp2_with fail
      refine (GfS.GfDiv_bad a b (.inr hb) _).mono ?_
      rintro e w1 ⟨rfl, rfl⟩
      go_wp2_with fail
      refine (GfI.GfDiv_bad a b (.inr hb) _).mono ?_
      rintro e w2 ⟨rfl, rfl⟩
      go_wp2
      go_ret
      exact ⟨rfl, Below.refl _ _⟩
  · have ha : isElt a = false := by simpa using ha
    go_enter Try.func9, Try.ntmps9
    go_wp2_with fail
    refine (GfS.GfDiv_bad a b (.inl ha) _).mono ?_
    rintro e w1 ⟨rfl, rfl⟩
    go_wp2_with fail
    refine (GfI.GfDiv_bad a b (.inl ha) _).mono ?_
    rintro e w2 ⟨rfl, rfl⟩
    go_wp2
    go_ret
    exact ⟨rfl, Below.refl _ _⟩

set_option maxRecDepth 100000 in
theorem gfInv (a : Int) (wa : (Lit.int .i64 a).wf = true) (w : World) :
    Calls Try.prog 8 #[.int .i64 a] w fun e w' => e = .returned (.bool true) ∧ Below w.heap.size w w' := by
  clear wa
  by_cases ha : isElt a = true
  · obtain ⟨h0, h1⟩ := elt_of ha
    clear ha
    by_cases hz : a = 0
    · subst hz
      clear h0 h1
      go_enter Try.func8, Try.ntmps8
      go_wp2_with fail
      refine (GfS.GfInv_zero _).mono ?_
      rintro e w1 ⟨rfl, rfl⟩
      go_wp2_with fail
      refine (GfI.GfInv_zero _).mono ?_
      rintro e w2 ⟨rfl, rfl⟩
      go_wp2
      go_ret
      exact ⟨rfl, Below.refl _ _⟩
    · have h2 : 1 ≤ a := by omega
      clear hz
      go_enter Try.func8, Try.ntmps8
      go_wp2_with fail
      refine (GfS.GfInv_ok a h2 h1 _).mono ?_
      rintro e w1 ⟨rfl, rfl⟩
      go_wp2_with fail
      refine (GfI.GfInv_ok a h2 h1 _).mono ?_
      rintro e w2 ⟨rfl, hb⟩
      go_wp2
      go_ret
      exact ⟨rfl, hb⟩
  · have ha : isElt a = false := by simpa using ha
    go_enter Try.func8, Try.ntmps8
    go_wp2_with fail
    refine (GfS.GfInv_bad a ha _).mono ?_
    rintro e w1 ⟨rfl, rfl⟩
    go_wp2_with fail
    refine (GfI.GfInv_bad a ha _).mono ?_
    rintro e w2 ⟨rfl, rfl⟩
    go_wp2
    go_ret
    exact ⟨rfl, Below.refl _ _⟩

set_option maxRecDepth 100000 in
theorem gfPow (a n : Int) (wa : (Lit.int .i64 a).wf = true) (wn : (Lit.int .i64 n).wf = true) (w : World) :
    Calls Try.prog 10 #[.int .i64 a, .int .i64 n] w fun e w' => e = .returned (.bool true) ∧ Below w.heap.size w w' := by
  have n1 := (i64_bounds wn).2
  clear wa wn
  by_cases ha : isElt a = true
  · by_cases hn : 0 ≤ n
    · obtain ⟨h0, h1⟩ := elt_of ha
      clear ha
      go_enter Try.func10, Try.ntmps10
      go_wp2_with fail
      refine (GfS.GfPow_ok a n h0 h1 hn n1 _).mono ?_
      rintro e w1 ⟨rfl, rfl⟩
      go_wp2_with fail
      refine (GfI.GfPow_ok a n h0 h1 hn n1 _).mono ?_
      rintro e w2 ⟨rfl, hb⟩
      go_wp2
      go_ret
      exact ⟨rfl, hb⟩
    · have hn : n < 0 := by omega
      clear ha
      go_enter Try.func10, Try.ntmps10
      go_wp2_with fail
      refine (GfS.GfPow_bad a n (.inr hn) _).mono ?_
      rintro e w1 ⟨rfl, rfl⟩
      go_wp2_with fail
      refine (GfI.GfPow_bad a n (.inr hn) _).mono ?_
      rintro e w2 ⟨rfl, rfl⟩
      go_wp2
      go_ret
      exact ⟨rfl, Below.refl _ _⟩
  · have ha : isElt a = false := by simpa using ha
    go_enter Try.func10, Try.ntmps10
    go_wp2_with fail
    refine (GfS.GfPow_bad a n (.inl ha) _).mono ?_
    rintro e w1 ⟨rfl, rfl⟩
    go_wp2_with fail
    refine (GfI.GfPow_bad a n (.inl ha) _).mono ?_
    rintro e w2 ⟨rfl, rfl⟩
    go_wp2
    go_ret
    exact ⟨rfl, Below.refl _ _⟩
end Go.Proofs.Ytbbenadihfhfmab.LawsGf
