/-
  The exact law of GetText: the program decodes just what the model decodes.
-/
import Derived.Test.YtbbenadihfhfmaaLawGet
namespace Go.Proofs.Ytbbenadihfhfmaa.Gt
open Go.RowKit Go.Proofs.Ytbbenadihfhfmaa.Bf
set_option linter.unusedVariables false
theorem scan_some (s : ByteArray) (p : Nat) : ∀ f i n v l, 0 ≤ n → scan s p f i n = some (v, l) → 0 ≤ v ∧ v ≤ 4611686018427387904 ∧ p + l ≤ s.size := by
  intro f
  induction f with
  | zero => intro i n v l _ h; simp [scan] at h
  | succ f ih =>
    intro i n v l hn h
    unfold scan at h
    have hb := byt_lt s (p + i)
    have m0 : 0 ≤ byt s (p + i) % 128 * 128 ^ i := Int.mul_nonneg (by omega) (Int.le_of_lt (pow_pos128 i))
    by_cases h1 : i < 9 ∧ p + i < s.size
    · rw [if_pos h1] at h
      by_cases h2 : 128 ≤ byt s (p + i)
      · rw [if_pos h2] at h; exact ih _ _ _ _ (by omega) h
      · rw [if_neg h2] at h
        by_cases h3 : (0 < i ∧ byt s (p + i) = 0) ∨ 4611686018427387904 < n + byt s (p + i) % 128 * 128 ^ i
        · rw [if_pos h3] at h; simp at h
        · rw [if_neg h3] at h
          simp only [Option.some.injEq, Prod.mk.injEq] at h
          obtain ⟨rfl, rfl⟩ := h
          refine ⟨by omega, ?_, by omega⟩
          rcases Int.lt_or_le 4611686018427387904 (n + byt s (p + i) % 128 * 128 ^ i) with h4 | h4
          · exact absurd (.inr h4) h3
          · exact h4
    · rw [if_neg h1] at h; simp at h
theorem get_some {s : ByteArray} {p l : Nat} {v : Int} (h : get s p = some (v, l)) : 0 ≤ v ∧ v ≤ 4611686018427387904 ∧ p + l ≤ s.size := scan_some s p _ _ _ _ _ (by omega) h

/-- What a decoder of texts returns. -/
def NoText (e : Ending) : Prop := e = .returned (.tuple #[.string ⟨#[]⟩, .int .i64 0, .bool false])
def TextAt (s : ByteArray) (l m : Nat) (e : Ending) : Prop := e = .returned (.tuple #[.string (s.extract l (l + m)), .int .i64 ((l : Int) + m), .bool true])

set_option maxRecDepth 100000 in
theorem implGetText_none (s : ByteArray) (hs : s.size ≤ 1000000000) (hg : get s 0 = none) (w : World) :
    Calls Try.prog 20 #[.string s] w fun e w' => NoText e ∧ w = w' := by
  have HG := Lib.hid hg
  clear hg
  go_enter Try.func20, Try.ntmps20
  go_wp2_with fail
  refine (implGetVar s hs _).mono ?_
  rintro e w1 ⟨he, rfl⟩
  rw [HG.out] at he
  obtain rfl := he
  simp only [outOf]
  go_wp2
  go_ret3
  exact ⟨rfl, rfl⟩
set_option maxRecDepth 100000 in
theorem implGetText_long (s : ByteArray) (hs : s.size ≤ 1000000000) (l m : Nat) (hg : get s 0 = some ((m : Int), l)) (hx : (s.size : Int) - l < m) (w : World) :
    Calls Try.prog 20 #[.string s] w fun e w' => NoText e ∧ w = w' := by
  have hl := get_some hg
  have HG := Lib.hid hg
  clear hg
  go_enter Try.func20, Try.ntmps20
  go_wp2_with fail
  refine (implGetVar s hs _).mono ?_
  rintro e w1 ⟨he, rfl⟩
  rw [HG.out] at he
  obtain rfl := he
  simp only [outOf, Int.zero_add]
  go_wp2
  go_ret3
  exact ⟨rfl, rfl⟩
set_option maxRecDepth 100000 in
theorem implGetText_good (s : ByteArray) (hs : s.size ≤ 1000000000) (l m : Nat) (hg : get s 0 = some ((m : Int), l)) (hx : (m : Int) ≤ (s.size : Int) - l) (w : World) :
    Calls Try.prog 20 #[.string s] w fun e w' => TextAt s l m e ∧ w = w' := by
  have hl := get_some hg
  have h1 : l + m ≤ s.size := by omega
  have HG := Lib.hid hg
  clear hg
  go_enter Try.func20, Try.ntmps20
  go_wp2_with fail
  refine (implGetVar s hs _).mono ?_
  rintro e w1 ⟨he, rfl⟩
  rw [HG.out] at he
  obtain rfl := he
  simp only [outOf, Int.zero_add]
  go_wp2
  go_ret3
  exact ⟨rfl, rfl⟩

set_option maxRecDepth 100000 in
theorem l01GetText_none (s : ByteArray) (hs : s.size ≤ 1000000000) (hg : get s 0 = none) (w : World) :
    Calls Try.prog 75 #[.string s, .int .i64 0] w fun e w' => NoText e ∧ w = w' := by
  have HG := Lib.hid hg
  clear hg
  go_enter Try.func75, Try.ntmps75
  go_wp2_with fail
  refine (l01Get0 s hs _).mono ?_
  rintro e w1 ⟨he, rfl⟩
  rw [HG.out] at he
  obtain rfl := he
  simp only [outOf]
  go_wp2
  go_ret3
  exact ⟨rfl, rfl⟩
set_option maxRecDepth 100000 in
theorem l01GetText_long (s : ByteArray) (hs : s.size ≤ 1000000000) (l m : Nat) (hg : get s 0 = some ((m : Int), l)) (hx : (s.size : Int) - l < m) (w : World) :
    Calls Try.prog 75 #[.string s, .int .i64 0] w fun e w' => NoText e ∧ w = w' := by
  have hl := get_some hg
  have HG := Lib.hid hg
  clear hg
  go_enter Try.func75, Try.ntmps75
  go_wp2_with fail
  refine (l01Get0 s hs _).mono ?_
  rintro e w1 ⟨he, rfl⟩
  rw [HG.out] at he
  obtain rfl := he
  simp only [outOf, Int.zero_add]
  go_wp2
  go_ret3
  exact ⟨rfl, rfl⟩
set_option maxRecDepth 100000 in
theorem l01GetText_good (s : ByteArray) (hs : s.size ≤ 1000000000) (l m : Nat) (hg : get s 0 = some ((m : Int), l)) (hx : (m : Int) ≤ (s.size : Int) - l) (w : World) :
    Calls Try.prog 75 #[.string s, .int .i64 0] w fun e w' => TextAt s l m e ∧ w = w' := by
  have hl := get_some hg
  have h1 : l + m ≤ s.size := by omega
  have HG := Lib.hid hg
  clear hg
  go_enter Try.func75, Try.ntmps75
  go_wp2_with fail
  refine (l01Get0 s hs _).mono ?_
  rintro e w1 ⟨he, rfl⟩
  rw [HG.out] at he
  obtain rfl := he
  simp only [outOf, Int.zero_add]
  go_wp2
  go_ret3
  exact ⟨rfl, rfl⟩

set_option maxRecDepth 100000 in
theorem specGetText_none (s : ByteArray) (hs : s.size ≤ 1000000000) (hg : get s 0 = none) (w : World) :
    Calls Try.prog 43 #[.string s] w fun e w' => NoText e ∧ w = w' := by
  have C := Lib.hid (fun w => l01GetText_none s hs hg w)
  clear hg
  go_enter Try.func43, Try.ntmps43
  go_wp2_with fail
  refine (C.out _).mono ?_
  rintro e w1 ⟨rfl, rfl⟩
  go_wp2
  go_ret3
  exact ⟨rfl, rfl⟩

set_option maxRecDepth 100000 in
theorem specGetText_long (s : ByteArray) (hs : s.size ≤ 1000000000) (l m : Nat) (hg : get s 0 = some ((m : Int), l)) (hx : (s.size : Int) - l < m) (w : World) :
    Calls Try.prog 43 #[.string s] w fun e w' => NoText e ∧ w = w' := by
  have hl := get_some hg
  have C := Lib.hid (fun w => l01GetText_long s hs l m hg hx w)
  clear hg
  go_enter Try.func43, Try.ntmps43
  go_wp2_with fail
  refine (C.out _).mono ?_
  rintro e w1 ⟨rfl, rfl⟩
  go_wp2
  go_ret3
  exact ⟨rfl, rfl⟩

set_option maxRecDepth 100000 in
theorem specGetText_good (s : ByteArray) (hs : s.size ≤ 1000000000) (l m : Nat) (hg : get s 0 = some ((m : Int), l)) (hx : (m : Int) ≤ (s.size : Int) - l) (w : World) :
    Calls Try.prog 43 #[.string s] w fun e w' => TextAt s l m e ∧ w = w' := by
  have hl := get_some hg
  have C := Lib.hid (fun w => l01GetText_good s hs l m hg hx w)
  clear hg
  go_enter Try.func43, Try.ntmps43
  go_wp2_with fail
  refine (C.out _).mono ?_
  rintro e w1 ⟨rfl, rfl⟩
  go_wp2
  go_ret3
  exact ⟨rfl, rfl⟩

set_option maxRecDepth 100000 in
theorem fnGetText (s : ByteArray) (hs : s.size ≤ maxLen) (w : World) :
    Calls Try.prog 12 #[.string s] w fun e w' => e = .returned (.bool true) ∧ Below w.heap.size w w' := by
  unfold maxLen at hs
  by_cases h : s.size ≤ 1048576
  · rcases hg : get s 0 with _ | ⟨v, l⟩
    · have C1 := Lib.hid (fun w => specGetText_none s (by omega) hg w)
      have C2 := Lib.hid (fun w => implGetText_none s (by omega) hg w)
      clear hg
      go_enter Try.func12, Try.ntmps12
      go_wp2_with fail
      refine (C1.out _).mono ?_
      rintro e w1 ⟨rfl, rfl⟩
      go_wp2_with fail
      refine (C2.out _).mono ?_
      rintro e w1 ⟨rfl, rfl⟩
      go_wp2
      go_ret
      exact ⟨rfl, Below.refl _ _⟩
    · have hl := get_some hg
      obtain ⟨m, rfl⟩ := Int.eq_ofNat_of_zero_le hl.1
      by_cases hx : (m : Int) ≤ (s.size : Int) - l
      · have C1 := Lib.hid (fun w => specGetText_good s (by omega) l m hg hx w)
        have C2 := Lib.hid (fun w => implGetText_good s (by omega) l m hg hx w)
        clear hg
        go_enter Try.func12, Try.ntmps12
        go_wp2_with fail
        refine (C1.out _).mono ?_
        rintro e w1 ⟨rfl, rfl⟩
        go_wp2_with fail
        refine (C2.out _).mono ?_
        rintro e w1 ⟨rfl, rfl⟩
        go_wp2
        go_ret
        exact ⟨rfl, Below.refl _ _⟩
      · have hx : (s.size : Int) - l < m := by omega
        have C1 := Lib.hid (fun w => specGetText_long s (by omega) l m hg hx w)
        have C2 := Lib.hid (fun w => implGetText_long s (by omega) l m hg hx w)
        clear hg
        go_enter Try.func12, Try.ntmps12
        go_wp2_with fail
        refine (C1.out _).mono ?_
        rintro e w1 ⟨rfl, rfl⟩
        go_wp2_with fail
        refine (C2.out _).mono ?_
        rintro e w1 ⟨rfl, rfl⟩
        go_wp2
        go_ret
        exact ⟨rfl, Below.refl _ _⟩
  · go_enter Try.func12, Try.ntmps12
    go_wp2
    go_ret
    exact ⟨rfl, Below.refl _ _⟩
end Go.Proofs.Ytbbenadihfhfmaa.Gt
