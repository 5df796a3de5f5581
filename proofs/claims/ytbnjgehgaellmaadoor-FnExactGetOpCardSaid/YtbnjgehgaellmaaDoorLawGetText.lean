/-
  The exact law of GetText: the program decodes just what the model decodes.
-/
import Derived.Test.YtbnjgehgaellmaaDoorLawGet
namespace Go.Proofs.YtbnjgehgaellmaaDoor.Gt
open Go.RowKit Go.Proofs.YtbnjgehgaellmaaDoor.Bf
set_option linter.unusedVariables false
theorem scan_some (s : ByteArray) (p : Nat) : ∀ f i n v l, 0 ≤ n → scan s p f i n = some (v, l) → 0 ≤ v ∧ v ≤ 4611686018427387904 ∧ p + l ≤ s.size := by
  intro f
  induction f with
  | zero => intro i n v l _ h; simp [scan] at h
  | succ f ih =>
    intro i n v l hn h
    unfold scan at h
    have hb := byt_lt s (p + i)
    have m0 : 0 ≤ byt s (p + i) % 128 * 128 ^ i := Int.mul_nonneg (by omega) (Int.le_of_lt (pow_pos128 i))
    by_cases h1 : i < 9 ∧ p + i < s.size
    · rw [if_pos h1] at h
      by_cases h2 : 128 ≤ byt s (p + i)
      · rw [if_pos h2] at h; exact ih _ _ _ _ (by omega) h
      · rw [if_neg h2] at h
        by_cases h3 : (0 < i ∧ byt s (p + i) = 0) ∨ 4611686018427387904 < n + byt s (p + i) % 128 * 128 ^ i
        · rw [if_pos h3] at h; simp at h
        · rw [if_neg h3] at h
          simp only [Option.some.injEq, Prod.mk.injEq] at h
          obtain ⟨rfl, rfl⟩ := h
          refine ⟨by omega, ?_, by omega⟩
          rcases Int.lt_or_le 4611686018427387904 (n + byt s (p + i) % 128 * 128 ^ i) with h4 | h4
          · exact absurd (.inr h4) h3
          · exact h4
    · rw [if_neg h1] at h; simp at h
theorem get_some {s : ByteArray} {p l : Nat} {v : Int} (h : get s p = some (v, l)) : 0 ≤ v ∧ v ≤ 4611686018427387904 ∧ p + l ≤ s.size := scan_some s p _ _ _ _ _ (by omega) h

/-- What a decoder of texts returns. -/
def NoText (e : Ending) : Prop := e = .returned (.tuple #[.string ⟨#[]⟩, .int .i64 0, .bool false])
def TextAt (s : ByteArray) (l m : Nat) (e : Ending) : Prop := e = .returned (.tuple #[.string (s.extract l (l + m)), .int .i64 ((l : Int) + m), .bool true])

set_option maxRecDepth 100000 in
theorem implGetText_none (s : ByteArray) (hs : s.size ≤ 1000000000) (hg : get s 0 = none) (w : World) :
    Calls Tryd.prog 27 #[.string s] w fun e w' => NoText e ∧ w = w' := by
  have HG := Lib.hid hg
  clear hg
  go_enter Tryd.func27, Tryd.ntmps27
  go_wp2_with fail
  refine (implGetVar s hs _).mono ?_
  rintro e w1 ⟨he, rfl⟩
  rw [HG.out] at he
  obtain rfl := he
  simp only [outOf]
  go_wp2
  go_ret3
  exact ⟨rfl, rfl⟩
set_option maxRecDepth 100000 in
theorem implGetText_long (s : ByteArray) (hs : s.size ≤ 1000000000) (l m : Nat) (hg : get s 0 = some ((m : Int), l)) (hx : (s.size : Int) - l < m) (w : World) :
    Calls Tryd.prog 27 #[.string s] w fun e w' => NoText e ∧ w = w' := by
  have hl := get_some hg
  have HG := Lib.hid hg
  clear hg
  go_enter Tryd.func27, Tryd.ntmps27
  go_wp2_with fail
  refine (implGetVar s hs _).mono ?_
  rintro e w1 ⟨he, rfl⟩
  rw [HG.out] at he
  obtain rfl := he
  simp only [outOf, Int.zero_add]
  go_wp2
  go_ret3
  exact ⟨rfl, rfl⟩
set_option maxRecDepth 100000 in
theorem implGetText_good (s : ByteArray) (hs : s.size ≤ 1000000000) (l m : Nat) (hg : get s 0 = some ((m : Int), l)) (hx : (m : Int) ≤ (s.size : Int) - l) (w : World) :
    Calls Tryd.prog 27 #[.string s] w fun e w' => TextAt s l m e ∧ w = w' := by
  have hl := get_some hg
  have h1 : l + m ≤ s.size := by omega
  have HG := Lib.hid hg
  clear hg
  go_enter Tryd.func27, Tryd.ntmps27
  go_wp2_with fail
  refine (implGetVar s hs _).mono ?_
  rintro e w1 ⟨he, rfl⟩
  rw [HG.out] at he
  obtain rfl := he
  simp only [outOf, Int.zero_add]
  go_wp2
  go_ret3
  exact ⟨rfl, rfl⟩

set_option maxRecDepth 100000 in
theorem l01GetText_none (s : ByteArray) (hs : s.size ≤ 1000000000) (hg : get s 0 = none) (w : World) :
    Calls Tryd.prog 24 #[.string s, .int .i64 0] w fun e w' => NoText e ∧ w = w' := by
  have HG := Lib.hid hg
  clear hg
  go_enter Tryd.func24, Tryd.ntmps24
  go_wp2_with fail
  refine (l01Get0 s hs _).mono ?_
  rintro e w1 ⟨he, rfl⟩
  rw [HG.out] at he
  obtain rfl := he
  simp only [outOf]
  go_wp2
  go_ret3
  exact ⟨rfl, rfl⟩
set_option maxRecDepth 100000 in
theorem l01GetText_long (s : ByteArray) (hs : s.size ≤ 1000000000) (l m : Nat) (hg : get s 0 = some ((m : Int), l)) (hx : (s.size : Int) - l < m) (w : World) :
    Calls Tryd.prog 24 #[.string s, .int .i64 0] w fun e w' => NoText e ∧ w = w' := by
  have hl := get_some hg
  have HG := Lib.hid hg
  clear hg
  go_enter Tryd.func24, Tryd.ntmps24
  go_wp2_with fail
  refine (l01Get0 s hs _).mono ?_
  rintro e w1 ⟨he, rfl⟩
  rw [HG.out] at he
  obtain rfl := he
  simp only [outOf, Int.zero_add]
  go_wp2
  go_ret3
  exact ⟨rfl, rfl⟩
set_option maxRecDepth 100000 in
theorem l01GetText_good (s : ByteArray) (hs : s.size ≤ 1000000000) (l m : Nat) (hg : get s 0 = some ((m : Int), l)) (hx : (m : Int) ≤ (s.size : Int) - l) (w : World) :
    Calls Tryd.prog 24 #[.string s, .int .i64 0] w fun e w' => TextAt s l m e ∧ w = w' := by
  have hl := get_some hg
  have h1 : l + m ≤ s.size := by omega
  have HG := Lib.hid hg
  clear hg
  go_enter Tryd.func24, Tryd.ntmps24
  go_wp2_with fail
  refine (l01Get0 s hs _).mono ?_
  rintro e w1 ⟨he, rfl⟩
  rw [HG.out] at he
  obtain rfl := he
  simp only [outOf, Int.zero_add]
  go_wp2
  go_ret3
  exact ⟨rfl, rfl⟩

set_option maxRecDepth 100000 in
theorem specGetText_none (s : ByteArray) (hs : s.size ≤ 1000000000) (hg : get s 0 = none) (w : World) :
    Calls Tryd.prog 15 #[.string s] w fun e w' => NoText e ∧ w = w' := by
  have C := Lib.hid (fun w => l01GetText_none s hs hg w)
  clear hg
  go_enter Tryd.func15, Tryd.ntmps15
  go_wp2_with fail
  refine (C.out _).mono ?_
  rintro e w1 ⟨rfl, rfl⟩
  go_wp2
  go_ret3
  exact ⟨rfl, rfl⟩

set_option maxRecDepth 100000 in
theorem specGetText_long (s : ByteArray) (hs : s.size ≤ 1000000000) (l m : Nat) (hg : get s 0 = some ((m : Int), l)) (hx : (s.size : Int) - l < m) (w : World) :
    Calls Tryd.prog 15 #[.string s] w fun e w' => NoText e ∧ w = w' := by
  have hl := get_some hg
  have C := Lib.hid (fun w => l01GetText_long s hs l m hg hx w)
  clear hg
  go_enter Tryd.func15, Tryd.ntmps15
  go_wp2_with fail
  refine (C.out _).mono ?_
  rintro e w1 ⟨rfl, rfl⟩
  go_wp2
  go_ret3
  exact ⟨rfl, rfl⟩

set_option maxRecDepth 100000 in
theorem specGetText_good (s : ByteArray) (hs : s.size ≤ 1000000000) (l m : Nat) (hg : get s 0 = some ((m : Int), l)) (hx : (m : Int) ≤ (s.size : Int) - l) (w : World) :
    Calls Tryd.prog 15 #[.string s] w fun e w' => TextAt s l m e ∧ w = w' := by
  have hl := get_some hg
  have C := Lib.hid (fun w => l01GetText_good s hs l m hg hx w)
  clear hg
  go_enter Tryd.func15, Tryd.ntmps15
  go_wp2_with fail
  refine (C.out _).mono ?_
  rintro e w1 ⟨rfl, rfl⟩
  go_wp2
  go_ret3
  exact ⟨rfl, rfl⟩

end Go.Proofs.YtbnjgehgaellmaaDoor.Gt
