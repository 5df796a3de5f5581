/-
  More weight for one item: what the choice then is.
-/
import Derived.Test.YtfdekhhlkieekaaDrawItems
namespace Go.Proofs.Ytfdekhhlkieekaa.Ch
open Go.RowKit Go.Proofs.Ytfdekhhlkieekaa.It Go.Proofs.Ytfdekhhlkieekaa.Rc Go.Proofs.Ytfdekhhlkieekaa.Tk
set_option linter.unusedVariables false

theorem bn_mono (x seed t : Int) {i : Nat} : ∀ {j : Nat}, i ≤ j → bn x seed t i ≤ bn x seed t j
  | 0, h => by
    obtain rfl : i = 0 := by omega
    exact Int.le_refl _
  | j + 1, h => by
    by_cases e : i = j + 1
    · rw [e]; exact Int.le_refl _
    · have ih := bn_mono x seed t (i := i) (j := j) (by omega)
      have e2 : bn x seed t (j + 1) = if bn x seed t j < tk x j seed t then tk x j seed t else bn x seed t j := rfl
      rw [e2]
      split <;> omega
/-- The weights with one raised. -/
def up (g : Nat → Int) (k : Nat) (y : Int) (i : Nat) : Int := if i = k then y else g i
theorem tsN_below {f g : Nat → Int} {seed t y : Int} {k : Nat} : ∀ i, i ≤ k → tsN f (up g k y) seed t i = tsN f g seed t i
  | 0, _ => rfl
  | i + 1, h => by
    have e : up g k y i = g i := by unfold up; rw [if_neg (by omega)]
    rw [tsN, tsN, tsN_below i (by omega), e]
/-- The two choices while further items are met: the same, or the raised item is ahead. -/
def Ahead (f : Nat → Int) (k : Nat) (s s' : Int × Int) : Prop := s' = s ∨ s'.1 = f k ∧ s.2 ≤ s'.2
theorem Ahead.step {f : Nat → Int} {k : Nat} {s s' p : Int × Int} (h : Ahead f k s s') : Ahead f k (pickT s p) (pickT s' p) := by
  rcases h with rfl | ⟨h1, h2⟩
  · exact .inl rfl
  · unfold pickT
    by_cases q : s'.2 < p.2
    · rw [if_pos q, if_pos (by omega)]; exact .inl rfl
    · rw [if_neg q]
      refine .inr ⟨h1, ?_⟩
      split <;> omega
theorem ahead_at {f g : Nat → Int} {seed t y : Int} {k : Nat} (g0 : 0 ≤ g k) (hy : g k < y) : Ahead f k (sel (tsN f g seed t (k + 1))) (sel (tsN f (up g k y) seed t (k + 1))) := by
  have e : up g k y k = y := by unfold up; rw [if_pos rfl]
  have m := bn_mono (f k) seed t (show (g k).toNat ≤ y.toNat by omega)
  have e0 : sel (if 0 < g k then tsN f g seed t k ++ [(f k, bn (f k) seed t (g k).toNat)] else tsN f g seed t k) = if 0 < g k then pickT (sel (tsN f g seed t k)) (f k, bn (f k) seed t (g k).toNat) else sel (tsN f g seed t k) := by
    split
    · rw [sel_snoc]
    · rfl
  rw [tsN, tsN, tsN_below k (Nat.le_refl _), e, if_pos (show 0 < y by omega), sel_snoc, e0]
  generalize sel (tsN f g seed t k) = s at *
  generalize bn (f k) seed t y.toNat = b' at *
  generalize bn (f k) seed t (g k).toNat = b at *
  unfold pickT
  simp only
  by_cases q : s.2 < b'
  · rw [if_pos q]
    refine .inr ⟨rfl, ?_⟩
    show _ ≤ b'
    by_cases h : 0 < g k
    · rw [if_pos h]
      by_cases r : s.2 < b
      · rw [if_pos r]; exact m
      · rw [if_neg r]; omega
    · rw [if_neg h]; omega
  · rw [if_neg q]
    refine .inl ?_
    by_cases h : 0 < g k
    · rw [if_pos h, if_neg (by omega)]
    · rw [if_neg h]
theorem ahead_all {f g : Nat → Int} {seed t y : Int} {k n : Nat} (hk : k < n) (g0 : 0 ≤ g k) (hy : g k < y) : Ahead f k (sel (tsN f g seed t n)) (sel (tsN f (up g k y) seed t n)) := by
  induction n with
  | zero => omega
  | succ n ih =>
    by_cases e : k = n
    · subst e; exact ahead_at g0 hy
    · have ih := ih (by omega)
      have e2 : up g k y n = g n := by unfold up; rw [if_neg (by omega)]
      rw [tsN, tsN, e2]
      split
      · rw [sel_snoc, sel_snoc]; exact ih.step
      · exact ih
/-- The weights' sum. -/
def sumN (g : Nat → Int) : Nat → Int
  | 0 => 0
  | k + 1 => sumN g k + g k
theorem sumN_bounds {g : Nat → Int} : ∀ k, (∀ i, i < k → 0 ≤ g i ∧ g i ≤ 128) → 0 ≤ sumN g k ∧ sumN g k ≤ 128 * k
  | 0, _ => by simp [sumN]
  | k + 1, h => by
    have ih := sumN_bounds k (fun i hi => h i (by omega))
    have := h k (by omega)
    unfold sumN; omega
theorem sumN_pos {f g : Nat → Int} {seed t : Int} : ∀ k, (∀ i, i < k → 0 ≤ g i ∧ g i ≤ 128) → (0 < sumN g k ↔ (tsN f g seed t k).length ≠ 0)
  | 0, _ => by simp [sumN, tsN]
  | k + 1, h => by
    have ih := sumN_pos (f := f) (seed := seed) (t := t) k (fun i hi => h i (by omega))
    have hb := sumN_bounds k (fun i hi => h i (by omega))
    have hk := h k (by omega)
    unfold sumN tsN
    by_cases q : 0 < g k
    · rw [if_pos q]; simp; omega
    · rw [if_neg q, ← ih]; omega
end Go.Proofs.Ytfdekhhlkieekaa.Ch
