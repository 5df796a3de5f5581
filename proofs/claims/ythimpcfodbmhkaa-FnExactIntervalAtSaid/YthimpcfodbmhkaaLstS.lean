/-
  The library's sort of a list of nodes of the call's own.
-/
import Derived.Test.YthimpcfodbmhkaaLst
import Derived.Test.YthimpcfodbmhkaaSortA
import Derived.Sort.OwnSortedInts
namespace Go.Proofs.Ythimpcfodbmhkaa.Ac
open Go.RowKit Go.Proofs.Ythimpcfodbmhkaa.MixC
open Go.Proofs.Ythimpcfodbmhkaa.Gf2 (Ib)
set_option linter.unusedVariables false

/-- The library's sort of a list of the call's own. -/
theorem sortI (B : Nat) (a : Option Addr) (c : Nat) (zs : List Int) (w : World) (h : Ib B w (.slice a zs.length c) zs) (hl : zs.length ≤ 1000000) :
    Calls Try.prog 96 #[.slice a zs.length c] w fun e w' => e = .returned (.tuple #[]) ∧ Ib B w' (.slice a zs.length c) (srt zs) ∧ ∃ r, w.grownBy w' r ∧ ∀ g, r = some g → B ≤ g := by
  by_cases h0 : zs = []
  · subst h0
    refine (AnyM.slices_Sort_int_none SrA.sort5 a c w).mono ?_
    rintro e w' ⟨rfl, rfl⟩
    exact ⟨rfl, by rw [show srt [] = [] from by unfold srt; simp]; exact h, none, ⟨rfl, rfl, rfl, Nat.le_refl _, fun _ _ _ => rfl⟩, fun g hg => by cases hg⟩
  · rcases h.2 with ⟨e, h1⟩ | ⟨g, cap, cur, e, hg, hb, h1, h2, h3, h4⟩
    · exact absurd (List.eq_nil_of_length_eq_zero h1) h0
    · obtain ⟨rfl, -, rfl⟩ : a = some ⟨g, 0, none⟩ ∧ zs.length = zs.length ∧ c = cap := by simpa using e
      have hH := holds_of_blockI (ss := zs) hb (by rw [Nat.mul_one] at h4; exact h4)
      refine (AnyM.slices_Sort_int SrA.sort5 g 0 c zs w hH (Array.getElem?_eq_some_iff.1 hb).1 (by omega)).mono ?_
      rintro e w' ⟨rfl, n, os, rfl⟩
      refine ⟨rfl, ?_, some g, grownBy_sortedI _, fun g' e => by cases e; exact hg⟩
      have := ownsRow_sortedI (w := w) (base := B) (n := n) (os := os) (ss := zs) (ts := srt zs) (srt_len zs) hg hb h1 h2 h3
      unfold Ib
      rw [srt_len]
      exact this
end Go.Proofs.Ythimpcfodbmhkaa.Ac
