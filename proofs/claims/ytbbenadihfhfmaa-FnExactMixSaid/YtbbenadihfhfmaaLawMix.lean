/-
  The exact law of Mix: the program's hash is the model's, and the words are left as they were.
-/
import Derived.Test.YtbbenadihfhfmaaInts
namespace Go.Proofs.Ytbbenadihfhfmaa.MixC
open Go.RowKit Go.Proofs.Ytbbenadihfhfmaa.At
set_option linter.unusedVariables false
theorem chainB {w a b : World} (h : Below w.heap.size w a) (k : Below a.heap.size a b) : Below w.heap.size w b := h.trans (k.mono h.size)

set_option maxRecDepth 100000 in
theorem fnExactMix (a : Option Addr) (len cap : Nat) (z : List Int) (w : World) (w0 : IsRow .i64 w a len cap z) :
    Calls Try.prog 13 #[.slice a len cap] w fun e w' => e = .returned (.bool true) ∧ Below w.heap.size w w' := by
  obtain ⟨hw, hlen⟩ := IsRow.words w0
  generalize z.take len = zs at hw hlen
  subst hlen
  clear w0
  by_cases hl : zs.length ≤ 1048576
  · go_enter Try.func13, Try.ntmps13
    go_wp2_with fail
    refine (toInt64S a cap zs _ (by omega) hw).mono ?_
    rintro e w1 ⟨g1, rfl, C1⟩
    go_wp2_with fail
    refine (specMix g1 0 _ zs _ (by omega) C1.nums).mono ?_
    rintro e w1 ⟨rfl, rfl⟩
    have hw1 := hw.below C1.below
    go_wp2_with fail
    refine (toInt64S a cap zs _ (by omega) hw1).mono ?_
    rintro e w2 ⟨g2, rfl, C2⟩
    go_wp2_with fail
    refine (implMix g2 0 _ zs _ (by omega) C2.nums).mono ?_
    rintro e w2 ⟨rfl, rfl⟩
    have B2 := chainB C1.below C2.below
    have hw2 := hw.below B2
    go_wp2_with fail
    refine (toInt64S a cap zs _ (by omega) hw2).mono ?_
    rintro e w3 ⟨g3, rfl, C3⟩
    have B3 := chainB B2 C3.below
    have K2 := C2.words.below C3.below
    go_wp2_with fail
    refine (eqInt64S _ _ _ _ zs _ (by omega) K2 C3.words).mono ?_
    rintro e w4 ⟨rfl, q, rfl⟩
    go_wp2
    go_ret
    exact ⟨rfl, below_drewN B3 _⟩
  · go_enter Try.func13, Try.ntmps13
    go_wp2
    go_ret
    exact ⟨rfl, Below.refl _ _⟩
end Go.Proofs.Ytbbenadihfhfmaa.MixC
