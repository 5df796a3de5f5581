/-
  The exact law of PutHex: the program returns what the model returns.
-/
import Derived.Test.YtbbenadihfhfmabHex
namespace Go.Proofs.Ytbbenadihfhfmab.Hx
open Go.RowKit Go.Proofs.Ytbbenadihfhfmab.Bf
set_option linter.unusedVariables false
set_option maxRecDepth 100000 in
theorem specPutHex (s : ByteArray) (hs : s.size ≤ 2097152) (w : World) : Calls Try.prog 16 #[.string s] w (Text w (hexText s)) := by
  go_enter Try.func16, Try.ntmps16
  go_wp2_with fail
  refine (l01Hex s hs _).mono ?_
  rintro e w1 ⟨rfl, hb⟩
  go_wp2
  go_ret
  exact ⟨rfl, hb⟩
set_option maxRecDepth 100000 in
theorem fnPutHex (s : ByteArray) (hs : s.size ≤ maxLen) (w : World) :
    Calls Try.prog 4 #[.string s] w fun e w' => e = .returned (.bool true) ∧ Below w.heap.size w w' := by
  unfold maxLen at hs
  by_cases h1 : s.size ≤ 1048576
  · go_enter Try.func4, Try.ntmps4
    go_wp2_with fail
    refine (specPutHex s (by omega) _).mono ?_
    rintro e w1 ⟨rfl, b1⟩
    go_wp2_with fail
    refine (implPutHex s (by omega) _).mono ?_
    rintro e w2 ⟨rfl, b2⟩
    generalize hexText s = u
    go_wp2
    go_ret
    exact ⟨rfl, b1.trans (b2.mono b1.size)⟩
  · go_enter Try.func4, Try.ntmps4
    go_wp2
    go_ret
    exact ⟨rfl, Below.refl _ _⟩
end Go.Proofs.Ytbbenadihfhfmab.Hx
