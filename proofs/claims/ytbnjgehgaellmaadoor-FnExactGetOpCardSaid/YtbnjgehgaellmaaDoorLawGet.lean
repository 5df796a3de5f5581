/-
  The exact law of GetVar: the program decodes just what the model decodes.
-/
import Derived.Test.YtbnjgehgaellmaaDoorGet
namespace Go.Proofs.YtbnjgehgaellmaaDoor.Gt
open Go.RowKit Go.Proofs.YtbnjgehgaellmaaDoor.Bf
set_option linter.unusedVariables false
theorem l01Get0 (s : ByteArray) (hs : s.size ≤ 1000000000) (w : World) :
    Calls Tryd.prog 23 #[.string s, .int .i64 0] w fun e w' => e = outOf .i64 0 (get s 0) ∧ w = w' := by
  have := l01Get s 0 hs (by omega) w
  simpa using this

theorem out0 (v : Int) (l : Nat) : Ending.returned (.tuple #[.int .i64 v, .int .i64 l, .bool true]) = outOf .i64 0 (some (v, l)) := by simp only [outOf, Int.zero_add]

set_option maxRecDepth 100000 in
theorem specGetVar (s : ByteArray) (hs : s.size ≤ 1000000000) (w : World) :
    Calls Tryd.prog 14 #[.string s] w fun e w' => e = outOf .i64 0 (get s 0) ∧ w = w' := by
  rcases hg : get s 0 with _ | ⟨v, l⟩
  · go_enter Tryd.func14, Tryd.ntmps14
    go_wp2_with fail
    refine (l01Get0 s hs _).mono ?_
    rintro e w1 ⟨he, rfl⟩
    rw [hg] at he
    clear hg
    obtain rfl := he
    simp only [outOf]
    go_wp2
    go_ret3
    exact ⟨rfl, rfl⟩
  · have hl : l ≤ 1000000000 := get_len hg
    go_enter Tryd.func14, Tryd.ntmps14
    go_wp2_with fail
    refine (l01Get0 s hs _).mono ?_
    rintro e w1 ⟨he, rfl⟩
    rw [hg] at he
    clear hg
    obtain rfl := he
    simp only [outOf, Int.zero_add]
    go_wp2
    go_ret3
    exact ⟨out0 v l, rfl⟩

end Go.Proofs.YtbnjgehgaellmaaDoor.Gt
