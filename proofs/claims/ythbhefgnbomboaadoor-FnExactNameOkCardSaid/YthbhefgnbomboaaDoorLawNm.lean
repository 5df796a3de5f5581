/-
  The exact law of NameOk: the program (which trims a name's runes off both ends) answers as the model (which looks at every byte). No condition.
-/
import Derived.Test.YthbhefgnbomboaaDoorNmI
namespace Go.Proofs.YthbhefgnbomboaaDoor.Nam
open Go.RowKit
set_option linter.unusedVariables false
theorem lawNameOk (s : ByteArray) (w : World) (hs : s.size ≤ maxLen) (hT : Tabs w) :
    Calls Tryd.prog 5 #[.string s] w fun e w' => e = .returned (.bool true) ∧ Below w.heap.size w w' := by
  unfold maxLen at hs
  have HS := Lib.hid (specNameOk s)
  have HI := Lib.hid (implNameOk s (by omega) w hT)
  generalize nameB s = v at *
  by_cases h : 1048576 < s.size
  · go_enter Tryd.func5, Tryd.ntmps5
    go_wp2
    go_ret
    exact ⟨rfl, Below.refl _ _⟩
  · go_enter Tryd.func5, Tryd.ntmps5
    go_wp2_with (first | (go_at_call 14; refine (HS.out _).mono ?_; rintro e w' ⟨rfl, rfl⟩) | (go_at_call 15; refine HI.out.mono ?_; rintro e w2 ⟨rfl, b2⟩; have B2 := Lib.hid b2; clear b2))
    go_ret
    exact ⟨rfl, B2.out⟩
end Go.Proofs.YthbhefgnbomboaaDoor.Nam
