/-
  The exact law of AheadOf: the program answers as the model, leaves its argument as it was, and its answer lies in memory of its own. No condition.
-/
import Derived.Test.YthimpcfodbmhkaaGAheadOf
import Derived.Test.YthimpcfodbmhkaaPickS
namespace Go.Proofs.Ythimpcfodbmhkaa.Rd
open Go.RowKit Go.ChangeShapes Go.WideShapes
set_option linter.unusedVariables false

theorem lawAheadOf (a0 : Option Addr) (c0 : Nat) (d0 : List DInterval) (x1 : Int) (w : World) (h0 : d0.length ≤ 9223372036854775807 ∧ Rows false 0 w a0 d0) (_ : (Lit.int .i64 x1).wf = true) :
    Calls Try.prog 10 #[.slice a0 d0.length c0, .int .i64 x1] w fun e w' => e = .returned (.bool true) ∧ Below w.heap.size w w' := by
  obtain ⟨r, hr⟩ := Ac.pick_ex (Ac.ahB x1) d0
  have e := sz_len d0
  by_cases h : Rdb.sz d0 ≤ 2097152
  · exact fnFnExactAheadOf a0 c0 d0 x1 r (Nat.le_trans (Ac.pick_sz hr) h) w h0 (fun z e0 w' k0 => Ac.specAheadOf e0 _ d0 r x1 w' (by omega) (by omega) k0 hr) (fun z e0 w' k0 => Ac.implAheadOf e0 _ d0 r x1 w' (by omega) (by omega) k0 hr)
  · exact fnFnExactAheadOf a0 c0 d0 x1 [] (Nat.zero_le _) w h0 (fun z e0 w' k0 => absurd z (by omega)) (fun z e0 w' k0 => absurd z (by omega))
end Go.Proofs.Ythimpcfodbmhkaa.Rd
