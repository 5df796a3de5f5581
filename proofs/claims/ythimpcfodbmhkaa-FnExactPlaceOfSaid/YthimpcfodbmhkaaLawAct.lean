/-
  The exact laws of ActingOk, TakenOf, LeaderOf and PlaceOf: the program answers as the model, and the list is left as it was. No condition.
-/
import Derived.Test.YthimpcfodbmhkaaGActingOk
import Derived.Test.YthimpcfodbmhkaaGTakenOf
import Derived.Test.YthimpcfodbmhkaaGLeaderOf
import Derived.Test.YthimpcfodbmhkaaGPlaceOf
namespace Go.Proofs.Ythimpcfodbmhkaa.Rd
open Go.RowKit Go.ChangeShapes Go.WideShapes
set_option linter.unusedVariables false

theorem lawActingOk (a0 : Option Addr) (c0 : Nat) (d0 : List Int) (w : World) (h0 : d0.length ≤ 9223372036854775807 ∧ Rows false 0 w a0 d0) :
    Calls Try.prog 3 #[.slice a0 d0.length c0] w fun e w' => e = .returned (.bool true) ∧ Below w.heap.size w w' :=
  fnFnExactActingOk a0 c0 d0 (decide (Ac.ActP d0)) w h0 (fun z e0 w' k0 => Ac.specActingOk e0 _ d0 w' (by omega) (Nat.le_refl _) k0) (fun z e0 w' k0 => Ac.implActingOk e0 _ d0 w' (by omega) (Nat.le_refl _) k0)
theorem lawTakenOf (a0 : Option Addr) (c0 : Nat) (d0 : List Int) (w : World) (h0 : d0.length ≤ 9223372036854775807 ∧ Rows false 0 w a0 d0) :
    Calls Try.prog 4 #[.slice a0 d0.length c0] w fun e w' => e = .returned (.bool true) ∧ Below w.heap.size w w' :=
  fnFnExactTakenOf a0 c0 d0 (Ac.takV d0) w h0 (fun z e0 w' k0 => Ac.specTakenOf e0 _ d0 w' (by omega) (Nat.le_refl _) k0) (fun z e0 w' k0 => Ac.implTakenOf e0 _ d0 w' (by omega) (Nat.le_refl _) k0)
theorem lawLeaderOf (a0 : Option Addr) (c0 : Nat) (d0 : List Int) (w : World) (h0 : d0.length ≤ 9223372036854775807 ∧ Rows false 0 w a0 d0) :
    Calls Try.prog 5 #[.slice a0 d0.length c0] w fun e w' => e = .returned (.bool true) ∧ Below w.heap.size w w' :=
  fnFnExactLeaderOf a0 c0 d0 (Ac.ledV d0) w h0 (fun z e0 w' k0 => Ac.specLeaderOf e0 _ d0 w' (by omega) (Nat.le_refl _) k0) (fun z e0 w' k0 => Ac.implLeaderOf e0 _ d0 w' (by omega) (Nat.le_refl _) k0)
theorem lawPlaceOf (a0 : Option Addr) (c0 : Nat) (d0 : List Int) (x1 : Int) (w : World) (h0 : d0.length ≤ 9223372036854775807 ∧ Rows false 0 w a0 d0) (_ : (Lit.int .i64 x1).wf = true) :
    Calls Try.prog 6 #[.slice a0 d0.length c0, .int .i64 x1] w fun e w' => e = .returned (.bool true) ∧ Below w.heap.size w w' :=
  fnFnExactPlaceOf a0 c0 d0 x1 (Ac.plcV d0 x1) w h0 (fun z e0 w' k0 => Ac.specPlaceOf e0 _ d0 x1 w' (by omega) (Nat.le_refl _) k0) (fun z e0 w' k0 => Ac.implPlaceOf e0 _ d0 x1 w' (by omega) (Nat.le_refl _) k0)
end Go.Proofs.Ythimpcfodbmhkaa.Rd
