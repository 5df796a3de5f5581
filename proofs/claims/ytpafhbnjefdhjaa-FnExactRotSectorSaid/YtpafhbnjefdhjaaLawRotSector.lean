/-
  The exact law of RotSector: the program answers as the model, in memory of its own, and its arguments are left as they were. No condition.
-/
import Derived.Test.YtpafhbnjefdhjaaGRotSector
import Derived.Test.YtpafhbnjefdhjaaDkQ
namespace Go.Proofs.Ytpafhbnjefdhjaa.Rd
open Go.RowKit Go.ChangeShapes Go.WideShapes Go.Proofs.Ytpafhbnjefdhjaa.GfI Go.Proofs.Ytpafhbnjefdhjaa.GfS
open Go.Proofs.Ytpafhbnjefdhjaa.Sg (BxN)
set_option linter.unusedVariables false
set_option linter.unusedSimpArgs false

theorem lawRotSector (cs : List Value) (d : DDisk) (i p y : Int) (w : World) (h : Rdb.rd false 0 w cs d) (hi : (Lit.int .i64 i).wf = true) (hp : (Lit.int .i64 p).wf = true) (hy : (Lit.int .i64 y).wf = true) :
    Calls Try.prog 10 #[.agg cs.toArray, .int .i64 i, .int .i64 p, .int .i64 y] w fun e w' => e = .returned (.bool true) ∧ Below w.heap.size w w' := by
  obtain ⟨r, c, hp⟩ := rotP_ex d i p y
  exact fnFnExactRotSector d i p y r c (rotP_sz hp) w h (fun z es w' k => specRotSector d i p y r c hp w' (by omega) k) (fun z es w' k => implRotSector d i p y r c hp w' (by omega) k)
end Go.Proofs.Ytpafhbnjefdhjaa.Rd
