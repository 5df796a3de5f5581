/-
  The exact law of NewDisk: the program answers as the model, in memory of its own. No condition.
-/
import Derived.Test.YtpafhbnjefdhjaaGNewDisk
import Derived.Test.YtpafhbnjefdhjaaDkK
namespace Go.Proofs.Ytpafhbnjefdhjaa.Rd
open Go.RowKit Go.ChangeShapes Go.WideShapes Go.Proofs.Ytpafhbnjefdhjaa.GfI Go.Proofs.Ytpafhbnjefdhjaa.GfS
open Go.Proofs.Ytpafhbnjefdhjaa.Sg (BxN)
set_option linter.unusedVariables false
set_option linter.unusedSimpArgs false

theorem lawNewDisk (n : Int) (w : World) (hn : (Lit.int .i64 n).wf = true) :
    Calls Try.prog 4 #[.int .i64 n] w fun e w' => e = .returned (.bool true) ∧ Below w.heap.size w w' := by
  obtain ⟨r, c, hp⟩ := newP_ex n
  exact fnFnExactNewDisk n r c (newP_sz hp) w (fun w' => specNewDisk n r c hp w') (fun w' => implNewDisk n r c hp w')
end Go.Proofs.Ytpafhbnjefdhjaa.Rd
