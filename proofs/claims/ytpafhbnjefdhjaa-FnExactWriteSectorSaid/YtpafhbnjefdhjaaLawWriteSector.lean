/-
  The exact law of WriteSector: the program answers as the model, in memory of its own, and its arguments are left as they were. No condition.
-/
import Derived.Test.YtpafhbnjefdhjaaGWriteSector
import Derived.Test.YtpafhbnjefdhjaaDkT
namespace Go.Proofs.Ytpafhbnjefdhjaa.Rd
open Go.RowKit
set_option linter.unusedVariables false
theorem lawWriteSector (cs : List Value) (d : DDisk) (x : Int) (s : ByteArray) (w : World) (h : Rdb.rd false 0 w cs d) (hx : (Lit.int .i64 x).wf = true) (hs : s.size ≤ maxLen) :
    Calls Try.prog 6 #[.agg cs.toArray, .int .i64 x, .string s] w fun e w' => e = .returned (.bool true) ∧ Below w.heap.size w w' := by
  obtain ⟨r, c, hp⟩ := waP_ex d x [s]
  have hz : s.size ≤ 9223372036854775807 := by unfold maxLen at hs; omega
  exact fnFnExactWriteSector d x s r c (waP_sz hp) w h (fun z es w' k => specWriteSector d x hx s hz r c hp w' (by omega) k) (fun z es w' k => implWriteSector d x s hz r c hp w' (by omega) k)
end Go.Proofs.Ytpafhbnjefdhjaa.Rd
