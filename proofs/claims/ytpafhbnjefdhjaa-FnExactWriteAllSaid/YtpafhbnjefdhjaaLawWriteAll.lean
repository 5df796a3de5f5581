/-
  The exact law of WriteAll: the program answers as the model, in memory of its own, and its arguments are left as they were. No condition.
-/
import Derived.Test.YtpafhbnjefdhjaaGWriteAll
import Derived.Test.YtpafhbnjefdhjaaDkV
namespace Go.Proofs.Ytpafhbnjefdhjaa.Rd
open Go.RowKit
set_option linter.unusedVariables false
theorem lawWriteAll (cs : List Value) (d : DDisk) (x : Int) (a : Option Addr) (cap : Nat) (l : List ByteArray) (w : World) (h : Rdb.rd false 0 w cs d) (hx : (Lit.int .i64 x).wf = true) (hl : l.length ≤ 9223372036854775807 ∧ Rows false 0 w a l) :
    Calls Try.prog 7 #[.agg cs.toArray, .int .i64 x, .slice a l.length cap] w fun e w' => e = .returned (.bool true) ∧ Below w.heap.size w w' := by
  obtain ⟨r, c, hp⟩ := waP_ex d x l
  exact fnFnExactWriteAll d x a cap l r c (waP_sz hp) w h hl (fun z z2 es e2 w' k k2 => specWriteAll d x l _ _ r c hp w' (by omega) k (by have := sz_len l; omega) k2) (fun z z2 es e2 w' k k2 => implWriteAll d x l _ _ r c hp w' (by omega) k (by have := sz_len l; omega) k2)
end Go.Proofs.Ytpafhbnjefdhjaa.Rd
