/-
  The exact law of PowerLoss: the program answers as the model, in memory of its own, and its arguments are left as they were. No condition.
-/
import Derived.Test.YtdieekgihdikdaaGPowerLoss
import Derived.Test.YtdieekgihdikdaaPlS
import Derived.Test.YtdieekgihdikdaaPlI
namespace Go.Proofs.Ytdieekgihdikdaa.Rd
open Go.RowKit Go.ChangeShapes Go.WideShapes Go.Proofs.Ytdieekgihdikdaa.GfI Go.Proofs.Ytdieekgihdikdaa.GfS
open Go.Proofs.Ytdieekgihdikdaa.Sg (BxN)
set_option linter.unusedVariables false
set_option linter.unusedSimpArgs false

theorem lawPowerLoss (cs : List Value) (d : DDisk) (az : Option Addr) (cap : Nat) (z : List Int) (t : Int) (w : World) (h : Rdb.rd false 0 w cs d) (hz : z.length ≤ 9223372036854775807 ∧ Rows false 0 w az z) (ht : (Lit.int .i64 t).wf = true) :
    Calls Try.prog 4 #[.agg cs.toArray, .slice az z.length cap, .int .i64 t] w fun e w' => e = .returned (.bool true) ∧ Below w.heap.size w w' := by
  obtain ⟨r, c, hp⟩ := lossP_ex d z t
  exact fnFnExactPowerLoss d az cap z t r c (lossP_sz hp) w h hz (fun z0 z1 es e1 w' k0 k1 => specPowerLoss d z t r c hp w' (by omega) k0 e1 _ (by omega) k1) (fun z0 z1 es e1 w' k0 k1 => implPowerLoss d z t r c hp w' (by omega) k0 e1 _ (by omega) k1)
end Go.Proofs.Ytdieekgihdikdaa.Rd
