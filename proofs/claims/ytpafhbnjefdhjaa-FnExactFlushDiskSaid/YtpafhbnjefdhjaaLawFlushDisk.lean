/-
  The exact law of FlushDisk: the program answers as the model, in memory of its own, and the disk is left as it was. No condition.
-/
import Derived.Test.YtpafhbnjefdhjaaGFlushDisk
import Derived.Test.YtpafhbnjefdhjaaDkG
import Derived.Test.YtpafhbnjefdhjaaDkZ
namespace Go.Proofs.Ytpafhbnjefdhjaa.Rd
open Go.RowKit
theorem lawFlushDisk (cs : List Value) (d : DDisk) (w : World) (h : Rdb.rd false 0 w cs d) :
    Calls Try.prog 8 #[.agg cs.toArray] w fun e w' => e = .returned (.bool true) ∧ Below w.heap.size w w' := by
  obtain ⟨b, hb⟩ := exW (DOk d)
  refine fnFnExactFlushDisk d (if b then flushD d else zeroD) ?_ w h (fun z es w' k => specFlushDisk d b hb w' (by omega) k) (fun z es w' k => implFlushDisk d b hb w' (by omega) k)
  cases b
  · exact (by show (0 : Nat) ≤ _; omega)
  · exact sz_flushD (hb.1 rfl)
end Go.Proofs.Ytpafhbnjefdhjaa.Rd
