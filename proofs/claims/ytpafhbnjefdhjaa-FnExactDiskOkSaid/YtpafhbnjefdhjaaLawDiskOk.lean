/-
  The exact law of DiskOk: the program answers as the model, and the disk is left as it was. No condition.
-/
import Derived.Test.YtpafhbnjefdhjaaGDiskOk
import Derived.Test.YtpafhbnjefdhjaaDkI
import Derived.Test.YtpafhbnjefdhjaaDkS
namespace Go.Proofs.Ytpafhbnjefdhjaa.Rd
open Go.RowKit
theorem exW (P : Prop) : ∃ b : Bool, b = true ↔ P := by
  classical
  exact ⟨decide P, by simp⟩
theorem lawDiskOk (cs : List Value) (d : DDisk) (w : World) (h : Rdb.rd false 0 w cs d) :
    Calls Try.prog 3 #[.agg cs.toArray] w fun e w' => e = .returned (.bool true) ∧ Below w.heap.size w w' := by
  obtain ⟨b, hb⟩ := exW (DOk d)
  exact fnFnExactDiskOk d b w h (fun z es w' k => (specDiskOk d w' (by omega) k).mono fun _ _ q => iff_ret hb q) (fun z es w' k => (implDiskOk d w' (by omega) k).mono fun _ _ q => iff_ret hb q)
end Go.Proofs.Ytpafhbnjefdhjaa.Rd
