/-
  The exact law of EntryOk: the program answers as the model, whatever the argument. No condition.
-/
import Derived.Test.YtbckdfoapmjilaaDoorGEntryOk
import Derived.Test.YtbckdfoapmjilaaDoorEnt
namespace Go.Proofs.YtbckdfoapmjilaaDoor.Rd
open Go.RowKit
theorem lawEntryOk (cs : List Value) (d : DEntry) (w : World) (h : Rdb.rd false 0 w cs d) (hT : Nam.Tabs w) :
    Calls Tryd.prog 3 #[.agg cs.toArray] w fun e w' => e = .returned (.bool true) ∧ Below w.heap.size w w' := by
  have hz : d.name.size ≤ 9223372036854775807 := by
    obtain ⟨-, -, -, -, -, nz, -⟩ := shape_Entry h
    exact nz
  exact fnFnExactEntryOk d (entryB d) w h (fun _ w' _ => specEntryOk d w') (fun _ w' b => implEntryOk d w' hz (tabs_later hT b))
end Go.Proofs.YtbckdfoapmjilaaDoor.Rd
