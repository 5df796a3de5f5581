/-
  The exact law of StoreOk: the program answers as the model, and the store is left as it was. No condition.
-/
import Derived.Test.YtbckdfoapmjilaaGreatDoorGStoreOk
import Derived.Test.YtbckdfoapmjilaaGreatDoorSkS
namespace Go.Proofs.YtbckdfoapmjilaaGreatDoor.Rd
open Go.RowKit
theorem lawStoreOk (cs : List Value) (d : DStore) (w : World) (h : Rdb.rd false 0 w cs d) (hT : Nam.Tabs w) :
    Calls Tryz.prog 6 #[.agg cs.toArray] w fun e w' => e = .returned (.bool true) ∧ Below w.heap.size w w' := by
  obtain ⟨p, hp⟩ : ∃ p : DPgState → Bool, ∀ d, p d = true ↔ StP d := ⟨fun d => (bool_of (StP d)).choose, fun d => (bool_of (StP d)).choose_spec⟩
  obtain ⟨b, hb⟩ := bool_of (StoP p d)
  exact fnFnExactStoreOk d b w h (fun z es w' _ k => (specStoreOk p hp d w' (by omega) k).mono fun _ _ q => iff_ret hb q) (fun z es w' bw k => (implStoreOk p hp d w' (by omega) k (tabs_later hT bw)).mono fun _ _ q => iff_ret hb q)
end Go.Proofs.YtbckdfoapmjilaaGreatDoor.Rd
