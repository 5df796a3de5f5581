/-
  The exact law of ChunkOk: the program answers as the model, whatever the argument. No condition.
-/
import Derived.Test.YtbckdfoapmjilaaDoorGChunkOk
import Derived.Test.YtbckdfoapmjilaaDoorEnt
namespace Go.Proofs.YtbckdfoapmjilaaDoor.Rd
open Go.RowKit
theorem lawChunkOk (cs : List Value) (d : DChunk) (w : World) (h : Rdb.rd false 0 w cs d) (hT : Nam.Tabs w) :
    Calls Tryd.prog 4 #[.agg cs.toArray] w fun e w' => e = .returned (.bool true) ∧ Below w.heap.size w w' := by
  have hz : d.name.size ≤ 9223372036854775807 := by
    obtain ⟨-, nz, -⟩ := shape_Chunk h
    exact nz
  exact fnFnExactChunkOk d (chunkB d) w h (fun _ w' _ => specChunkOk d w') (fun _ w' b => implChunkOk d w' hz (tabs_later hT b))
end Go.Proofs.YtbckdfoapmjilaaDoor.Rd
