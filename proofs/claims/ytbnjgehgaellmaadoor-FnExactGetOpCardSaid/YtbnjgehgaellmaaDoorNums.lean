/-
  Numbers that lie in memory one behind the other.
-/
import Derived.Test.YtbnjgehgaellmaaDoorRow
namespace Go.Proofs.YtbnjgehgaellmaaDoor.MixC
open Go.RowKit

/-- The numbers zs lie in block b from offset off on. -/
def Nums (w : World) (b off : Nat) (zs : List Int) : Prop := ∀ i, i < zs.length → w.cell? ⟨b, off + i, none⟩ = some (.int .i64 (zs.getD i 0))
end Go.Proofs.YtbnjgehgaellmaaDoor.MixC
