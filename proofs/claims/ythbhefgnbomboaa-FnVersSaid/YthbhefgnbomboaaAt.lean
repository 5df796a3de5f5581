/-
  The number that the laws draw from a slice of bytes at a place.
-/
import Derived.Test.YthbhefgnbomboaaRow
namespace Go.Proofs.Ythbhefgnbomboaa.At
open Go.RowKit

end Go.Proofs.Ythbhefgnbomboaa.At
