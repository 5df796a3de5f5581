/-
  The library's sort of 64-bit numbers in this program: the bodies are those that the library's contract was proved of.
-/
import Derived.Shelf.SlGeneric
import Derived.Shelf.SortM.Plain
import Derived.Shelf.SortM.SortNone
import Derived.Ground.SlgmProg
import Derived.Test.YtigaoimnhebegaaProg
namespace Go.Proofs.Ytigaoimnhebegaa.Srt
open Go.Shelf Go.Proofs
end Go.Proofs.Ytigaoimnhebegaa.Srt
