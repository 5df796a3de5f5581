/-
  A disk copied, in the model.
-/
import Derived.Test.YtdieekgihdikdaaOwnG
import Derived.Test.YtdieekgihdikdaaDkG
import Derived.Deep.RegionHeld3
namespace Go.Proofs.Ytdieekgihdikdaa.Rd
open Go.RowKit Go.ChangeShapes Go.WideShapes Go.Proofs.Ytdieekgihdikdaa.GfI Go.Proofs.Ytdieekgihdikdaa.GfS
open Go.Proofs.Ytdieekgihdikdaa.Sg (BxN)
set_option linter.unusedVariables false
set_option linter.unusedSimpArgs false

end Go.Proofs.Ytdieekgihdikdaa.Rd
