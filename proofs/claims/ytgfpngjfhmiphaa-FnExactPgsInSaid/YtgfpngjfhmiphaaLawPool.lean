/-
  The exact law of PoolOk.
-/
import Derived.Test.YtgfpngjfhmiphaaPool
import Derived.Test.YtgfpngjfhmiphaaOpenP
namespace Go.Proofs.Ytgfpngjfhmiphaa.Po
open Go.RowKit Go.Proofs.Ytgfpngjfhmiphaa.GfI Go.Proofs.Ytgfpngjfhmiphaa.GfS Go.Proofs.Ytgfpngjfhmiphaa.Cd
open Go.Proofs.Ytgfpngjfhmiphaa.Sg (BxN)
set_option linter.unusedVariables false


end Go.Proofs.Ytgfpngjfhmiphaa.Po
