/-
  The product of two matrices: what the program's function returns.
-/
import Derived.Test.YtbnjgehgaellmaaMul2
import Derived.Test.YtbnjgehgaellmaaMatOk
import Derived.Test.YtbnjgehgaellmaaUnit
namespace Go.Proofs.Ytbnjgehgaellmaa.Gf2
open Go.RowKit Go.Proofs.Ytbnjgehgaellmaa.At Go.Proofs.Ytbnjgehgaellmaa.MixC Go.Proofs.Ytbnjgehgaellmaa.Ml Go.Proofs.Ytbnjgehgaellmaa.Gr Go.Proofs.Ytbnjgehgaellmaa.Gj Go.Proofs.Ytbnjgehgaellmaa.GfI
open Go.Proofs.Ytbnjgehgaellmaa.Mo (okM implOk BoolB okM_out)
set_option linter.unusedVariables false

theorem ofL_els {h n : Nat} {xs : List Int} (hx : xs.length = h * n) (he : ∀ z ∈ xs, 0 ≤ z ∧ z ≤ 255) : Els h n (ofL n xs) := by
  intro i j hi hj
  have hlt : i * n + j < xs.length := by rw [hx]; exact flat_lt hi hj
  unfold ofL
  rw [List.getD_eq_getElem?_getD, List.getElem?_eq_getElem hlt]
  exact he _ (List.getElem_mem hlt)

theorem fin_res {w v2 u4 : World} {a : Option Addr} {q L cap : Nat} {zs : List Int} {h wd err : Int} (hL : L = zs.length) (O : OwnS v2 u4 a zs) (B : Below w.heap.size w u4) (hq : q < v2.heap.size) (hq0 : w.heap.size ≤ q) (hv : w.heap.size ≤ v2.heap.size) (x y z : Value) :
    MatErr h wd zs err w (.returned (.tuple #[mval h wd (.slice a L cap), .int .i64 err])) (((u4.setCell ⟨q, 0, none⟩ x).setCell ⟨q, 1, none⟩ y).setCell ⟨q, 2, none⟩ z) :=
  ⟨a, cap, by rw [hL], (((O.far (p := ⟨q, 0, none⟩) hq x).far (p := ⟨q, 1, none⟩) hq y).far (p := ⟨q, 2, none⟩) hq z).from hv, ((B.setCell hq0 _).setCell hq0 _).setCell hq0 _⟩

end Go.Proofs.Ytbnjgehgaellmaa.Gf2
