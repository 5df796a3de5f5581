/-
  The product of two matrices: what the model's function returns.
-/
import Derived.Test.YtbnjgehgaellmaaLawCode2
import Derived.Test.YtbnjgehgaellmaaMul
namespace Go.Proofs.Ytbnjgehgaellmaa.Gf2
open Go.RowKit Go.Proofs.Ytbnjgehgaellmaa.At Go.Proofs.Ytbnjgehgaellmaa.MixC Go.Proofs.Ytbnjgehgaellmaa.Ml Go.Proofs.Ytbnjgehgaellmaa.Gr Go.Proofs.Ytbnjgehgaellmaa.Gj Go.Proofs.Ytbnjgehgaellmaa.GfI Go.Proofs.Ytbnjgehgaellmaa.GfS
set_option linter.unusedVariables false

/-- The first m cells of a product. -/
def mulL (A Bm : Mx) (n k m : Nat) : List Int := (List.range m).map fun x => dotZ A Bm (x / k) (x % k) n
theorem mulL_len (A Bm : Mx) (n k m : Nat) : (mulL A Bm n k m).length = m := by simp [mulL]
theorem mulL_snoc {A Bm : Mx} {n k i c : Nat} (hc : c < k) : mulL A Bm n k (i * k + c + 1) = mulL A Bm n k (i * k + c) ++ [dotZ A Bm i c n] := by
  unfold mulL
  rw [List.range_succ, List.map_append]
  have hw : 0 < k := by omega
  have h1 : (i * k + c) / k = i := by rw [Nat.mul_comm, Nat.mul_add_div hw, Nat.div_eq_of_lt hc]; rfl
  have h2 : (i * k + c) % k = c := by rw [Nat.mul_comm, Nat.mul_add_mod, Nat.mod_eq_of_lt hc]
  show _ ++ [dotZ A Bm ((i * k + c) / k) ((i * k + c) % k) n] = _
  rw [h1, h2]
theorem mulL_row (A Bm : Mx) (n k i : Nat) : mulL A Bm n k (i * k + k) = mulL A Bm n k ((i + 1) * k + 0) := by rw [Nat.add_zero, Nat.add_mul, Nat.one_mul]

theorem below_of_eq {w0 w1 : World} {q : Nat} (h : w1 = w0.drewN q) : Below w0.heap.size w0 w1 := by rw [h]; exact below_drewN (Below.refl _ _) q
theorem app3 {C : Nat} {wr w2 : World} {b : Nat} {x y v v' : Value} {zs : List Int} {c : Int} {o : Obj} (I : Ib C wr v zs) (T : Whole wr b x y v) (hsz : C ≤ wr.heap.size) (I2 : Ib C w2 v' (zs ++ [c])) (g2 : (wr.alloc o).grownBy w2 v.ownBlock) :
    Whole w2 b x y v ∧ Below C wr w2 ∧ Ib C (w2.setCell ⟨b, 2, none⟩ v') v' (zs ++ [c]) ∧ Whole (w2.setCell ⟨b, 2, none⟩ v') b x y v' := by
  have T2 : Whole w2 b x y v := (T.below (lay _ o)).grown g2 (T.ne I)
  exact ⟨T2, I.grown hsz o g2, I2.apart (p := ⟨b, 2, none⟩) (T2.ne I2) _, T2.put2 _⟩

end Go.Proofs.Ytbnjgehgaellmaa.Gf2
