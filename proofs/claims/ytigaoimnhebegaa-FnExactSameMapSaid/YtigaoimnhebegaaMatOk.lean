/-
  Whether a matrix is valid: what the program's and the model's functions return.
-/
import Derived.Test.YtigaoimnhebegaaMatLaw
import Derived.Test.YtigaoimnhebegaaGfSpec
namespace Go.Proofs.Ytigaoimnhebegaa.Mo
open Go.RowKit Go.Proofs.Ytigaoimnhebegaa.At Go.Proofs.Ytigaoimnhebegaa.MixC Go.Proofs.Ytigaoimnhebegaa.Ml Go.Proofs.Ytigaoimnhebegaa.GfI Go.Proofs.Ytigaoimnhebegaa.GfS
set_option linter.unusedVariables false

def okM (h wd : Int) (zs : List Int) : Bool := decide (1 ≤ h ∧ h ≤ 8 ∧ 1 ≤ wd ∧ wd ≤ 8 ∧ (zs.length : Int) = h * wd ∧ ∀ z ∈ zs, 0 ≤ z ∧ z ≤ 255)
theorem okM_dims {h wd : Int} {zs : List Int} (d : ¬ (1 ≤ h ∧ h ≤ 8 ∧ 1 ≤ wd ∧ wd ≤ 8)) : okM h wd zs = false := by
  unfold okM; rw [decide_eq_false_iff_not]; intro q; exact d ⟨q.1, q.2.1, q.2.2.1, q.2.2.2.1⟩
theorem okM_len {h wd : Int} {zs : List Int} (d : ¬ (zs.length : Int) = h * wd) : okM h wd zs = false := by
  unfold okM; rw [decide_eq_false_iff_not]; intro q; exact d q.2.2.2.2.1
theorem okM_elt {h wd : Int} {zs : List Int} {k : Nat} (hk : k < zs.length) (d : isElt (zs.getD k 0) = false) : okM h wd zs = false := by
  unfold okM; rw [decide_eq_false_iff_not]; intro q
  have hm : zs.getD k 0 ∈ zs := by rw [List.getD_eq_getElem?_getD, List.getElem?_eq_getElem hk]; exact List.getElem_mem hk
  have := q.2.2.2.2.2 _ hm
  rw [elt_yes this.1 this.2] at d
  cases d
theorem okM_yes {h wd : Int} {zs : List Int} (d : 1 ≤ h ∧ h ≤ 8 ∧ 1 ≤ wd ∧ wd ≤ 8) (l : (zs.length : Int) = h * wd) (e : ∀ k, k < zs.length → isElt (zs.getD k 0) = true) : okM h wd zs = true := by
  unfold okM; rw [decide_eq_true_eq]
  refine ⟨d.1, d.2.1, d.2.2.1, d.2.2.2, l, fun z hz => ?_⟩
  obtain ⟨k, hk, rfl⟩ := List.mem_iff_getElem.1 hz
  have := e k hk
  rw [List.getD_eq_getElem?_getD, List.getElem?_eq_getElem hk] at this
  exact elt_of this
theorem okM_out {h wd : Int} {zs : List Int} (o : okM h wd zs = true) : (1 ≤ h ∧ h ≤ 8 ∧ 1 ≤ wd ∧ wd ≤ 8) ∧ (zs.length : Int) = h * wd ∧ ∀ z ∈ zs, 0 ≤ z ∧ z ≤ 255 := by
  unfold okM at o; rw [decide_eq_true_eq] at o; exact ⟨⟨o.1, o.2.1, o.2.2.1, o.2.2.2.1⟩, o.2.2.2.2.1, o.2.2.2.2.2⟩
def BoolB (b : Bool) (w : World) (e : Ending) (w' : World) : Prop := e = .returned (.bool b) ∧ Below w.heap.size w w'
theorem prod_bounds {h wd : Int} (d : 1 ≤ h ∧ h ≤ 8 ∧ 1 ≤ wd ∧ wd ≤ 8) : 1 ≤ h * wd ∧ h * wd ≤ 64 := by
  have a := Int.mul_le_mul d.2.1 d.2.2.2 (by omega) (by omega : (0 : Int) ≤ 8)
  have b := Int.mul_le_mul d.1 d.2.2.1 (by omega) (by omega : (0 : Int) ≤ h)
  omega

end Go.Proofs.Ytigaoimnhebegaa.Mo
