/-
  The exact laws of PutVar and PutText.
-/
import Derived.Test.YtbnjgehgaellmaaDoorVar
import Derived.Test.YtbnjgehgaellmaaDoorGfSpec
namespace Go.Proofs.YtbnjgehgaellmaaDoor.LawVar
open Go.RowKit Go.Proofs.YtbnjgehgaellmaaDoor.Bf Go.Proofs.YtbnjgehgaellmaaDoor.Vr
set_option linter.unusedVariables false
theorem i64_bounds {n : Int} (h : (Lit.int .i64 n).wf = true) : -9223372036854775808 ≤ n ∧ n ≤ 9223372036854775807 := by
  simp only [Lit.wf, IntKind.min, IntKind.max, IntKind.signed, IntKind.bits, Bool.and_eq_true, decide_eq_true_eq, if_true] at h
  omega

theorem encF_len (f : Nat) : ∀ m : Int, (encF f m).length ≤ f + 1 := by
  induction f with
  | zero => intro m; simp [encF]
  | succ f ih =>
    intro m
    unfold encF
    by_cases h : m < 128
    · rw [if_pos h]; simp
    · rw [if_neg h]; have := ih (m / 128); simp; omega
theorem head_size (n : Int) (k : Nat) (hk : k ≤ 4611686018427387904) : (strOfNums (encF 9 n)).size + k ≤ 9223372036854775807 := by
  rw [strOfNums_size]; have := encF_len 9 n; omega
/-- The bytes of a text behind its length. -/
def encT (t : ByteArray) : ByteArray := strOfNums (encF 9 t.size) ++ t

end Go.Proofs.YtbnjgehgaellmaaDoor.LawVar
