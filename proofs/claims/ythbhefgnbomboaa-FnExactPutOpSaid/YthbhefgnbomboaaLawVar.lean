/-
  The exact laws of PutVar and PutText.
-/
import Derived.Test.YthbhefgnbomboaaVar
import Derived.Test.YthbhefgnbomboaaGfSpec
namespace Go.Proofs.Ythbhefgnbomboaa.LawVar
open Go.RowKit Go.Proofs.Ythbhefgnbomboaa.Bf Go.Proofs.Ythbhefgnbomboaa.Vr
set_option linter.unusedVariables false
theorem i64_bounds {n : Int} (h : (Lit.int .i64 n).wf = true) : -9223372036854775808 ≤ n ∧ n ≤ 9223372036854775807 := by
  simp only [Lit.wf, IntKind.min, IntKind.max, IntKind.signed, IntKind.bits, Bool.and_eq_true, decide_eq_true_eq, if_true] at h
  omega

set_option maxRecDepth 100000 in
theorem specPutVar (n : Int) (h0 : 0 ≤ n) (h1 : n ≤ 4611686018427387904) (w : World) :
    Calls Try.prog 44 #[.int .i64 n] w (Text w (strOfNums (encF 9 n))) := by
  have hb := GfS.inB_yes h0 h1
  go_enter Try.func44, Try.ntmps44
  go_wp2_with fail
  refine (GfS.l00In n 0 _ _).mono ?_
  rintro e w1 ⟨rfl, rfl⟩
  go_wp2_with fail
  refine (l01Var n h0 h1 _).mono ?_
  rintro e w2 ⟨rfl, hb2⟩
  go_wp2
  go_ret
  exact ⟨rfl, hb2⟩
set_option maxRecDepth 100000 in
theorem specPutBad (n : Int) (h : n < 0 ∨ 4611686018427387904 < n) (w : World) :
    Calls Try.prog 44 #[.int .i64 n] w (Text w ⟨#[]⟩) := by
  have hb : GfS.inB n 0 4611686018427387904 = false := decide_eq_false (by omega)
  clear h
  go_enter Try.func44, Try.ntmps44
  go_wp2_with fail
  refine (GfS.l00In n 0 _ _).mono ?_
  rintro e w1 ⟨rfl, rfl⟩
  go_wp2
  go_ret
  exact ⟨rfl, Below.refl _ _⟩
set_option maxRecDepth 100000 in
theorem implPutBad (n : Int) (h : n < 0 ∨ 4611686018427387904 < n) (w : World) :
    Calls Try.prog 47 #[.int .i64 n] w (Text w ⟨#[]⟩) := by
  by_cases hn : n < 0
  · clear h
    go_enter Try.func47, Try.ntmps47
    go_wp2
    go_ret
    exact ⟨rfl, Below.refl _ _⟩
  · have h2 : 4611686018427387904 < n := by omega
    clear h
    go_enter Try.func47, Try.ntmps47
    go_wp2
    go_ret
    exact ⟨rfl, Below.refl _ _⟩

theorem encF_len (f : Nat) : ∀ m : Int, (encF f m).length ≤ f + 1 := by
  induction f with
  | zero => intro m; simp [encF]
  | succ f ih =>
    intro m
    unfold encF
    by_cases h : m < 128
    · rw [if_pos h]; simp
    · rw [if_neg h]; have := ih (m / 128); simp; omega
theorem head_size (n : Int) (k : Nat) (hk : k ≤ 4611686018427387904) : (strOfNums (encF 9 n)).size + k ≤ 9223372036854775807 := by
  rw [strOfNums_size]; have := encF_len 9 n; omega
/-- The bytes of a text behind its length. -/
def encT (t : ByteArray) : ByteArray := strOfNums (encF 9 t.size) ++ t

set_option maxRecDepth 100000 in
theorem implPutText (t : ByteArray) (ht : t.size ≤ 1048576) (w : World) :
    Calls Try.prog 48 #[.string t] w (Text w (encT t)) := by
  have hs := head_size t.size t.size (by omega)
  go_enter Try.func48, Try.ntmps48
  go_wp2_with fail
  refine (implPutVar _ (by omega) (by omega) _).mono ?_
  rintro e w2 ⟨rfl, b2⟩
  go_wp2
  go_ret
  exact ⟨rfl, b2⟩
set_option maxRecDepth 100000 in
theorem l01Text (t : ByteArray) (ht : t.size ≤ 1048576) (w : World) :
    Calls Try.prog 74 #[.string t] w (Text w (encT t)) := by
  have hs := head_size t.size t.size (by omega)
  go_enter Try.func74, Try.ntmps74
  go_wp2_with fail
  refine (l01Var _ (by omega) (by omega) _).mono ?_
  rintro e w2 ⟨rfl, b2⟩
  go_wp2
  go_ret
  exact ⟨rfl, b2⟩
theorem specPutText (t : ByteArray) (ht : t.size ≤ 1048576) (w : World) :
    Calls Try.prog 45 #[.string t] w (Text w (encT t)) := by
  go_enter Try.func45, Try.ntmps45
  go_wp2_with fail
  refine (l01Text t ht _).mono ?_
  rintro e w2 ⟨rfl, b2⟩
  go_wp2
  go_ret
  exact ⟨rfl, b2⟩

end Go.Proofs.Ythbhefgnbomboaa.LawVar
