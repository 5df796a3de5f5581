/-
  The law FnExactSameTree at this commit: called with any arguments it returns true and writes to nothing that was there. No condition.
-/
import Derived.Test.YtigaoimnhebegaaRows
import Derived.Test.YtigaoimnhebegaaLawSame
import Derived.WalkKit
import Derived.ProofKit
import Derived.OpenShut
import Derived.ShutString
import Derived.Below
import Derived.Carry
import Derived.Lib.SmallJoins
namespace Go.Proofs.Ytigaoimnhebegaa.fnExactSameTree
open Go.ChangeShapes Go.WideShapes Go.ChangeAt Go.RowKit
open Go.ChangeMaps (open_string shut_string)
set_option linter.unusedVariables false

theorem own : ownKnob Try.prog.godebug = none := by kernel_rfl
theorem laidOut : laidOutB Try.prog = true := by kernel_rfl

theorem walk (da0 : Option Addr) (dn0 dc0 : Nat) (f0 g0 : Nat → Int) (ba0 : Option Addr) (bn0 bc0 : Nat) (F0 G0 : Nat → Int) (I0 : Nat → Option Addr) (L0 : Nat → List Int) (C0 : Nat → Nat) (da1 : Option Addr) (dn1 dc1 : Nat) (f1 g1 : Nat → Int) (ba1 : Option Addr) (bn1 bc1 : Nat) (F1 G1 : Nat → Int) (I1 : Nat → Option Addr) (L1 : Nat → List Int) (C1 : Nat → Nat) (w : World) (w0 : Go.Proofs.Ytigaoimnhebegaa.Op.TreeArg w da0 dn0 f0 g0 ba0 bn0 F0 G0 I0 L0 C0) (w1 : Go.Proofs.Ytigaoimnhebegaa.Op.TreeArg w da1 dn1 f1 g1 ba1 bn1 F1 G1 I1 L1 C1) :
    Calls Try.prog 5 #[.agg #[.slice da0 dn0 dc0, .slice ba0 bn0 bc0], .agg #[.slice da1 dn1 dc1, .slice ba1 bn1 bc1]] w fun e w' => e = .returned (.bool true) ∧ Below w.heap.size w w' :=
  Go.Proofs.Ytigaoimnhebegaa.Tm.lawSameTree da0 dn0 dc0 f0 g0 ba0 bn0 bc0 F0 G0 I0 L0 C0 da1 dn1 dc1 f1 g1 ba1 bn1 bc1 F1 G1 I1 L1 C1 w w0 w1

set_option maxRecDepth 100000 in
theorem lifted (os : Os) (started : os.Started) (H : Type) (enc : TypeId × Value → H) :
    ReturnsInHanded {} Try.checked os 5 .any (Rows.fnExactSameTreeSpec.pre6 enc Try.prog Try.f5 Rows.fnExactSameTreeRow.domain false) (Rows.fnExactSameTreeSpec.post enc Try.prog Try.f5 false true false false) := by
  refine returnsInHanded_of_change (C := Try.checked) own started (by kernel_rfl) Try.func5
    (ChangeSpec.witness6 (enc := enc) (C := Try.checked) false ⟨#[], #[.agg #[.slice none 0 0, .slice none 0 0], .agg #[.slice none 0 0, .slice none 0 0]], []⟩ 8 (by kernel_rfl) (by kernel_rfl) (by kernel_rfl) (by kernel_rfl)) ?_
  intro W base args ds gs before hval0 hW hcnd _
  have hval : ∀ (j : Nat) t v, Try.f5.params[j]? = some t → args[j]? = some v → Value.okWide Try.prog W .any base t v := hval0
  have hW' := hW
  obtain ⟨p, q, hA0, hV, rfl, hfz, hnd⟩ := hW
  have hA : DataW.TrodAll enc Try.prog W 0 (fun _ => true) true Try.f5.params.toList args.toList ds p := hA0
  rw [Try.params5] at hA hval
  obtain ⟨v0, vs0_, d0, ds0, p0, q0, hargs, rfl, rfl, h0, r0⟩ := trodAll_cons hA
  obtain ⟨v1, vs1_, d1, ds1, p1, q1, rfl, rfl, rfl, h1, r1⟩ := trodAll_cons r0
  obtain ⟨rfl, rfl, rfl⟩ := trodAll_nil r1
  obtain rfl : args = #[v0, v1] := by cases args; simp_all
  obtain ⟨rfl, rfl⟩ := trodVars_none hV
  have kk0 := h0
  have lt0 : ∀ x ∈ p0, x.block < W.heap.size := by obtain ⟨m, hm⟩ := kk0; exact DataW.trod_lt m _ _ _ hm
  obtain ⟨da0, dn0, dc0, f0, g0, ba0, bn0, bc0, F0, G0, I0, L0, C0, rfl, w0⟩ := Go.Proofs.Ytigaoimnhebegaa.Op.tree_open Try.underlying25 (by kernel_rfl) (by kernel_rfl) Try.underlying22 Try.underlying168 (by kernel_rfl) ⟨rfl, rfl⟩ (by refine ⟨?_, ?_⟩ <;> kernel_rfl) ⟨Try.underlying2, Try.underlying2⟩ Try.underlying23 Try.underlying163 (by kernel_rfl) ⟨rfl, rfl, rfl⟩ (by refine ⟨?_, ?_, ?_⟩ <;> kernel_rfl) ⟨Try.underlying2, Try.underlying2, Try.underlying39⟩ Try.underlying2 (by kernel_rfl) (hval 0 25 v0 rfl rfl) h0
  have kk1 := h1
  have lt1 : ∀ x ∈ p1, x.block < W.heap.size := by obtain ⟨m, hm⟩ := kk1; exact DataW.trod_lt m _ _ _ hm
  obtain ⟨da1, dn1, dc1, f1, g1, ba1, bn1, bc1, F1, G1, I1, L1, C1, rfl, w1⟩ := Go.Proofs.Ytigaoimnhebegaa.Op.tree_open Try.underlying25 (by kernel_rfl) (by kernel_rfl) Try.underlying22 Try.underlying168 (by kernel_rfl) ⟨rfl, rfl⟩ (by refine ⟨?_, ?_⟩ <;> kernel_rfl) ⟨Try.underlying2, Try.underlying2⟩ Try.underlying23 Try.underlying163 (by kernel_rfl) ⟨rfl, rfl, rfl⟩ (by refine ⟨?_, ?_, ?_⟩ <;> kernel_rfl) ⟨Try.underlying2, Try.underlying2, Try.underlying39⟩ Try.underlying2 (by kernel_rfl) (hval 1 25 v1 rfl rfl) h1
  clear hA0 hval0
  refine (walk da0 dn0 dc0 f0 g0 ba0 bn0 bc0 F0 G0 I0 L0 C0 da1 dn1 dc1 f1 g1 ba1 bn1 bc1 F1 G1 I1 L1 C1 W w0 w1).mono fun e W' ⟨he, bel⟩ => ?_
  subst he
  exact ⟨_, rfl, _, _, _, [], _, [], hW', trodAll_mk1 (shut_bool Try.underlying4 _), (trodAll_cons_mk (Below.trod laidOut (by kernel_rfl) (of_decide_eq_true (by kernel_rfl)) kk0 bel lt0) (trodAll_cons_mk (Below.trod laidOut (by kernel_rfl) (of_decide_eq_true (by kernel_rfl)) kk1 bel lt1) trodAll_mk0)), rfl, bel.frame _, fun h => by cases h⟩

theorem over : Rows.fnExactSameTreeRow.holds Try.pinned (OpenSpec.ofChange Rows.fnExactSameTreeSpec) :=
  OpenClaim.holds_of_wide 5 Try.f5 rfl rfl rfl rfl rfl rfl rfl ⟨rfl, rfl, rfl, rfl, rfl⟩ rfl rfl rfl rfl rfl (by kernel_rfl) Try.func5 (by kernel_rfl)
    (of_decide_eq_true (by kernel_rfl)) (by unfold Func.isWrapper; first | (rw [if_pos (by decide +kernel)]; kernel_rfl) | (rw [if_neg (by decide +kernel)]; exact ⟨rfl, rfl⟩))
    (fun os started H enc _ => lifted os started H enc)

theorem proved : Rows.FnExactSameTreeSaid := over
end Go.Proofs.Ytigaoimnhebegaa.fnExactSameTree
