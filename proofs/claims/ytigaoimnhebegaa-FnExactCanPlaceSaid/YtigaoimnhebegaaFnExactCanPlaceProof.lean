/-
  The law FnExactCanPlace at this commit: called with any arguments it returns true and writes to nothing that was there. No condition.
-/
import Derived.Test.YtigaoimnhebegaaRows
import Derived.Test.YtigaoimnhebegaaLawCanPlace
import Derived.WalkKit
import Derived.ProofKit
import Derived.OpenShut
import Derived.ShutString
import Derived.Below
import Derived.Carry
import Derived.Lib.SmallJoins
namespace Go.Proofs.Ytigaoimnhebegaa.fnExactCanPlace
open Go.ChangeShapes Go.WideShapes Go.ChangeAt Go.RowKit
open Go.ChangeMaps (open_string shut_string)
set_option linter.unusedVariables false

theorem own : ownKnob Try.prog.godebug = none := by kernel_rfl
theorem laidOut : laidOutB Try.prog = true := by kernel_rfl

theorem walk (da0 : Option Addr) (dn0 dc0 : Nat) (f0 g0 : Nat → Int) (ba0 : Option Addr) (bn0 bc0 : Nat) (F0 G0 : Nat → Int) (I0 : Nat → Option Addr) (L0 : Nat → List Int) (C0 : Nat → Nat) (x1 y1 z1 : Int) (b1 : Bool) (a2 : Option Addr) (len2 cap2 : Nat) (z2 : List Int) (w : World) (w0 : Go.Proofs.Ytigaoimnhebegaa.Op.TreeArg w da0 dn0 f0 g0 ba0 bn0 F0 G0 I0 L0 C0) (w1 : (Lit.int .i64 x1).wf = true ∧ (Lit.int .i64 y1).wf = true ∧ (Lit.int .i64 z1).wf = true) (w2 : z2.length = len2 ∧ Go.Proofs.Ytigaoimnhebegaa.MixC.Words w a2 z2 ∧ ∀ n ∈ z2, (Lit.int .i64 n).wf = true) :
    Calls Try.prog 4 #[.agg #[.slice da0 dn0 dc0, .slice ba0 bn0 bc0], .agg #[.int .i64 x1, .int .i64 y1, .int .i64 z1, .bool b1], .slice a2 len2 cap2] w fun e w' => e = .returned (.bool true) ∧ Below w.heap.size w w' :=
  Go.Proofs.Ytigaoimnhebegaa.Tm.lawCanPlace da0 dn0 dc0 f0 g0 ba0 bn0 bc0 F0 G0 I0 L0 C0 x1 y1 z1 b1 a2 len2 cap2 z2 w w0 w1 w2

set_option maxRecDepth 100000 in
theorem lifted (os : Os) (started : os.Started) (H : Type) (enc : TypeId × Value → H) :
    ReturnsInHanded {} Try.checked os 4 .any (Rows.fnExactCanPlaceSpec.pre6 enc Try.prog Try.f4 Rows.fnExactCanPlaceRow.domain false) (Rows.fnExactCanPlaceSpec.post enc Try.prog Try.f4 false true false false) := by
  refine returnsInHanded_of_change (C := Try.checked) own started (by kernel_rfl) Try.func4
    (ChangeSpec.witness6 (enc := enc) (C := Try.checked) false ⟨#[], #[.agg #[.slice none 0 0, .slice none 0 0], .agg #[.int .i64 0, .int .i64 0, .int .i64 0, .bool false], .slice none 0 0], []⟩ 8 (by kernel_rfl) (by kernel_rfl) (by kernel_rfl) (by kernel_rfl)) ?_
  intro W base args ds gs before hval0 hW hcnd _
  have hval : ∀ (j : Nat) t v, Try.f4.params[j]? = some t → args[j]? = some v → Value.okWide Try.prog W .any base t v := hval0
  have hW' := hW
  obtain ⟨p, q, hA0, hV, rfl, hfz, hnd⟩ := hW
  have hA : DataW.TrodAll enc Try.prog W 0 (fun _ => true) true Try.f4.params.toList args.toList ds p := hA0
  rw [Try.params4] at hA hval
  obtain ⟨v0, vs0_, d0, ds0, p0, q0, hargs, rfl, rfl, h0, r0⟩ := trodAll_cons hA
  obtain ⟨v1, vs1_, d1, ds1, p1, q1, rfl, rfl, rfl, h1, r1⟩ := trodAll_cons r0
  obtain ⟨v2, vs2_, d2, ds2, p2, q2, rfl, rfl, rfl, h2, r2⟩ := trodAll_cons r1
  obtain ⟨rfl, rfl, rfl⟩ := trodAll_nil r2
  obtain rfl : args = #[v0, v1, v2] := by cases args; simp_all
  obtain ⟨rfl, rfl⟩ := trodVars_none hV
  have kk0 := h0
  have lt0 : ∀ x ∈ p0, x.block < W.heap.size := by obtain ⟨m, hm⟩ := kk0; exact DataW.trod_lt m _ _ _ hm
  obtain ⟨da0, dn0, dc0, f0, g0, ba0, bn0, bc0, F0, G0, I0, L0, C0, rfl, w0⟩ := Go.Proofs.Ytigaoimnhebegaa.Op.tree_open Try.underlying25 (by kernel_rfl) (by kernel_rfl) Try.underlying22 Try.underlying168 (by kernel_rfl) ⟨rfl, rfl⟩ (by refine ⟨?_, ?_⟩ <;> kernel_rfl) ⟨Try.underlying2, Try.underlying2⟩ Try.underlying23 Try.underlying163 (by kernel_rfl) ⟨rfl, rfl, rfl⟩ (by refine ⟨?_, ?_, ?_⟩ <;> kernel_rfl) ⟨Try.underlying2, Try.underlying2, Try.underlying39⟩ Try.underlying2 (by kernel_rfl) (hval 0 25 v0 rfl rfl) h0
  have kk1 := h1
  have lt1 : ∀ x ∈ p1, x.block < W.heap.size := by obtain ⟨m, hm⟩ := kk1; exact DataW.trod_lt m _ _ _ hm
  obtain ⟨x1, y1, z1, b1, rfl, w1⟩ := Go.Proofs.Ytigaoimnhebegaa.Op.rule_open Try.underlying27 (by kernel_rfl) (by kernel_rfl) ⟨Try.underlying2, Try.underlying2, Try.underlying2, Try.underlying4⟩ (hval 1 27 v1 rfl rfl) h1
  have k2 := h2
  have lt2 : ∀ x ∈ p2, x.block < W.heap.size := by obtain ⟨m, hm⟩ := k2; exact DataW.trod_lt m _ _ _ hm
  obtain ⟨fu2, hf2⟩ := h2
  obtain ⟨a2, len2, cap2, rfl⟩ := okWide_slice Try.underlying39 (hval 2 39 v2 rfl rfl)
  obtain ⟨aa2, ll2, cc2, z2, e2, hl2, hm2, hw2, hz2⟩ := Go.Proofs.Ytigaoimnhebegaa.Op.row_of Try.underlying39 Try.underlying2 (by kernel_rfl) hf2
  have ee2 : a2 = aa2 ∧ len2 = ll2 ∧ cap2 = cc2 := by simpa [Value.cells] using e2
  have w2 : z2.length = len2 ∧ Go.Proofs.Ytigaoimnhebegaa.MixC.Words W a2 z2 ∧ ∀ n ∈ z2, (Lit.int .i64 n).wf = true := ⟨by rw [ee2.2.1]; exact hl2, by rw [ee2.1]; exact hw2, hz2⟩
  clear hA0 hval0
  refine (walk da0 dn0 dc0 f0 g0 ba0 bn0 bc0 F0 G0 I0 L0 C0 x1 y1 z1 b1 a2 len2 cap2 z2 W w0 w1 w2).mono fun e W' ⟨he, bel⟩ => ?_
  subst he
  exact ⟨_, rfl, _, _, _, [], _, [], hW', trodAll_mk1 (shut_bool Try.underlying4 _), (trodAll_cons_mk (Below.trod laidOut (by kernel_rfl) (of_decide_eq_true (by kernel_rfl)) kk0 bel lt0) (trodAll_cons_mk (Below.trod laidOut (by kernel_rfl) (of_decide_eq_true (by kernel_rfl)) kk1 bel lt1) (trodAll_cons_mk (Below.trod laidOut (by kernel_rfl) (of_decide_eq_true (by kernel_rfl)) k2 bel lt2) trodAll_mk0))), rfl, bel.frame _, fun h => by cases h⟩

theorem over : Rows.fnExactCanPlaceRow.holds Try.pinned (OpenSpec.ofChange Rows.fnExactCanPlaceSpec) :=
  OpenClaim.holds_of_wide 4 Try.f4 rfl rfl rfl rfl rfl rfl rfl ⟨rfl, rfl, rfl, rfl, rfl⟩ rfl rfl rfl rfl rfl (by kernel_rfl) Try.func4 (by kernel_rfl)
    (of_decide_eq_true (by kernel_rfl)) (by unfold Func.isWrapper; first | (rw [if_pos (by decide +kernel)]; kernel_rfl) | (rw [if_neg (by decide +kernel)]; exact ⟨rfl, rfl⟩))
    (fun os started H enc _ => lifted os started H enc)

theorem proved : Rows.FnExactCanPlaceSaid := over
end Go.Proofs.Ytigaoimnhebegaa.fnExactCanPlace
