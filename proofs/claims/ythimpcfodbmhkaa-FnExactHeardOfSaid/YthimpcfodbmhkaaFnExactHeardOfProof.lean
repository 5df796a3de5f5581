/-
  The law FnExactHeardOf at this commit: called with any arguments it returns true and writes to nothing that was there. No condition.
-/
import Derived.Test.YthimpcfodbmhkaaRows
import Derived.Test.YthimpcfodbmhkaaLawHea
import Derived.WalkKit
import Derived.ProofKit
import Derived.OpenShut
import Derived.ShutString
import Derived.Below
import Derived.Carry
import Derived.Lib.SmallJoins
namespace Go.Proofs.Ythimpcfodbmhkaa.fnExactHeardOf
open Go.ChangeShapes Go.WideShapes Go.ChangeAt Go.RowKit
open Go.ChangeMaps (open_string shut_string)
set_option linter.unusedVariables false

theorem own : ownKnob Try.prog.godebug = none := by kernel_rfl
theorem laidOut : laidOutB Try.prog = true := by kernel_rfl

theorem walk (cs0 : List Value) (d0 : Go.Proofs.Ythimpcfodbmhkaa.Rd.DInterval) (u1 : Option Addr) (c1 : Nat) (d1 : List Int) (w : World) (w0 : Go.Proofs.Ythimpcfodbmhkaa.Rd.Rdb.rd false 0 w cs0 d0) (w1 : d1.length ≤ 9223372036854775807 ∧ Go.Proofs.Ythimpcfodbmhkaa.Rd.Rows false 0 w u1 d1) :
    Calls Try.prog 13 #[.agg cs0.toArray, .slice u1 d1.length c1] w fun e w' => e = .returned (.bool true) ∧ Below w.heap.size w w' :=
  Go.Proofs.Ythimpcfodbmhkaa.Rd.lawHeardOf cs0 d0 u1 c1 d1 w w0 w1

set_option maxRecDepth 100000 in
theorem lifted (os : Os) (started : os.Started) (H : Type) (enc : TypeId × Value → H) :
    ReturnsInHanded {} Try.checked os 13 .any (Rows.fnExactHeardOfSpec.pre6 enc Try.prog Try.f13 Rows.fnExactHeardOfRow.domain false) (Rows.fnExactHeardOfSpec.post enc Try.prog Try.f13 false true false false) := by
  refine returnsInHanded_of_change (C := Try.checked) own started (by kernel_rfl) Try.func13
    (ChangeSpec.witness6 (enc := enc) (C := Try.checked) false ⟨#[], #[.agg #[.int .i64 0, .int .i64 0, .slice none 0 0, .bool false], .slice none 0 0], []⟩ 8 (by kernel_rfl) (by kernel_rfl) (by kernel_rfl) (by kernel_rfl)) ?_
  intro W base args ds gs before hval0 hW hcnd _
  have hval : ∀ (j : Nat) t v, Try.f13.params[j]? = some t → args[j]? = some v → Value.okWide Try.prog W .any base t v := hval0
  have hW' := hW
  obtain ⟨p, q, hA0, hV, rfl, hfz, hnd⟩ := hW
  have hA : DataW.TrodAll enc Try.prog W 0 (fun _ => true) true Try.f13.params.toList args.toList ds p := hA0
  rw [Try.params13] at hA hval
  obtain ⟨v0, vs0_, d0, ds0, p0, q0, hargs, rfl, rfl, h0, r0⟩ := trodAll_cons hA
  obtain ⟨v1, vs1_, d1, ds1, p1, q1, rfl, rfl, rfl, h1, r1⟩ := trodAll_cons r0
  obtain ⟨rfl, rfl, rfl⟩ := trodAll_nil r1
  obtain rfl : args = #[v0, v1] := by cases args; simp_all
  obtain ⟨rfl, rfl⟩ := trodVars_none hV
  have kk0 := h0
  have lt0 : ∀ x ∈ p0, x.block < W.heap.size := by obtain ⟨m, hm⟩ := kk0; exact DataW.trod_lt m _ _ _ hm
  obtain ⟨A0, rfl, hsz0⟩ := okWide_struct Try.underlying47 (hval 0 47 v0 rfl rfl)
  obtain ⟨cs0⟩ := A0
  obtain ⟨fu0, hf0⟩ := h0
  obtain ⟨d0, w0⟩ := (Go.Proofs.Ythimpcfodbmhkaa.Rd.opens_Interval Try.underlying47 (by kernel_rfl) ⟨rfl, rfl, rfl, rfl⟩ (Go.Proofs.Ythimpcfodbmhkaa.Rd.opens_int Try.underlying2 (by kernel_rfl)) (Go.Proofs.Ythimpcfodbmhkaa.Rd.opens_int Try.underlying2 (by kernel_rfl)) (Go.Proofs.Ythimpcfodbmhkaa.Rd.opens_slice Try.underlying22 (by kernel_rfl) (by decide) (Go.Proofs.Ythimpcfodbmhkaa.Rd.opens_int Try.underlying2 (by kernel_rfl))) (Go.Proofs.Ythimpcfodbmhkaa.Rd.opens_bool Try.underlying4 (by kernel_rfl))).2 _ _ _ _ _ _ _ _ hf0
  replace w0 : Go.Proofs.Ythimpcfodbmhkaa.Rd.Rdb.rd false 0 W cs0 d0 := w0
  have kk1 := h1
  have lt1 : ∀ x ∈ p1, x.block < W.heap.size := by obtain ⟨m, hm⟩ := kk1; exact DataW.trod_lt m _ _ _ hm
  obtain ⟨fu1, hf1⟩ := h1
  obtain ⟨u1, m1, c1, rfl⟩ := okWide_slice Try.underlying22 (hval 1 22 v1 rfl rfl)
  obtain ⟨d1, hl1, a1, cap1, e1, hr1⟩ := (Go.Proofs.Ythimpcfodbmhkaa.Rd.opens_slice Try.underlying22 (by kernel_rfl) (by decide) (Go.Proofs.Ythimpcfodbmhkaa.Rd.opens_int Try.underlying2 (by kernel_rfl))).2 _ _ _ _ _ _ _ _ hf1
  have ee1 : u1 = a1 ∧ m1 = d1.length ∧ c1 = cap1 := by simpa [Value.cells] using e1.1
  obtain ⟨rfl, rfl, rfl⟩ := ee1
  have w1 := And.intro hl1 hr1
  clear hA0 hval0
  refine (walk cs0 d0 u1 c1 d1 W w0 w1).mono fun e W' ⟨he, bel⟩ => ?_
  subst he
  exact ⟨_, rfl, _, _, _, [], _, [], hW', trodAll_mk1 (shut_bool Try.underlying4 _), (trodAll_cons_mk (Below.trod laidOut (by kernel_rfl) (of_decide_eq_true (by kernel_rfl)) kk0 bel lt0) (trodAll_cons_mk (Below.trod laidOut (by kernel_rfl) (of_decide_eq_true (by kernel_rfl)) kk1 bel lt1) trodAll_mk0)), rfl, bel.frame _, fun h => by cases h⟩

theorem over : Rows.fnExactHeardOfRow.holds Try.pinned (OpenSpec.ofChange Rows.fnExactHeardOfSpec) :=
  OpenClaim.holds_of_wide 13 Try.f13 rfl rfl rfl rfl rfl rfl rfl ⟨rfl, rfl, rfl, rfl, rfl⟩ rfl rfl rfl rfl rfl (by kernel_rfl) Try.func13 (by kernel_rfl)
    (of_decide_eq_true (by kernel_rfl)) (by unfold Func.isWrapper; first | (rw [if_pos (by decide +kernel)]; kernel_rfl) | (rw [if_neg (by decide +kernel)]; exact ⟨rfl, rfl⟩))
    (fun os started H enc _ => lifted os started H enc)

theorem proved : Rows.FnExactHeardOfSaid := over
end Go.Proofs.Ythimpcfodbmhkaa.fnExactHeardOf
