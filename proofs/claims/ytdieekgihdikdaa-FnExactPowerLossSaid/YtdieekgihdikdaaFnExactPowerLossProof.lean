/-
  The law FnExactPowerLoss at this commit: called with any arguments it returns true and writes to nothing that was there. No condition.
-/
import Derived.Test.YtdieekgihdikdaaRows
import Derived.Test.YtdieekgihdikdaaLawPl
import Derived.WalkKit
import Derived.ProofKit
import Derived.OpenShut
import Derived.ShutString
import Derived.Below
import Derived.Carry
import Derived.Lib.SmallJoins
namespace Go.Proofs.Ytdieekgihdikdaa.fnExactPowerLoss
open Go.ChangeShapes Go.WideShapes Go.ChangeAt Go.RowKit
open Go.ChangeMaps (open_string shut_string)
set_option linter.unusedVariables false

theorem own : ownKnob Try.prog.godebug = none := by kernel_rfl
theorem laidOut : laidOutB Try.prog = true := by kernel_rfl

theorem walk (cs0 : List Value) (d0 : Go.Proofs.Ytdieekgihdikdaa.Rd.DDisk) (u1 : Option Addr) (c1 : Nat) (d1 : List Int) (a2 : Int) (w : World) (w0 : Go.Proofs.Ytdieekgihdikdaa.Rd.Rdb.rd false 0 w cs0 d0) (w1 : d1.length ≤ 9223372036854775807 ∧ Go.Proofs.Ytdieekgihdikdaa.Rd.Rows false 0 w u1 d1) (w2 : (Lit.int .i64 a2).wf = true) :
    Calls Try.prog 4 #[.agg cs0.toArray, .slice u1 d1.length c1, .int .i64 a2] w fun e w' => e = .returned (.bool true) ∧ Below w.heap.size w w' :=
  Go.Proofs.Ytdieekgihdikdaa.Rd.lawPowerLoss cs0 d0 u1 c1 d1 a2 w w0 w1 w2

set_option maxRecDepth 100000 in
theorem lifted (os : Os) (started : os.Started) (H : Type) (enc : TypeId × Value → H) :
    ReturnsInHanded {} Try.checked os 4 .any (Rows.fnExactPowerLossSpec.pre6 enc Try.prog Try.f4 Rows.fnExactPowerLossRow.domain false) (Rows.fnExactPowerLossSpec.post enc Try.prog Try.f4 false true false false) := by
  refine returnsInHanded_of_change (C := Try.checked) own started (by kernel_rfl) Try.func4
    (ChangeSpec.witness6 (enc := enc) (C := Try.checked) false ⟨#[], #[.agg #[.slice none 0 0, .slice none 0 0], .slice none 0 0, .int .i64 0], []⟩ 8 (by kernel_rfl) (by kernel_rfl) (by kernel_rfl) (by kernel_rfl)) ?_
  intro W base args ds gs before hval0 hW hcnd _
  have hval : ∀ (j : Nat) t v, Try.f4.params[j]? = some t → args[j]? = some v → Value.okWide Try.prog W .any base t v := hval0
  have hW' := hW
  obtain ⟨p, q, hA0, hV, rfl, hfz, hnd⟩ := hW
  have hA : DataW.TrodAll enc Try.prog W 0 (fun _ => true) true Try.f4.params.toList args.toList ds p := hA0
  rw [Try.params4] at hA hval
  obtain ⟨v0, vs0_, d0, ds0, p0, q0, hargs, rfl, rfl, h0, r0⟩ := trodAll_cons hA
  obtain ⟨v1, vs1_, d1, ds1, p1, q1, rfl, rfl, rfl, h1, r1⟩ := trodAll_cons r0
  obtain ⟨v2, vs2_, d2, ds2, p2, q2, rfl, rfl, rfl, h2, r2⟩ := trodAll_cons r1
  obtain ⟨rfl, rfl, rfl⟩ := trodAll_nil r2
  obtain rfl : args = #[v0, v1, v2] := by cases args; simp_all
  obtain ⟨rfl, rfl⟩ := trodVars_none hV
  have kk0 := h0
  have lt0 : ∀ x ∈ p0, x.block < W.heap.size := by obtain ⟨m, hm⟩ := kk0; exact DataW.trod_lt m _ _ _ hm
  obtain ⟨A0, rfl, hsz0⟩ := okWide_struct Try.underlying31 (hval 0 31 v0 rfl rfl)
  obtain ⟨cs0⟩ := A0
  obtain ⟨fu0, hf0⟩ := h0
  obtain ⟨d0, w0⟩ := (Go.Proofs.Ytdieekgihdikdaa.Rd.opens_Disk Try.underlying31 (by kernel_rfl) ⟨rfl, rfl⟩ (Go.Proofs.Ytdieekgihdikdaa.Rd.opens_slice Try.underlying28 (by kernel_rfl) (by decide) (Go.Proofs.Ytdieekgihdikdaa.Rd.opens_string Try.underlying9 (by kernel_rfl))) (Go.Proofs.Ytdieekgihdikdaa.Rd.opens_slice Try.underlying29 (by kernel_rfl) (by decide) (Go.Proofs.Ytdieekgihdikdaa.Rd.opens_Pending Try.underlying129 (by kernel_rfl) ⟨rfl, rfl⟩ (Go.Proofs.Ytdieekgihdikdaa.Rd.opens_int Try.underlying2 (by kernel_rfl)) (Go.Proofs.Ytdieekgihdikdaa.Rd.opens_string Try.underlying9 (by kernel_rfl))))).2 _ _ _ _ _ _ _ _ hf0
  replace w0 : Go.Proofs.Ytdieekgihdikdaa.Rd.Rdb.rd false 0 W cs0 d0 := w0
  have kk1 := h1
  have lt1 : ∀ x ∈ p1, x.block < W.heap.size := by obtain ⟨m, hm⟩ := kk1; exact DataW.trod_lt m _ _ _ hm
  obtain ⟨fu1, hf1⟩ := h1
  obtain ⟨u1, m1, c1, rfl⟩ := okWide_slice Try.underlying32 (hval 1 32 v1 rfl rfl)
  obtain ⟨d1, hl1, a1, cap1, e1, hr1⟩ := (Go.Proofs.Ytdieekgihdikdaa.Rd.opens_slice Try.underlying32 (by kernel_rfl) (by decide) (Go.Proofs.Ytdieekgihdikdaa.Rd.opens_int Try.underlying2 (by kernel_rfl))).2 _ _ _ _ _ _ _ _ hf1
  have ee1 : u1 = a1 ∧ m1 = d1.length ∧ c1 = cap1 := by simpa [Value.cells] using e1.1
  obtain ⟨rfl, rfl, rfl⟩ := ee1
  have w1 := And.intro hl1 hr1
  obtain ⟨a2, rfl, rfl, rfl, w2⟩ := open_int Try.underlying2 (hval 2 2 v2 rfl rfl) h2
  clear hA0 hval0
  refine (walk cs0 d0 u1 c1 d1 a2 W w0 w1 w2).mono fun e W' ⟨he, bel⟩ => ?_
  subst he
  exact ⟨_, rfl, _, _, _, [], _, [], hW', trodAll_mk1 (shut_bool Try.underlying4 _), (trodAll_cons_mk (Below.trod laidOut (by kernel_rfl) (of_decide_eq_true (by kernel_rfl)) kk0 bel lt0) (trodAll_cons_mk (Below.trod laidOut (by kernel_rfl) (of_decide_eq_true (by kernel_rfl)) kk1 bel lt1) (trodAll_cons_mk (shut_int Try.underlying2 w2) trodAll_mk0))), rfl, bel.frame _, fun h => by cases h⟩

theorem over : Rows.fnExactPowerLossRow.holds Try.pinned (OpenSpec.ofChange Rows.fnExactPowerLossSpec) :=
  OpenClaim.holds_of_wide 4 Try.f4 rfl rfl rfl rfl rfl rfl rfl ⟨rfl, rfl, rfl, rfl, rfl⟩ rfl rfl rfl rfl rfl (by kernel_rfl) Try.func4 (by kernel_rfl)
    (of_decide_eq_true (by kernel_rfl)) (by unfold Func.isWrapper; first | (rw [if_pos (by decide +kernel)]; kernel_rfl) | (rw [if_neg (by decide +kernel)]; exact ⟨rfl, rfl⟩))
    (fun os started H enc _ => lifted os started H enc)

theorem proved : Rows.FnExactPowerLossSaid := over
end Go.Proofs.Ytdieekgihdikdaa.fnExactPowerLoss
