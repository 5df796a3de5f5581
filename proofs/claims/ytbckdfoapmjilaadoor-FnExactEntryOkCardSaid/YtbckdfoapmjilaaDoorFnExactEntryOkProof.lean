/-
  The law FnExactEntryOk at this commit: called with any arguments it returns true and writes to nothing that was there. No condition.
-/
import Derived.Test.YtbckdfoapmjilaaDoorRows
import Derived.Test.YtbckdfoapmjilaaDoorLawEntryOk
import Derived.Test.YtbckdfoapmjilaaDoorTie
import Derived.Test.YtbckdfoapmjilaaDoorCards
import Derived.Test.YtbckdfoapmjilaaDoorTied
import Derived.Lay
import Derived.LaidMore
import Derived.SevenTiedAt
import Derived.WalkKit
import Derived.ProofKit
import Derived.OpenShut
import Derived.ShutString
import Derived.Below
import Derived.Carry
import Derived.Lib.SmallJoins
namespace Go.Proofs.YtbckdfoapmjilaaDoor.fnExactEntryOk
open Go.ChangeShapes Go.WideShapes Go.ChangeAt Go.RowKit
open Go.ChangeMaps (open_string shut_string)
set_option linter.unusedVariables false

theorem own : ownKnob Tryd.prog.godebug = none := by kernel_rfl
theorem laidOut : laidOutB Tryd.prog = true := by kernel_rfl

theorem walk (cs0 : List Value) (d0 : Go.Proofs.YtbckdfoapmjilaaDoor.Rd.DEntry) (w : World) (w0 : Go.Proofs.YtbckdfoapmjilaaDoor.Rd.Rdb.rd false 0 w cs0 d0) (hT : Go.Proofs.YtbckdfoapmjilaaDoor.Nam.Tabs w) :
    Calls Tryd.prog 3 #[.agg cs0.toArray] w fun e w' => e = .returned (.bool true) ∧ Below w.heap.size w w' :=
  Go.Proofs.YtbckdfoapmjilaaDoor.Rd.lawEntryOk cs0 d0 w w0 hT

def laidL : List (String × DataW Unit) := [("unicode/utf8.acceptRanges", Rows.laid_unicode_utf8_acceptRanges), ("unicode/utf8.first", Rows.laid_unicode_utf8_first)]
set_option maxRecDepth 100000 in
theorem lifted (os : Os) (started : os.Started) (H : Type) (enc : TypeId × Value → H) :
    ReturnsInHanded {} Tryd.checked os 3 .any (fun w args => (Rows.fnExactEntryOkSpec.pre enc Tryd.prog Tryd.f3 [] false w args ∧ laidMetH Tryd.prog laidL w) ∧ sizedMet enc Tryd.prog Tryd.f3 (OpenSpec.ofChange Rows.fnExactEntryOkSpec) false w args)
      (Rows.fnExactEntryOkSpec.post enc Tryd.prog Tryd.f3 false true false false) := by
  refine returnsInHanded_of_change_and (C := Tryd.checked) (X := fun w _ => laidMetH Tryd.prog laidL w) (fun _ _ _ hh h => h.of_heap hh) own started (by kernel_rfl) Tryd.func3
    (ChangeSpec.witness_shaped (enc := enc) (C := Tryd.checked) (os := os) (X := fun w _ => laidMetH Tryd.prog laidL w) false (World.laidAll Tryd.prog os laidL) #[.agg #[.int .i64 0, .int .i64 0, .int .i64 0, .int .i64 0, .string ByteArray.empty, .bool false, .int .i64 0, .int .i64 0, .int .i64 0, .int .i64 0]] 8 (World.laidAll_os _ _ _)
      (World.shaped_of_ZipB (by kernel_rfl) (by kernel_rfl)) (by kernel_rfl) (by kernel_rfl) (by kernel_rfl)
      (by rw [MakeChecks.laidMetH_plain _ _ _ (by kernel_rfl)]; exact laidMet_laidAll _ (by kernel_rfl) (by kernel_rfl))) ?_
  intro W base args ds gs before hval0 hW _ _ hL _
  have hval : ∀ (j : Nat) t v, Tryd.f3.params[j]? = some t → args[j]? = some v → Value.okWide Tryd.prog W .any base t v := hval0
  have hW' := hW
  obtain ⟨p, q, hA0, hV, rfl, hfz, hnd⟩ := hW
  have hA : DataW.TrodAll enc Tryd.prog W 0 (fun _ => true) true Tryd.f3.params.toList args.toList ds p := hA0
  rw [Tryd.params3] at hA hval
  obtain ⟨v0, vs0_, d0, ds0, p0, q0, hargs, rfl, rfl, h0, r0⟩ := trodAll_cons hA
  obtain ⟨rfl, rfl, rfl⟩ := trodAll_nil r0
  obtain rfl : args = #[v0] := by cases args; simp_all
  obtain ⟨rfl, rfl⟩ := trodVars_none hV
  have kk0 := h0
  have lt0 : ∀ x ∈ p0, x.block < W.heap.size := by obtain ⟨m, hm⟩ := kk0; exact DataW.trod_lt m _ _ _ hm
  obtain ⟨A0, rfl, hsz0⟩ := okWide_struct Tryd.underlying27 (hval 0 27 v0 rfl rfl)
  obtain ⟨cs0⟩ := A0
  obtain ⟨fu0, hf0⟩ := h0
  obtain ⟨d0, w0⟩ := (Go.Proofs.YtbckdfoapmjilaaDoor.Rd.opens_Entry Tryd.underlying27 (by kernel_rfl) ⟨rfl, rfl, rfl, rfl, rfl, rfl, rfl⟩ (Go.Proofs.YtbckdfoapmjilaaDoor.Rd.opens_Ver Tryd.underlying23 (by kernel_rfl) ⟨rfl, rfl⟩ (Go.Proofs.YtbckdfoapmjilaaDoor.Rd.opens_int Tryd.underlying2 (by kernel_rfl)) (Go.Proofs.YtbckdfoapmjilaaDoor.Rd.opens_int Tryd.underlying2 (by kernel_rfl))) (Go.Proofs.YtbckdfoapmjilaaDoor.Rd.opens_Ver Tryd.underlying23 (by kernel_rfl) ⟨rfl, rfl⟩ (Go.Proofs.YtbckdfoapmjilaaDoor.Rd.opens_int Tryd.underlying2 (by kernel_rfl)) (Go.Proofs.YtbckdfoapmjilaaDoor.Rd.opens_int Tryd.underlying2 (by kernel_rfl))) (Go.Proofs.YtbckdfoapmjilaaDoor.Rd.opens_string Tryd.underlying9 (by kernel_rfl)) (Go.Proofs.YtbckdfoapmjilaaDoor.Rd.opens_bool Tryd.underlying4 (by kernel_rfl)) (Go.Proofs.YtbckdfoapmjilaaDoor.Rd.opens_int Tryd.underlying2 (by kernel_rfl)) (Go.Proofs.YtbckdfoapmjilaaDoor.Rd.opens_int Tryd.underlying2 (by kernel_rfl)) (Go.Proofs.YtbckdfoapmjilaaDoor.Rd.opens_Req Tryd.underlying25 (by kernel_rfl) ⟨rfl, rfl⟩ (Go.Proofs.YtbckdfoapmjilaaDoor.Rd.opens_int Tryd.underlying2 (by kernel_rfl)) (Go.Proofs.YtbckdfoapmjilaaDoor.Rd.opens_int Tryd.underlying2 (by kernel_rfl)))).2 _ _ _ _ _ _ _ _ hf0
  replace w0 : Go.Proofs.YtbckdfoapmjilaaDoor.Rd.Rdb.rd false 0 W cs0 d0 := w0
  clear hA0 hval0
  have hT : Go.Proofs.YtbckdfoapmjilaaDoor.Nam.Tabs W := Go.Proofs.YtbckdfoapmjilaaDoor.Nam.tabs_of_laid hL
  refine (walk cs0 d0 W w0 hT).mono fun e W' ⟨he, bel⟩ => ?_
  subst he
  exact ⟨_, rfl, _, _, _, [], _, [], hW', trodAll_mk1 (shut_bool Tryd.underlying4 _), (trodAll_cons_mk (Below.trod laidOut (by kernel_rfl) (of_decide_eq_true (by kernel_rfl)) kk0 bel lt0) trodAll_mk0), rfl, bel.frame _, fun h => by cases h⟩

theorem over : Rows.fnExactEntryOkRow.holds Tryd.pinned (OpenSpec.ofChange Rows.fnExactEntryOkSpec) :=
  OpenClaim.holds_of_wide 3 Tryd.f3 rfl rfl rfl rfl rfl rfl rfl ⟨rfl, rfl, rfl, rfl, rfl⟩ rfl rfl rfl rfl rfl (by kernel_rfl) Tryd.func3 (by kernel_rfl)
    (of_decide_eq_true (by kernel_rfl)) (by unfold Func.isWrapper; first | (rw [if_pos (by decide +kernel)]; kernel_rfl) | (rw [if_neg (by decide +kernel)]; exact ⟨rfl, rfl⟩))
    (fun os started H enc _ => lifted os started H enc)

theorem proved : Rows.FnExactEntryOkCardSaid :=
  Claim7.holds_tied_plain_at .later [] [.data, .pinned] true (true, "8116992f4a4feb13d5d63ff98faf97d8dd5f68af50a15db55f64169395d747b7") false
    over (fun _ h => by cases h) (by kernel_rfl) (fun _ h => by cases h) fnExactEntryOk_row_tie rfl ⟨rfl, rfl⟩ (by kernel_rfl) rfl
    (fun f fn hf hfn => by
      obtain rfl : f = 3 := Option.some.inj ((show Tryd.prog.funcNamed "loop.example/g00849/laws.FnExactEntryOk" = some 3 by kernel_rfl).symm.trans hf) |>.symm
      obtain rfl : fn = Tryd.f3 := (Option.some.inj (Tryd.func3.symm.trans hfn)).symm
      exact ⟨by kernel_rfl, fun j t ht => by
        rw [Tryd.params3] at ht
        have hm : t ∈ [27] := by simpa using Array.mem_of_getElem? ht
        have hall : ([27].all fun u => !Tryd.prog.wantsStandIn u) = true := by kernel_rfl
        exact (show Tryd.prog.wantsStandIn t = false by simpa using List.all_eq_true.1 hall t hm)⟩)
    (by kernel_rfl)
end Go.Proofs.YtbckdfoapmjilaaDoor.fnExactEntryOk
