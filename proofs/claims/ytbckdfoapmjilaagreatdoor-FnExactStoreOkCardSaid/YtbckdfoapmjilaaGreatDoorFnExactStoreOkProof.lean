/-
  The law FnExactStoreOk at this commit: called with any arguments it returns true and writes to nothing that was there. No condition.
-/
import Derived.Test.YtbckdfoapmjilaaGreatDoorRows
import Derived.Test.YtbckdfoapmjilaaGreatDoorLawStoreOk
import Derived.Test.YtbckdfoapmjilaaGreatDoorTie
import Derived.Test.YtbckdfoapmjilaaGreatDoorCards
import Derived.Test.YtbckdfoapmjilaaGreatDoorTied
import Derived.Lay
import Derived.LaidMore
import Derived.SevenTiedAt
import Derived.WalkKit
import Derived.ProofKit
import Derived.OpenShut
import Derived.ShutString
import Derived.Below
import Derived.Carry
import Derived.Lib.SmallJoins
namespace Go.Proofs.YtbckdfoapmjilaaGreatDoor.fnExactStoreOk
open Go.ChangeShapes Go.WideShapes Go.ChangeAt Go.RowKit
open Go.ChangeMaps (open_string shut_string)
set_option linter.unusedVariables false

theorem own : ownKnob Tryz.prog.godebug = none := by kernel_rfl
theorem laidOut : laidOutB Tryz.prog = true := by kernel_rfl

theorem walk (cs0 : List Value) (d0 : Go.Proofs.YtbckdfoapmjilaaGreatDoor.Rd.DStore) (w : World) (w0 : Go.Proofs.YtbckdfoapmjilaaGreatDoor.Rd.Rdb.rd false 0 w cs0 d0) (hT : Go.Proofs.YtbckdfoapmjilaaGreatDoor.Nam.Tabs w) :
    Calls Tryz.prog 6 #[.agg cs0.toArray] w fun e w' => e = .returned (.bool true) ∧ Below w.heap.size w w' :=
  Go.Proofs.YtbckdfoapmjilaaGreatDoor.Rd.lawStoreOk cs0 d0 w w0 hT

def laidL : List (String × DataW Unit) := [("unicode/utf8.acceptRanges", Rows.laid_unicode_utf8_acceptRanges), ("unicode/utf8.first", Rows.laid_unicode_utf8_first)]
set_option maxRecDepth 100000 in
theorem lifted (os : Os) (started : os.Started) (H : Type) (enc : TypeId × Value → H) :
    ReturnsInHanded {} Tryz.checked os 6 .any (fun w args => (Rows.fnExactStoreOkSpec.pre enc Tryz.prog Tryz.f6 [] false w args ∧ laidMetH Tryz.prog laidL w) ∧ sizedMet enc Tryz.prog Tryz.f6 (OpenSpec.ofChange Rows.fnExactStoreOkSpec) false w args)
      (Rows.fnExactStoreOkSpec.post enc Tryz.prog Tryz.f6 false true false false) := by
  refine returnsInHanded_of_change_and (C := Tryz.checked) (X := fun w _ => laidMetH Tryz.prog laidL w) (fun _ _ _ hh h => h.of_heap hh) own started (by kernel_rfl) Tryz.func6
    (ChangeSpec.witness_shaped (enc := enc) (C := Tryz.checked) (os := os) (X := fun w _ => laidMetH Tryz.prog laidL w) false (World.laidAll Tryz.prog os laidL) #[.agg #[.slice none 0 0, .slice none 0 0]] 8 (World.laidAll_os _ _ _)
      (World.shaped_of_ZipB (by kernel_rfl) (by kernel_rfl)) (by kernel_rfl) (by kernel_rfl) (by kernel_rfl)
      (by rw [MakeChecks.laidMetH_plain _ _ _ (by kernel_rfl)]; exact laidMet_laidAll _ (by kernel_rfl) (by kernel_rfl))) ?_
  intro W base args ds gs before hval0 hW _ _ hL _
  have hval : ∀ (j : Nat) t v, Tryz.f6.params[j]? = some t → args[j]? = some v → Value.okWide Tryz.prog W .any base t v := hval0
  have hW' := hW
  obtain ⟨p, q, hA0, hV, rfl, hfz, hnd⟩ := hW
  have hA : DataW.TrodAll enc Tryz.prog W 0 (fun _ => true) true Tryz.f6.params.toList args.toList ds p := hA0
  rw [Tryz.params6] at hA hval
  obtain ⟨v0, vs0_, d0, ds0, p0, q0, hargs, rfl, rfl, h0, r0⟩ := trodAll_cons hA
  obtain ⟨rfl, rfl, rfl⟩ := trodAll_nil r0
  obtain rfl : args = #[v0] := by cases args; simp_all
  obtain ⟨rfl, rfl⟩ := trodVars_none hV
  have kk0 := h0
  have lt0 : ∀ x ∈ p0, x.block < W.heap.size := by obtain ⟨m, hm⟩ := kk0; exact DataW.trod_lt m _ _ _ hm
  obtain ⟨A0, rfl, hsz0⟩ := okWide_struct Tryz.underlying56 (hval 0 56 v0 rfl rfl)
  obtain ⟨cs0⟩ := A0
  obtain ⟨fu0, hf0⟩ := h0
  obtain ⟨d0, w0⟩ := (Go.Proofs.YtbckdfoapmjilaaGreatDoor.Rd.opens_Store Tryz.underlying56 (by kernel_rfl) ⟨rfl, rfl⟩ (Go.Proofs.YtbckdfoapmjilaaGreatDoor.Rd.opens_slice Tryz.underlying54 (by kernel_rfl) (by decide) (Go.Proofs.YtbckdfoapmjilaaGreatDoor.Rd.opens_PgState Tryz.underlying31 (by kernel_rfl) ⟨rfl, rfl, rfl, rfl, rfl, rfl, rfl, rfl, rfl⟩ (Go.Proofs.YtbckdfoapmjilaaGreatDoor.Rd.opens_Pg Tryz.underlying23 (by kernel_rfl) ⟨rfl, rfl⟩ (Go.Proofs.YtbckdfoapmjilaaGreatDoor.Rd.opens_int Tryz.underlying2 (by kernel_rfl)) (Go.Proofs.YtbckdfoapmjilaaGreatDoor.Rd.opens_int Tryz.underlying2 (by kernel_rfl))) (Go.Proofs.YtbckdfoapmjilaaGreatDoor.Rd.opens_int Tryz.underlying2 (by kernel_rfl)) (Go.Proofs.YtbckdfoapmjilaaGreatDoor.Rd.opens_int Tryz.underlying2 (by kernel_rfl)) (Go.Proofs.YtbckdfoapmjilaaGreatDoor.Rd.opens_Ver Tryz.underlying25 (by kernel_rfl) ⟨rfl, rfl⟩ (Go.Proofs.YtbckdfoapmjilaaGreatDoor.Rd.opens_int Tryz.underlying2 (by kernel_rfl)) (Go.Proofs.YtbckdfoapmjilaaGreatDoor.Rd.opens_int Tryz.underlying2 (by kernel_rfl))) (Go.Proofs.YtbckdfoapmjilaaGreatDoor.Rd.opens_slice Tryz.underlying26 (by kernel_rfl) (by decide) (Go.Proofs.YtbckdfoapmjilaaGreatDoor.Rd.opens_Head Tryz.underlying97 (by kernel_rfl) ⟨rfl, rfl, rfl, rfl⟩ (Go.Proofs.YtbckdfoapmjilaaGreatDoor.Rd.opens_string Tryz.underlying9 (by kernel_rfl)) (Go.Proofs.YtbckdfoapmjilaaGreatDoor.Rd.opens_Ver Tryz.underlying25 (by kernel_rfl) ⟨rfl, rfl⟩ (Go.Proofs.YtbckdfoapmjilaaGreatDoor.Rd.opens_int Tryz.underlying2 (by kernel_rfl)) (Go.Proofs.YtbckdfoapmjilaaGreatDoor.Rd.opens_int Tryz.underlying2 (by kernel_rfl))) (Go.Proofs.YtbckdfoapmjilaaGreatDoor.Rd.opens_int Tryz.underlying2 (by kernel_rfl)) (Go.Proofs.YtbckdfoapmjilaaGreatDoor.Rd.opens_int Tryz.underlying2 (by kernel_rfl)))) (Go.Proofs.YtbckdfoapmjilaaGreatDoor.Rd.opens_slice Tryz.underlying27 (by kernel_rfl) (by decide) (Go.Proofs.YtbckdfoapmjilaaGreatDoor.Rd.opens_Last Tryz.underlying121 (by kernel_rfl) ⟨rfl, rfl, rfl⟩ (Go.Proofs.YtbckdfoapmjilaaGreatDoor.Rd.opens_int Tryz.underlying2 (by kernel_rfl)) (Go.Proofs.YtbckdfoapmjilaaGreatDoor.Rd.opens_int Tryz.underlying2 (by kernel_rfl)) (Go.Proofs.YtbckdfoapmjilaaGreatDoor.Rd.opens_Ver Tryz.underlying25 (by kernel_rfl) ⟨rfl, rfl⟩ (Go.Proofs.YtbckdfoapmjilaaGreatDoor.Rd.opens_int Tryz.underlying2 (by kernel_rfl)) (Go.Proofs.YtbckdfoapmjilaaGreatDoor.Rd.opens_int Tryz.underlying2 (by kernel_rfl))))) (Go.Proofs.YtbckdfoapmjilaaGreatDoor.Rd.opens_slice Tryz.underlying28 (by kernel_rfl) (by decide) (Go.Proofs.YtbckdfoapmjilaaGreatDoor.Rd.opens_Entry Tryz.underlying102 (by kernel_rfl) ⟨rfl, rfl, rfl, rfl, rfl, rfl, rfl⟩ (Go.Proofs.YtbckdfoapmjilaaGreatDoor.Rd.opens_Ver Tryz.underlying25 (by kernel_rfl) ⟨rfl, rfl⟩ (Go.Proofs.YtbckdfoapmjilaaGreatDoor.Rd.opens_int Tryz.underlying2 (by kernel_rfl)) (Go.Proofs.YtbckdfoapmjilaaGreatDoor.Rd.opens_int Tryz.underlying2 (by kernel_rfl))) (Go.Proofs.YtbckdfoapmjilaaGreatDoor.Rd.opens_Ver Tryz.underlying25 (by kernel_rfl) ⟨rfl, rfl⟩ (Go.Proofs.YtbckdfoapmjilaaGreatDoor.Rd.opens_int Tryz.underlying2 (by kernel_rfl)) (Go.Proofs.YtbckdfoapmjilaaGreatDoor.Rd.opens_int Tryz.underlying2 (by kernel_rfl))) (Go.Proofs.YtbckdfoapmjilaaGreatDoor.Rd.opens_string Tryz.underlying9 (by kernel_rfl)) (Go.Proofs.YtbckdfoapmjilaaGreatDoor.Rd.opens_bool Tryz.underlying4 (by kernel_rfl)) (Go.Proofs.YtbckdfoapmjilaaGreatDoor.Rd.opens_int Tryz.underlying2 (by kernel_rfl)) (Go.Proofs.YtbckdfoapmjilaaGreatDoor.Rd.opens_int Tryz.underlying2 (by kernel_rfl)) (Go.Proofs.YtbckdfoapmjilaaGreatDoor.Rd.opens_Req Tryz.underlying100 (by kernel_rfl) ⟨rfl, rfl⟩ (Go.Proofs.YtbckdfoapmjilaaGreatDoor.Rd.opens_int Tryz.underlying2 (by kernel_rfl)) (Go.Proofs.YtbckdfoapmjilaaGreatDoor.Rd.opens_int Tryz.underlying2 (by kernel_rfl))))) (Go.Proofs.YtbckdfoapmjilaaGreatDoor.Rd.opens_Ver Tryz.underlying25 (by kernel_rfl) ⟨rfl, rfl⟩ (Go.Proofs.YtbckdfoapmjilaaGreatDoor.Rd.opens_int Tryz.underlying2 (by kernel_rfl)) (Go.Proofs.YtbckdfoapmjilaaGreatDoor.Rd.opens_int Tryz.underlying2 (by kernel_rfl))) (Go.Proofs.YtbckdfoapmjilaaGreatDoor.Rd.opens_slice Tryz.underlying29 (by kernel_rfl) (by decide) (Go.Proofs.YtbckdfoapmjilaaGreatDoor.Rd.opens_Chunk Tryz.underlying105 (by kernel_rfl) ⟨rfl, rfl, rfl, rfl, rfl⟩ (Go.Proofs.YtbckdfoapmjilaaGreatDoor.Rd.opens_string Tryz.underlying9 (by kernel_rfl)) (Go.Proofs.YtbckdfoapmjilaaGreatDoor.Rd.opens_Ver Tryz.underlying25 (by kernel_rfl) ⟨rfl, rfl⟩ (Go.Proofs.YtbckdfoapmjilaaGreatDoor.Rd.opens_int Tryz.underlying2 (by kernel_rfl)) (Go.Proofs.YtbckdfoapmjilaaGreatDoor.Rd.opens_int Tryz.underlying2 (by kernel_rfl))) (Go.Proofs.YtbckdfoapmjilaaGreatDoor.Rd.opens_int Tryz.underlying2 (by kernel_rfl)) (Go.Proofs.YtbckdfoapmjilaaGreatDoor.Rd.opens_int Tryz.underlying2 (by kernel_rfl)) (Go.Proofs.YtbckdfoapmjilaaGreatDoor.Rd.opens_string Tryz.underlying9 (by kernel_rfl)))))) (Go.Proofs.YtbckdfoapmjilaaGreatDoor.Rd.opens_slice Tryz.underlying54 (by kernel_rfl) (by decide) (Go.Proofs.YtbckdfoapmjilaaGreatDoor.Rd.opens_PgState Tryz.underlying31 (by kernel_rfl) ⟨rfl, rfl, rfl, rfl, rfl, rfl, rfl, rfl, rfl⟩ (Go.Proofs.YtbckdfoapmjilaaGreatDoor.Rd.opens_Pg Tryz.underlying23 (by kernel_rfl) ⟨rfl, rfl⟩ (Go.Proofs.YtbckdfoapmjilaaGreatDoor.Rd.opens_int Tryz.underlying2 (by kernel_rfl)) (Go.Proofs.YtbckdfoapmjilaaGreatDoor.Rd.opens_int Tryz.underlying2 (by kernel_rfl))) (Go.Proofs.YtbckdfoapmjilaaGreatDoor.Rd.opens_int Tryz.underlying2 (by kernel_rfl)) (Go.Proofs.YtbckdfoapmjilaaGreatDoor.Rd.opens_int Tryz.underlying2 (by kernel_rfl)) (Go.Proofs.YtbckdfoapmjilaaGreatDoor.Rd.opens_Ver Tryz.underlying25 (by kernel_rfl) ⟨rfl, rfl⟩ (Go.Proofs.YtbckdfoapmjilaaGreatDoor.Rd.opens_int Tryz.underlying2 (by kernel_rfl)) (Go.Proofs.YtbckdfoapmjilaaGreatDoor.Rd.opens_int Tryz.underlying2 (by kernel_rfl))) (Go.Proofs.YtbckdfoapmjilaaGreatDoor.Rd.opens_slice Tryz.underlying26 (by kernel_rfl) (by decide) (Go.Proofs.YtbckdfoapmjilaaGreatDoor.Rd.opens_Head Tryz.underlying97 (by kernel_rfl) ⟨rfl, rfl, rfl, rfl⟩ (Go.Proofs.YtbckdfoapmjilaaGreatDoor.Rd.opens_string Tryz.underlying9 (by kernel_rfl)) (Go.Proofs.YtbckdfoapmjilaaGreatDoor.Rd.opens_Ver Tryz.underlying25 (by kernel_rfl) ⟨rfl, rfl⟩ (Go.Proofs.YtbckdfoapmjilaaGreatDoor.Rd.opens_int Tryz.underlying2 (by kernel_rfl)) (Go.Proofs.YtbckdfoapmjilaaGreatDoor.Rd.opens_int Tryz.underlying2 (by kernel_rfl))) (Go.Proofs.YtbckdfoapmjilaaGreatDoor.Rd.opens_int Tryz.underlying2 (by kernel_rfl)) (Go.Proofs.YtbckdfoapmjilaaGreatDoor.Rd.opens_int Tryz.underlying2 (by kernel_rfl)))) (Go.Proofs.YtbckdfoapmjilaaGreatDoor.Rd.opens_slice Tryz.underlying27 (by kernel_rfl) (by decide) (Go.Proofs.YtbckdfoapmjilaaGreatDoor.Rd.opens_Last Tryz.underlying121 (by kernel_rfl) ⟨rfl, rfl, rfl⟩ (Go.Proofs.YtbckdfoapmjilaaGreatDoor.Rd.opens_int Tryz.underlying2 (by kernel_rfl)) (Go.Proofs.YtbckdfoapmjilaaGreatDoor.Rd.opens_int Tryz.underlying2 (by kernel_rfl)) (Go.Proofs.YtbckdfoapmjilaaGreatDoor.Rd.opens_Ver Tryz.underlying25 (by kernel_rfl) ⟨rfl, rfl⟩ (Go.Proofs.YtbckdfoapmjilaaGreatDoor.Rd.opens_int Tryz.underlying2 (by kernel_rfl)) (Go.Proofs.YtbckdfoapmjilaaGreatDoor.Rd.opens_int Tryz.underlying2 (by kernel_rfl))))) (Go.Proofs.YtbckdfoapmjilaaGreatDoor.Rd.opens_slice Tryz.underlying28 (by kernel_rfl) (by decide) (Go.Proofs.YtbckdfoapmjilaaGreatDoor.Rd.opens_Entry Tryz.underlying102 (by kernel_rfl) ⟨rfl, rfl, rfl, rfl, rfl, rfl, rfl⟩ (Go.Proofs.YtbckdfoapmjilaaGreatDoor.Rd.opens_Ver Tryz.underlying25 (by kernel_rfl) ⟨rfl, rfl⟩ (Go.Proofs.YtbckdfoapmjilaaGreatDoor.Rd.opens_int Tryz.underlying2 (by kernel_rfl)) (Go.Proofs.YtbckdfoapmjilaaGreatDoor.Rd.opens_int Tryz.underlying2 (by kernel_rfl))) (Go.Proofs.YtbckdfoapmjilaaGreatDoor.Rd.opens_Ver Tryz.underlying25 (by kernel_rfl) ⟨rfl, rfl⟩ (Go.Proofs.YtbckdfoapmjilaaGreatDoor.Rd.opens_int Tryz.underlying2 (by kernel_rfl)) (Go.Proofs.YtbckdfoapmjilaaGreatDoor.Rd.opens_int Tryz.underlying2 (by kernel_rfl))) (Go.Proofs.YtbckdfoapmjilaaGreatDoor.Rd.opens_string Tryz.underlying9 (by kernel_rfl)) (Go.Proofs.YtbckdfoapmjilaaGreatDoor.Rd.opens_bool Tryz.underlying4 (by kernel_rfl)) (Go.Proofs.YtbckdfoapmjilaaGreatDoor.Rd.opens_int Tryz.underlying2 (by kernel_rfl)) (Go.Proofs.YtbckdfoapmjilaaGreatDoor.Rd.opens_int Tryz.underlying2 (by kernel_rfl)) (Go.Proofs.YtbckdfoapmjilaaGreatDoor.Rd.opens_Req Tryz.underlying100 (by kernel_rfl) ⟨rfl, rfl⟩ (Go.Proofs.YtbckdfoapmjilaaGreatDoor.Rd.opens_int Tryz.underlying2 (by kernel_rfl)) (Go.Proofs.YtbckdfoapmjilaaGreatDoor.Rd.opens_int Tryz.underlying2 (by kernel_rfl))))) (Go.Proofs.YtbckdfoapmjilaaGreatDoor.Rd.opens_Ver Tryz.underlying25 (by kernel_rfl) ⟨rfl, rfl⟩ (Go.Proofs.YtbckdfoapmjilaaGreatDoor.Rd.opens_int Tryz.underlying2 (by kernel_rfl)) (Go.Proofs.YtbckdfoapmjilaaGreatDoor.Rd.opens_int Tryz.underlying2 (by kernel_rfl))) (Go.Proofs.YtbckdfoapmjilaaGreatDoor.Rd.opens_slice Tryz.underlying29 (by kernel_rfl) (by decide) (Go.Proofs.YtbckdfoapmjilaaGreatDoor.Rd.opens_Chunk Tryz.underlying105 (by kernel_rfl) ⟨rfl, rfl, rfl, rfl, rfl⟩ (Go.Proofs.YtbckdfoapmjilaaGreatDoor.Rd.opens_string Tryz.underlying9 (by kernel_rfl)) (Go.Proofs.YtbckdfoapmjilaaGreatDoor.Rd.opens_Ver Tryz.underlying25 (by kernel_rfl) ⟨rfl, rfl⟩ (Go.Proofs.YtbckdfoapmjilaaGreatDoor.Rd.opens_int Tryz.underlying2 (by kernel_rfl)) (Go.Proofs.YtbckdfoapmjilaaGreatDoor.Rd.opens_int Tryz.underlying2 (by kernel_rfl))) (Go.Proofs.YtbckdfoapmjilaaGreatDoor.Rd.opens_int Tryz.underlying2 (by kernel_rfl)) (Go.Proofs.YtbckdfoapmjilaaGreatDoor.Rd.opens_int Tryz.underlying2 (by kernel_rfl)) (Go.Proofs.YtbckdfoapmjilaaGreatDoor.Rd.opens_string Tryz.underlying9 (by kernel_rfl))))))).2 _ _ _ _ _ _ _ _ hf0
  replace w0 : Go.Proofs.YtbckdfoapmjilaaGreatDoor.Rd.Rdb.rd false 0 W cs0 d0 := w0
  clear hA0 hval0
  have hT : Go.Proofs.YtbckdfoapmjilaaGreatDoor.Nam.Tabs W := Go.Proofs.YtbckdfoapmjilaaGreatDoor.Nam.tabs_of_laid hL
  refine (walk cs0 d0 W w0 hT).mono fun e W' ⟨he, bel⟩ => ?_
  subst he
  exact ⟨_, rfl, _, _, _, [], _, [], hW', trodAll_mk1 (shut_bool Tryz.underlying4 _), (trodAll_cons_mk (Below.trod laidOut (by kernel_rfl) (of_decide_eq_true (by kernel_rfl)) kk0 bel lt0) trodAll_mk0), rfl, bel.frame _, fun h => by cases h⟩

theorem both {x y : Bool} (h : x = true) (k : y = true) : (x && y) = true := by rw [h, k]; rfl
theorem k0 : (Rows.fnExactStoreOkRow.wf (OpenSpec.ofChange Rows.fnExactStoreOkSpec)) = true := by kernel_rfl
theorem k1 : (laidOutB Tryz.prog) = true := by kernel_rfl
theorem k2 : (mapsRowed Tryz.prog) = true := by kernel_rfl
theorem k3 : (Tryz.f6.params.all (Tryz.prog.readableRec ·)) = true := by kernel_rfl
theorem k4 : (namedTie Tryz.prog Rows.fnExactStoreOkRow.named Rows.fnExactStoreOkSpec.vars) = true := by kernel_rfl
theorem k5 : ((Rows.fnExactStoreOkRow.stops == [])) = true := by kernel_rfl
theorem k6 : ((Tryz.prog.stops == [])) = true := by kernel_rfl
theorem k7 : ((Rows.fnExactStoreOkRow.knobs == [])) = true := by kernel_rfl
theorem k8 : ((Tryz.prog.stopKnobs == [])) = true := by kernel_rfl
theorem k9 : ((Rows.fnExactStoreOkRow.inPlace == Tryz.prog.inPlace 6)) = true := by kernel_rfl
theorem k10 : ((Rows.fnExactStoreOkRow.unfollowed == Tryz.prog.unfollowed 6)) = true := by kernel_rfl
theorem k11 : ((Rows.fnExactStoreOkRow.recurses == Tryz.prog.recurses 6)) = true := by kernel_rfl
theorem k12 : ((Rows.fnExactStoreOkRow.named == Tryz.prog.varsNamed 6)) = true := by kernel_rfl
theorem k13 : ((Rows.fnExactStoreOkRow.maps == (Tryz.f6.params.toList ++ Rows.fnExactStoreOkSpec.plain.varTypes Tryz.prog).any (Tryz.prog.mapsRec ·))) = true := by kernel_rfl
theorem k14 : ((Rows.fnExactStoreOkRow.ifaces == (Tryz.f6.params.toList ++ Rows.fnExactStoreOkSpec.plain.varTypes Tryz.prog).any (Tryz.prog.ifacesRec ·))) = true := by kernel_rfl
theorem k15 : ((Rows.fnExactStoreOkRow.mapsOut == Tryz.prog.mapsAmong Tryz.f6.resultTypes.toList)) = true := by kernel_rfl
theorem k16 : ((Rows.fnExactStoreOkRow.loops == (Tryz.f6.params.toList ++ Rows.fnExactStoreOkSpec.plain.varTypes Tryz.prog).any (Tryz.prog.loopsFrom ·))) = true := by kernel_rfl
theorem k17 : ((Rows.fnExactStoreOkRow.wideKeys == (Tryz.f6.params.toList ++ Rows.fnExactStoreOkSpec.plain.varTypes Tryz.prog ++ Tryz.f6.resultTypes.toList).any (Tryz.prog.wideKeysFrom ·))) = true := by kernel_rfl
theorem k18 : (Rows.fnExactStoreOkSpec.vars.all (Tryz.prog.varReadable ·)) = true := by kernel_rfl
theorem k19 : (Tryz.f6.resultTypes.all (fun t => Tryz.prog.readableRec t && decide (t < Tryz.prog.types.size))) = true := by kernel_rfl
theorem k20 : ((Rows.fnExactStoreOkRow.ifacesOut == Tryz.f6.resultTypes.toList.any (Tryz.prog.ifacesRec ·))) = true := by kernel_rfl
theorem k21 : ((Rows.fnExactStoreOkRow.loopsOut == Tryz.f6.resultTypes.toList.any (Tryz.prog.loopsFrom ·))) = true := by kernel_rfl
theorem k22 : ((Rows.fnExactStoreOkRow.plainKeys == Tryz.prog.plainKeys)) = true := by kernel_rfl
theorem k23 : (Rows.fnExactStoreOkRow.shortTexts.isNone) = true := by kernel_rfl
theorem k24 : (Tryz.prog.stopsHeard) = true := by kernel_rfl
theorem k25 : (Tryz.prog.mayEnter) = true := by kernel_rfl
theorem k26 : ((Rows.fnExactStoreOkRow.lifted == Tryz.prog.liftsFinal)) = true := by kernel_rfl
theorem k27 : ((Tryz.prog.make == some Rows.fnExactStoreOkRow.make)) = true := by kernel_rfl
theorem k28 : ((Rows.fnExactStoreOkRow.kinds == (if Rows.fnExactStoreOkRow.domain.isEmpty then [] else Tryz.f6.params.toList.map fun t => match Tryz.prog.underlying t with | some (.int k) => some k | _ => none))) = true := by kernel_rfl
theorem k29 : ((Rows.fnExactStoreOkRow.pinned == Rows.fnExactStoreOkRow.pinnedBy)) = true := by kernel_rfl
theorem k30 : ((Rows.fnExactStoreOkRow.veiled == (Tryz.f6.params.toList ++ Rows.fnExactStoreOkSpec.plain.varTypes Tryz.prog ++ Tryz.f6.resultTypes.toList).any (Tryz.prog.veiledRec ·))) = true := by kernel_rfl
theorem k31 : (Rows.fnExactStoreOkRow.veiledFits Tryz.prog Tryz.f6.params.toList (Tryz.f6.params.toList ++ Rows.fnExactStoreOkSpec.plain.varTypes Tryz.prog ++ Tryz.f6.resultTypes.toList)) = true := by kernel_rfl
set_option maxRecDepth 1000000 in
theorem closed : joinedFacts Tryz.prog 6 Tryz.f6 Rows.fnExactStoreOkSpec Rows.fnExactStoreOkRow = true := by
  unfold joinedFacts
  exact both (both (both (both (both (both (both (both (both (both (both (both (both (both (both (both (both (both (both (both (both (both (both (both (both (both (both (both (both (both (both (k0) k1) k2) k3) k4) k5) k6) k7) k8) k9) k10) k11) k12) k13) k14) k15) k16) k17) k18) k19) k20) k21) k22) k23) k24) k25) k26) k27) k28) k29) k30) k31
theorem wfT : Rows.fnExactStoreOkRow.wfByText (OpenSpec.ofChange Rows.fnExactStoreOkSpec) = true := by kernel_rfl
theorem mainT : Tryz.prog.mainIs = some ((true, "0f0d2b6aefb55b658107b33128b0b216fc7ba2040ca1c48517a0b7f96a6c0b34").1, (true, "0f0d2b6aefb55b658107b33128b0b216fc7ba2040ca1c48517a0b7f96a6c0b34").2.toList) := by kernel_rfl
theorem looksT : false = Tryz.prog.looks [] := by kernel_rfl
theorem goesT : false = Rows.fnExactStoreOkRow.goesBy Tryz.prog := by kernel_rfl
theorem namedT : Tryz.prog.funcNamed "loop.example/g00849/laws.FnExactStoreOk" = some 6 := by kernel_rfl
theorem instT : (decide (Tryz.f6.isInstance Tryz.prog Rows.fnExactStoreOkRow.origin Rows.fnExactStoreOkRow.targs)) = true := by kernel_rfl
theorem over : Rows.fnExactStoreOkRow.holds Tryz.pinned (OpenSpec.ofChange Rows.fnExactStoreOkSpec) :=
  OpenClaim.holds_of_wide 6 Tryz.f6 rfl rfl rfl rfl rfl rfl rfl ⟨rfl, rfl, rfl, rfl, rfl⟩ rfl rfl rfl rfl rfl namedT Tryz.func6 closed
    (of_decide_eq_true instT) (by unfold Func.isWrapper; first | (rw [if_pos (by decide +kernel)]; kernel_rfl) | (rw [if_neg (by decide +kernel)]; exact ⟨rfl, rfl⟩))
    (fun os started H enc _ => lifted os started H enc)

theorem proved : Rows.FnExactStoreOkCardSaid :=
  Claim7.holds_tied_plain_at .later [] [.data, .pinned] true (true, "0f0d2b6aefb55b658107b33128b0b216fc7ba2040ca1c48517a0b7f96a6c0b34") false
    over (fun _ h => by cases h) wfT (fun _ h => by cases h) fnExactStoreOk_row_tie rfl ⟨rfl, rfl⟩ mainT rfl
    (fun f fn hf hfn => by
      obtain rfl : f = 6 := Option.some.inj ((show Tryz.prog.funcNamed "loop.example/g00849/laws.FnExactStoreOk" = some 6 from namedT).symm.trans hf) |>.symm
      obtain rfl : fn = Tryz.f6 := (Option.some.inj (Tryz.func6.symm.trans hfn)).symm
      exact ⟨looksT, fun j t ht => by
        rw [Tryz.params6] at ht
        have hm : t ∈ [56] := by simpa using Array.mem_of_getElem? ht
        have hall : ([56].all fun u => !Tryz.prog.wantsStandIn u) = true := by kernel_rfl
        exact (show Tryz.prog.wantsStandIn t = false by simpa using List.all_eq_true.1 hall t hm)⟩)
    goesT
end Go.Proofs.YtbckdfoapmjilaaGreatDoor.fnExactStoreOk
