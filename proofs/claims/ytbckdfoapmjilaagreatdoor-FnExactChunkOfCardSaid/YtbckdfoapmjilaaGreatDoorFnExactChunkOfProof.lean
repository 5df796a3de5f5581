/-
  The law FnExactChunkOf at this commit: called with any arguments it returns true and writes to nothing that was there. No condition.
-/
import Derived.Test.YtbckdfoapmjilaaGreatDoorRows
import Derived.Test.YtbckdfoapmjilaaGreatDoorLawChunkOf
import Derived.Test.YtbckdfoapmjilaaGreatDoorTie
import Derived.Test.YtbckdfoapmjilaaGreatDoorCards
import Derived.Test.YtbckdfoapmjilaaGreatDoorTied
import Derived.Lay
import Derived.LaidMore
import Derived.SevenTiedAt
import Derived.WalkKit
import Derived.ProofKit
import Derived.OpenShut
import Derived.ShutString
import Derived.Below
import Derived.Carry
import Derived.Lib.SmallJoins
namespace Go.Proofs.YtbckdfoapmjilaaGreatDoor.fnExactChunkOf
open Go.ChangeShapes Go.WideShapes Go.ChangeAt Go.RowKit
open Go.ChangeMaps (open_string shut_string)
set_option linter.unusedVariables false

theorem own : ownKnob Tryz.prog.godebug = none := by kernel_rfl
theorem laidOut : laidOutB Tryz.prog = true := by kernel_rfl

theorem walk (cs0 : List Value) (d0 : Go.Proofs.YtbckdfoapmjilaaGreatDoor.Rd.DPgState) (a1 : ByteArray) (cs2 : List Value) (d2 : Go.Proofs.YtbckdfoapmjilaaGreatDoor.Rd.DVer) (a3 : Int) (w : World) (w0 : Go.Proofs.YtbckdfoapmjilaaGreatDoor.Rd.Rdb.rd false 0 w cs0 d0) (w1 : a1.size ≤ maxLen) (w2 : Go.Proofs.YtbckdfoapmjilaaGreatDoor.Rd.Rdb.rd false 0 w cs2 d2) (w3 : (Lit.int .i64 a3).wf = true) (hT : Go.Proofs.YtbckdfoapmjilaaGreatDoor.Nam.Tabs w) :
    Calls Tryz.prog 5 #[.agg cs0.toArray, .string a1, .agg cs2.toArray, .int .i64 a3] w fun e w' => e = .returned (.bool true) ∧ Below w.heap.size w w' :=
  Go.Proofs.YtbckdfoapmjilaaGreatDoor.Rd.lawChunkOf cs0 d0 a1 cs2 d2 a3 w w0 w1 w2 w3 hT

def laidL : List (String × DataW Unit) := [("unicode/utf8.acceptRanges", Rows.laid_unicode_utf8_acceptRanges), ("unicode/utf8.first", Rows.laid_unicode_utf8_first)]
set_option maxRecDepth 100000 in
theorem lifted (os : Os) (started : os.Started) (H : Type) (enc : TypeId × Value → H) :
    ReturnsInHanded {} Tryz.checked os 5 .any (fun w args => (Rows.fnExactChunkOfSpec.pre enc Tryz.prog Tryz.f5 [] false w args ∧ laidMetH Tryz.prog laidL w) ∧ sizedMet enc Tryz.prog Tryz.f5 (OpenSpec.ofChange Rows.fnExactChunkOfSpec) false w args)
      (Rows.fnExactChunkOfSpec.post enc Tryz.prog Tryz.f5 false true false false) := by
  refine returnsInHanded_of_change_and (C := Tryz.checked) (X := fun w _ => laidMetH Tryz.prog laidL w) (fun _ _ _ hh h => h.of_heap hh) own started (by kernel_rfl) Tryz.func5
    (ChangeSpec.witness_shaped (enc := enc) (C := Tryz.checked) (os := os) (X := fun w _ => laidMetH Tryz.prog laidL w) false (World.laidAll Tryz.prog os laidL) #[.agg #[.int .i64 0, .int .i64 0, .int .i64 0, .int .i64 0, .int .i64 0, .int .i64 0, .slice none 0 0, .slice none 0 0, .slice none 0 0, .int .i64 0, .int .i64 0, .slice none 0 0], .string ByteArray.empty, .agg #[.int .i64 0, .int .i64 0], .int .i64 0] 8 (World.laidAll_os _ _ _)
      (World.shaped_of_ZipB (by kernel_rfl) (by kernel_rfl)) (by kernel_rfl) (by kernel_rfl) (by kernel_rfl)
      (by rw [MakeChecks.laidMetH_plain _ _ _ (by kernel_rfl)]; exact laidMet_laidAll _ (by kernel_rfl) (by kernel_rfl))) ?_
  intro W base args ds gs before hval0 hW _ _ hL _
  have hval : ∀ (j : Nat) t v, Tryz.f5.params[j]? = some t → args[j]? = some v → Value.okWide Tryz.prog W .any base t v := hval0
  have hW' := hW
  obtain ⟨p, q, hA0, hV, rfl, hfz, hnd⟩ := hW
  have hA : DataW.TrodAll enc Tryz.prog W 0 (fun _ => true) true Tryz.f5.params.toList args.toList ds p := hA0
  rw [Tryz.params5] at hA hval
  obtain ⟨v0, vs0_, d0, ds0, p0, q0, hargs, rfl, rfl, h0, r0⟩ := trodAll_cons hA
  obtain ⟨v1, vs1_, d1, ds1, p1, q1, rfl, rfl, rfl, h1, r1⟩ := trodAll_cons r0
  obtain ⟨v2, vs2_, d2, ds2, p2, q2, rfl, rfl, rfl, h2, r2⟩ := trodAll_cons r1
  obtain ⟨v3, vs3_, d3, ds3, p3, q3, rfl, rfl, rfl, h3, r3⟩ := trodAll_cons r2
  obtain ⟨rfl, rfl, rfl⟩ := trodAll_nil r3
  obtain rfl : args = #[v0, v1, v2, v3] := by cases args; simp_all
  obtain ⟨rfl, rfl⟩ := trodVars_none hV
  have kk0 := h0
  have lt0 : ∀ x ∈ p0, x.block < W.heap.size := by obtain ⟨m, hm⟩ := kk0; exact DataW.trod_lt m _ _ _ hm
  obtain ⟨A0, rfl, hsz0⟩ := okWide_struct Tryz.underlying31 (hval 0 31 v0 rfl rfl)
  obtain ⟨cs0⟩ := A0
  obtain ⟨fu0, hf0⟩ := h0
  obtain ⟨d0, w0⟩ := (Go.Proofs.YtbckdfoapmjilaaGreatDoor.Rd.opens_PgState Tryz.underlying31 (by kernel_rfl) ⟨rfl, rfl, rfl, rfl, rfl, rfl, rfl, rfl, rfl⟩ (Go.Proofs.YtbckdfoapmjilaaGreatDoor.Rd.opens_Pg Tryz.underlying23 (by kernel_rfl) ⟨rfl, rfl⟩ (Go.Proofs.YtbckdfoapmjilaaGreatDoor.Rd.opens_int Tryz.underlying2 (by kernel_rfl)) (Go.Proofs.YtbckdfoapmjilaaGreatDoor.Rd.opens_int Tryz.underlying2 (by kernel_rfl))) (Go.Proofs.YtbckdfoapmjilaaGreatDoor.Rd.opens_int Tryz.underlying2 (by kernel_rfl)) (Go.Proofs.YtbckdfoapmjilaaGreatDoor.Rd.opens_int Tryz.underlying2 (by kernel_rfl)) (Go.Proofs.YtbckdfoapmjilaaGreatDoor.Rd.opens_Ver Tryz.underlying25 (by kernel_rfl) ⟨rfl, rfl⟩ (Go.Proofs.YtbckdfoapmjilaaGreatDoor.Rd.opens_int Tryz.underlying2 (by kernel_rfl)) (Go.Proofs.YtbckdfoapmjilaaGreatDoor.Rd.opens_int Tryz.underlying2 (by kernel_rfl))) (Go.Proofs.YtbckdfoapmjilaaGreatDoor.Rd.opens_slice Tryz.underlying26 (by kernel_rfl) (by decide) (Go.Proofs.YtbckdfoapmjilaaGreatDoor.Rd.opens_Head Tryz.underlying97 (by kernel_rfl) ⟨rfl, rfl, rfl, rfl⟩ (Go.Proofs.YtbckdfoapmjilaaGreatDoor.Rd.opens_string Tryz.underlying9 (by kernel_rfl)) (Go.Proofs.YtbckdfoapmjilaaGreatDoor.Rd.opens_Ver Tryz.underlying25 (by kernel_rfl) ⟨rfl, rfl⟩ (Go.Proofs.YtbckdfoapmjilaaGreatDoor.Rd.opens_int Tryz.underlying2 (by kernel_rfl)) (Go.Proofs.YtbckdfoapmjilaaGreatDoor.Rd.opens_int Tryz.underlying2 (by kernel_rfl))) (Go.Proofs.YtbckdfoapmjilaaGreatDoor.Rd.opens_int Tryz.underlying2 (by kernel_rfl)) (Go.Proofs.YtbckdfoapmjilaaGreatDoor.Rd.opens_int Tryz.underlying2 (by kernel_rfl)))) (Go.Proofs.YtbckdfoapmjilaaGreatDoor.Rd.opens_slice Tryz.underlying27 (by kernel_rfl) (by decide) (Go.Proofs.YtbckdfoapmjilaaGreatDoor.Rd.opens_Last Tryz.underlying121 (by kernel_rfl) ⟨rfl, rfl, rfl⟩ (Go.Proofs.YtbckdfoapmjilaaGreatDoor.Rd.opens_int Tryz.underlying2 (by kernel_rfl)) (Go.Proofs.YtbckdfoapmjilaaGreatDoor.Rd.opens_int Tryz.underlying2 (by kernel_rfl)) (Go.Proofs.YtbckdfoapmjilaaGreatDoor.Rd.opens_Ver Tryz.underlying25 (by kernel_rfl) ⟨rfl, rfl⟩ (Go.Proofs.YtbckdfoapmjilaaGreatDoor.Rd.opens_int Tryz.underlying2 (by kernel_rfl)) (Go.Proofs.YtbckdfoapmjilaaGreatDoor.Rd.opens_int Tryz.underlying2 (by kernel_rfl))))) (Go.Proofs.YtbckdfoapmjilaaGreatDoor.Rd.opens_slice Tryz.underlying28 (by kernel_rfl) (by decide) (Go.Proofs.YtbckdfoapmjilaaGreatDoor.Rd.opens_Entry Tryz.underlying102 (by kernel_rfl) ⟨rfl, rfl, rfl, rfl, rfl, rfl, rfl⟩ (Go.Proofs.YtbckdfoapmjilaaGreatDoor.Rd.opens_Ver Tryz.underlying25 (by kernel_rfl) ⟨rfl, rfl⟩ (Go.Proofs.YtbckdfoapmjilaaGreatDoor.Rd.opens_int Tryz.underlying2 (by kernel_rfl)) (Go.Proofs.YtbckdfoapmjilaaGreatDoor.Rd.opens_int Tryz.underlying2 (by kernel_rfl))) (Go.Proofs.YtbckdfoapmjilaaGreatDoor.Rd.opens_Ver Tryz.underlying25 (by kernel_rfl) ⟨rfl, rfl⟩ (Go.Proofs.YtbckdfoapmjilaaGreatDoor.Rd.opens_int Tryz.underlying2 (by kernel_rfl)) (Go.Proofs.YtbckdfoapmjilaaGreatDoor.Rd.opens_int Tryz.underlying2 (by kernel_rfl))) (Go.Proofs.YtbckdfoapmjilaaGreatDoor.Rd.opens_string Tryz.underlying9 (by kernel_rfl)) (Go.Proofs.YtbckdfoapmjilaaGreatDoor.Rd.opens_bool Tryz.underlying4 (by kernel_rfl)) (Go.Proofs.YtbckdfoapmjilaaGreatDoor.Rd.opens_int Tryz.underlying2 (by kernel_rfl)) (Go.Proofs.YtbckdfoapmjilaaGreatDoor.Rd.opens_int Tryz.underlying2 (by kernel_rfl)) (Go.Proofs.YtbckdfoapmjilaaGreatDoor.Rd.opens_Req Tryz.underlying100 (by kernel_rfl) ⟨rfl, rfl⟩ (Go.Proofs.YtbckdfoapmjilaaGreatDoor.Rd.opens_int Tryz.underlying2 (by kernel_rfl)) (Go.Proofs.YtbckdfoapmjilaaGreatDoor.Rd.opens_int Tryz.underlying2 (by kernel_rfl))))) (Go.Proofs.YtbckdfoapmjilaaGreatDoor.Rd.opens_Ver Tryz.underlying25 (by kernel_rfl) ⟨rfl, rfl⟩ (Go.Proofs.YtbckdfoapmjilaaGreatDoor.Rd.opens_int Tryz.underlying2 (by kernel_rfl)) (Go.Proofs.YtbckdfoapmjilaaGreatDoor.Rd.opens_int Tryz.underlying2 (by kernel_rfl))) (Go.Proofs.YtbckdfoapmjilaaGreatDoor.Rd.opens_slice Tryz.underlying29 (by kernel_rfl) (by decide) (Go.Proofs.YtbckdfoapmjilaaGreatDoor.Rd.opens_Chunk Tryz.underlying105 (by kernel_rfl) ⟨rfl, rfl, rfl, rfl, rfl⟩ (Go.Proofs.YtbckdfoapmjilaaGreatDoor.Rd.opens_string Tryz.underlying9 (by kernel_rfl)) (Go.Proofs.YtbckdfoapmjilaaGreatDoor.Rd.opens_Ver Tryz.underlying25 (by kernel_rfl) ⟨rfl, rfl⟩ (Go.Proofs.YtbckdfoapmjilaaGreatDoor.Rd.opens_int Tryz.underlying2 (by kernel_rfl)) (Go.Proofs.YtbckdfoapmjilaaGreatDoor.Rd.opens_int Tryz.underlying2 (by kernel_rfl))) (Go.Proofs.YtbckdfoapmjilaaGreatDoor.Rd.opens_int Tryz.underlying2 (by kernel_rfl)) (Go.Proofs.YtbckdfoapmjilaaGreatDoor.Rd.opens_int Tryz.underlying2 (by kernel_rfl)) (Go.Proofs.YtbckdfoapmjilaaGreatDoor.Rd.opens_string Tryz.underlying9 (by kernel_rfl))))).2 _ _ _ _ _ _ _ _ hf0
  replace w0 : Go.Proofs.YtbckdfoapmjilaaGreatDoor.Rd.Rdb.rd false 0 W cs0 d0 := w0
  obtain ⟨a1, rfl, rfl, rfl, w1⟩ := open_string Tryz.underlying9 (hval 1 9 v1 rfl rfl) h1
  have kk2 := h2
  have lt2 : ∀ x ∈ p2, x.block < W.heap.size := by obtain ⟨m, hm⟩ := kk2; exact DataW.trod_lt m _ _ _ hm
  obtain ⟨A2, rfl, hsz2⟩ := okWide_struct Tryz.underlying25 (hval 2 25 v2 rfl rfl)
  obtain ⟨cs2⟩ := A2
  obtain ⟨fu2, hf2⟩ := h2
  obtain ⟨d2, w2⟩ := (Go.Proofs.YtbckdfoapmjilaaGreatDoor.Rd.opens_Ver Tryz.underlying25 (by kernel_rfl) ⟨rfl, rfl⟩ (Go.Proofs.YtbckdfoapmjilaaGreatDoor.Rd.opens_int Tryz.underlying2 (by kernel_rfl)) (Go.Proofs.YtbckdfoapmjilaaGreatDoor.Rd.opens_int Tryz.underlying2 (by kernel_rfl))).2 _ _ _ _ _ _ _ _ hf2
  replace w2 : Go.Proofs.YtbckdfoapmjilaaGreatDoor.Rd.Rdb.rd false 0 W cs2 d2 := w2
  obtain ⟨a3, rfl, rfl, rfl, w3⟩ := open_int Tryz.underlying2 (hval 3 2 v3 rfl rfl) h3
  clear hA0 hval0
  have hT : Go.Proofs.YtbckdfoapmjilaaGreatDoor.Nam.Tabs W := Go.Proofs.YtbckdfoapmjilaaGreatDoor.Nam.tabs_of_laid hL
  refine (walk cs0 d0 a1 cs2 d2 a3 W w0 w1 w2 w3 hT).mono fun e W' ⟨he, bel⟩ => ?_
  subst he
  exact ⟨_, rfl, _, _, _, [], _, [], hW', trodAll_mk1 (shut_bool Tryz.underlying4 _), (trodAll_cons_mk (Below.trod laidOut (by kernel_rfl) (of_decide_eq_true (by kernel_rfl)) kk0 bel lt0) (trodAll_cons_mk (shut_string Tryz.underlying9 w1) (trodAll_cons_mk (Below.trod laidOut (by kernel_rfl) (of_decide_eq_true (by kernel_rfl)) kk2 bel lt2) (trodAll_cons_mk (shut_int Tryz.underlying2 w3) trodAll_mk0)))), rfl, bel.frame _, fun h => by cases h⟩

theorem both {x y : Bool} (h : x = true) (k : y = true) : (x && y) = true := by rw [h, k]; rfl
theorem k0 : (Rows.fnExactChunkOfRow.wf (OpenSpec.ofChange Rows.fnExactChunkOfSpec)) = true := by kernel_rfl
theorem k1 : (laidOutB Tryz.prog) = true := by kernel_rfl
theorem k2 : (mapsRowed Tryz.prog) = true := by kernel_rfl
theorem k3 : (Tryz.f5.params.all (Tryz.prog.readableRec ·)) = true := by kernel_rfl
theorem k4 : (namedTie Tryz.prog Rows.fnExactChunkOfRow.named Rows.fnExactChunkOfSpec.vars) = true := by kernel_rfl
theorem k5 : ((Rows.fnExactChunkOfRow.stops == [])) = true := by kernel_rfl
theorem k6 : ((Tryz.prog.stops == [])) = true := by kernel_rfl
theorem k7 : ((Rows.fnExactChunkOfRow.knobs == [])) = true := by kernel_rfl
theorem k8 : ((Tryz.prog.stopKnobs == [])) = true := by kernel_rfl
theorem k9 : ((Rows.fnExactChunkOfRow.inPlace == Tryz.prog.inPlace 5)) = true := by kernel_rfl
theorem k10 : ((Rows.fnExactChunkOfRow.unfollowed == Tryz.prog.unfollowed 5)) = true := by kernel_rfl
theorem k11 : ((Rows.fnExactChunkOfRow.recurses == Tryz.prog.recurses 5)) = true := by kernel_rfl
theorem k12 : ((Rows.fnExactChunkOfRow.named == Tryz.prog.varsNamed 5)) = true := by kernel_rfl
theorem k13 : ((Rows.fnExactChunkOfRow.maps == (Tryz.f5.params.toList ++ Rows.fnExactChunkOfSpec.plain.varTypes Tryz.prog).any (Tryz.prog.mapsRec ·))) = true := by kernel_rfl
theorem k14 : ((Rows.fnExactChunkOfRow.ifaces == (Tryz.f5.params.toList ++ Rows.fnExactChunkOfSpec.plain.varTypes Tryz.prog).any (Tryz.prog.ifacesRec ·))) = true := by kernel_rfl
theorem k15 : ((Rows.fnExactChunkOfRow.mapsOut == Tryz.prog.mapsAmong Tryz.f5.resultTypes.toList)) = true := by kernel_rfl
theorem k16 : ((Rows.fnExactChunkOfRow.loops == (Tryz.f5.params.toList ++ Rows.fnExactChunkOfSpec.plain.varTypes Tryz.prog).any (Tryz.prog.loopsFrom ·))) = true := by kernel_rfl
theorem k17 : ((Rows.fnExactChunkOfRow.wideKeys == (Tryz.f5.params.toList ++ Rows.fnExactChunkOfSpec.plain.varTypes Tryz.prog ++ Tryz.f5.resultTypes.toList).any (Tryz.prog.wideKeysFrom ·))) = true := by kernel_rfl
theorem k18 : (Rows.fnExactChunkOfSpec.vars.all (Tryz.prog.varReadable ·)) = true := by kernel_rfl
theorem k19 : (Tryz.f5.resultTypes.all (fun t => Tryz.prog.readableRec t && decide (t < Tryz.prog.types.size))) = true := by kernel_rfl
theorem k20 : ((Rows.fnExactChunkOfRow.ifacesOut == Tryz.f5.resultTypes.toList.any (Tryz.prog.ifacesRec ·))) = true := by kernel_rfl
theorem k21 : ((Rows.fnExactChunkOfRow.loopsOut == Tryz.f5.resultTypes.toList.any (Tryz.prog.loopsFrom ·))) = true := by kernel_rfl
theorem k22 : ((Rows.fnExactChunkOfRow.plainKeys == Tryz.prog.plainKeys)) = true := by kernel_rfl
theorem k23 : (Rows.fnExactChunkOfRow.shortTexts.isNone) = true := by kernel_rfl
theorem k24 : (Tryz.prog.stopsHeard) = true := by kernel_rfl
theorem k25 : (Tryz.prog.mayEnter) = true := by kernel_rfl
theorem k26 : ((Rows.fnExactChunkOfRow.lifted == Tryz.prog.liftsFinal)) = true := by kernel_rfl
theorem k27 : ((Tryz.prog.make == some Rows.fnExactChunkOfRow.make)) = true := by kernel_rfl
theorem k28 : ((Rows.fnExactChunkOfRow.kinds == (if Rows.fnExactChunkOfRow.domain.isEmpty then [] else Tryz.f5.params.toList.map fun t => match Tryz.prog.underlying t with | some (.int k) => some k | _ => none))) = true := by kernel_rfl
theorem k29 : ((Rows.fnExactChunkOfRow.pinned == Rows.fnExactChunkOfRow.pinnedBy)) = true := by kernel_rfl
theorem k30 : ((Rows.fnExactChunkOfRow.veiled == (Tryz.f5.params.toList ++ Rows.fnExactChunkOfSpec.plain.varTypes Tryz.prog ++ Tryz.f5.resultTypes.toList).any (Tryz.prog.veiledRec ·))) = true := by kernel_rfl
theorem k31 : (Rows.fnExactChunkOfRow.veiledFits Tryz.prog Tryz.f5.params.toList (Tryz.f5.params.toList ++ Rows.fnExactChunkOfSpec.plain.varTypes Tryz.prog ++ Tryz.f5.resultTypes.toList)) = true := by kernel_rfl
set_option maxRecDepth 1000000 in
theorem closed : joinedFacts Tryz.prog 5 Tryz.f5 Rows.fnExactChunkOfSpec Rows.fnExactChunkOfRow = true := by
  unfold joinedFacts
  exact both (both (both (both (both (both (both (both (both (both (both (both (both (both (both (both (both (both (both (both (both (both (both (both (both (both (both (both (both (both (both (k0) k1) k2) k3) k4) k5) k6) k7) k8) k9) k10) k11) k12) k13) k14) k15) k16) k17) k18) k19) k20) k21) k22) k23) k24) k25) k26) k27) k28) k29) k30) k31
theorem wfT : Rows.fnExactChunkOfRow.wfByText (OpenSpec.ofChange Rows.fnExactChunkOfSpec) = true := by kernel_rfl
theorem mainT : Tryz.prog.mainIs = some ((true, "0f0d2b6aefb55b658107b33128b0b216fc7ba2040ca1c48517a0b7f96a6c0b34").1, (true, "0f0d2b6aefb55b658107b33128b0b216fc7ba2040ca1c48517a0b7f96a6c0b34").2.toList) := by kernel_rfl
theorem looksT : false = Tryz.prog.looks [] := by kernel_rfl
theorem goesT : false = Rows.fnExactChunkOfRow.goesBy Tryz.prog := by kernel_rfl
theorem namedT : Tryz.prog.funcNamed "loop.example/g00849/laws.FnExactChunkOf" = some 5 := by kernel_rfl
theorem instT : (decide (Tryz.f5.isInstance Tryz.prog Rows.fnExactChunkOfRow.origin Rows.fnExactChunkOfRow.targs)) = true := by kernel_rfl
theorem over : Rows.fnExactChunkOfRow.holds Tryz.pinned (OpenSpec.ofChange Rows.fnExactChunkOfSpec) :=
  OpenClaim.holds_of_wide 5 Tryz.f5 rfl rfl rfl rfl rfl rfl rfl ⟨rfl, rfl, rfl, rfl, rfl⟩ rfl rfl rfl rfl rfl namedT Tryz.func5 closed
    (of_decide_eq_true instT) (by unfold Func.isWrapper; first | (rw [if_pos (by decide +kernel)]; kernel_rfl) | (rw [if_neg (by decide +kernel)]; exact ⟨rfl, rfl⟩))
    (fun os started H enc _ => lifted os started H enc)

theorem proved : Rows.FnExactChunkOfCardSaid :=
  Claim7.holds_tied_plain_at .later [] [.data, .pinned] true (true, "0f0d2b6aefb55b658107b33128b0b216fc7ba2040ca1c48517a0b7f96a6c0b34") false
    over (fun _ h => by cases h) wfT (fun _ h => by cases h) fnExactChunkOf_row_tie rfl ⟨rfl, rfl⟩ mainT rfl
    (fun f fn hf hfn => by
      obtain rfl : f = 5 := Option.some.inj ((show Tryz.prog.funcNamed "loop.example/g00849/laws.FnExactChunkOf" = some 5 from namedT).symm.trans hf) |>.symm
      obtain rfl : fn = Tryz.f5 := (Option.some.inj (Tryz.func5.symm.trans hfn)).symm
      exact ⟨looksT, fun j t ht => by
        rw [Tryz.params5] at ht
        have hm : t ∈ [31, 9, 25, 2] := by simpa using Array.mem_of_getElem? ht
        have hall : ([31, 9, 25, 2].all fun u => !Tryz.prog.wantsStandIn u) = true := by kernel_rfl
        exact (show Tryz.prog.wantsStandIn t = false by simpa using List.all_eq_true.1 hall t hm)⟩)
    goesT
end Go.Proofs.YtbckdfoapmjilaaGreatDoor.fnExactChunkOf
