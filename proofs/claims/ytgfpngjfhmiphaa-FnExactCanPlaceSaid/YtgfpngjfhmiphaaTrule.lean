/-
  Rules: which are valid for a tree; the program's site, the model's answer.
-/
import Derived.Test.YtgfpngjfhmiphaaTdom
namespace Go.Proofs.Ytgfpngjfhmiphaa.Tm
open Go.RowKit Go.Proofs.Ytgfpngjfhmiphaa.GfI Go.Proofs.Ytgfpngjfhmiphaa.GfS Go.Proofs.Ytgfpngjfhmiphaa.MixC
open Go.Proofs.Ytgfpngjfhmiphaa.It (lay chain)
open Go.Proofs.Ytgfpngjfhmiphaa.Bk (Bks tval bval)
open Go.Proofs.Ytgfpngjfhmiphaa.Sg (BxN)
set_option linter.unusedVariables false
set_option linter.unusedSimpArgs false

abbrev rval (i r k : Int) (d : Bool) : Value := .agg #[.int .i64 i, .int .i64 r, .int .i64 k, .bool d]
structure RuleIn (T : TD) (i r k : Int) : Prop where
  ok : T.Ok
  id : 1 ≤ i ∧ i ≤ 4
  kind : 0 ≤ k ∧ k ≤ 2
  root : T.kd r = 3
/-- The program's site of a valid tree and rule; nothing of others. -/
def SiteB (T : TD) (i r k : Int) (d : Bool) (w : World) (e : Ending) (w' : World) : Prop := Below w.heap.size w w' ∧
  ((¬ RuleIn T i r k ∧ e = .returned (.tuple #[.agg #[.map none, .int .i64 0, .int .i64 0, .int .i64 0, .bool false], .bool false])) ∨
   (RuleIn T i r k ∧ ∃ mb p q, e = .returned (.tuple #[.agg #[.map (some mb), .int .i64 i, .int .i64 r, .int .i64 k, .bool d], .bool true]) ∧ Whole T mb p q w'))

abbrev set5 (w : World) (b : Nat) (v0 v1 v2 v3 v4 : Value) : World := ((((w.setCell ⟨b, 0, none⟩ v0).setCell ⟨b, 1, none⟩ v1).setCell ⟨b, 2, none⟩ v2).setCell ⟨b, 3, none⟩ v3).setCell ⟨b, 4, none⟩ v4
theorem put5 {w : World} {b : Nat} {a0 a1 a2 a3 a4 : Value} (h : BxN w b [a0, a1, a2, a3, a4]) (v0 v1 v2 v3 v4 : Value) : BxN (set5 w b v0 v1 v2 v3 v4) b [v0, v1, v2, v3, v4] :=
  ((((h.put 0 (by simp) v0).put 1 (by simp) v1).put 2 (by simp) v2).put 3 (by simp) v3).put 4 (by simp) v4
theorem below5 {w0 w : World} {N b : Nat} (h : Below N w0 w) (hb : N ≤ b) (v0 v1 v2 v3 v4 : Value) : Below N w0 (set5 w b v0 v1 v2 v3 v4) :=
  ((((h.setCell (p := ⟨b, 0, none⟩) hb v0).setCell (p := ⟨b, 1, none⟩) hb v1).setCell (p := ⟨b, 2, none⟩) hb v2).setCell (p := ⟨b, 3, none⟩) hb v3).setCell (p := ⟨b, 4, none⟩) hb v4
/-- Memory that was there before the parts may be written. -/
theorem Prt.far {T : TD} {I : Nat → Option Addr} {C : Nat → Nat} {N0 mb p q k i base : Nat} {U : Int → Option Nat} {S : Nat → Value} {w : World} (h : Prt T I C N0 mb p q k i base U S w) {a : Addr} (ha : a.block < N0) (v : Value) : Prt T I C N0 mb p q k i base U S (w.setCell a v) := by
  have h0 := h.m0
  have h1 := h.mp
  have h2 := h.pq
  have h3 := h.qb
  refine ⟨h.map.set (by omega) v, fun i hi => (h.lf i hi).far (by omega) v, fun j hj => (h.br j hj).far (by omega) v, fun j hj => (h.row j hj).grown (grown_set w a v) (fun c hc => .inl (by have e : a.block = c := Option.some.inj hc; omega)), fun hk => ownsRow_set (h.cur hk) (by omega) v, h.new, h.m0, h1, h2, h3, by simpa using h.hs, fun j hj => (World.cell?_setCell_other _ _ _ _ (fun e => by have := congrArg Addr.block e; dsimp only at this; omega)).trans (h.bs j hj)⟩
theorem prt5 {T : TD} {I : Nat → Option Addr} {C : Nat → Nat} {N0 mb p q k i base : Nat} {U : Int → Option Nat} {S : Nat → Value} {w : World} (h : Prt T I C N0 mb p q k i base U S w) {b : Nat} (hb : b < N0) (v0 v1 v2 v3 v4 : Value) : Prt T I C N0 mb p q k i base U S (set5 w b v0 v1 v2 v3 v4) :=
  ((((h.far (a := ⟨b, 0, none⟩) hb v0).far (a := ⟨b, 1, none⟩) hb v1).far (a := ⟨b, 2, none⟩) hb v2).far (a := ⟨b, 3, none⟩) hb v3).far (a := ⟨b, 4, none⟩) hb v4
set_option maxRecDepth 100000 in
set_option maxHeartbeats 2000000 in
theorem siteOf (T : TD) (A : TA) (i r k : Int) (d : Bool) (w : World) (Z : T.Sz) (WF : T.Wf) (hr : (Lit.int .i64 r).wf = true) (h : TIn w T A) :
    Calls Try.prog 74 #[A.val T, rval i r k d] w (SiteB T i r k d w) := by
  have LH := Lib.hid (chain (chain (lay w (.cells #[.slice A.da T.dn A.dc, .slice A.ba T.bn A.bc] 33)) (lay _ (.cells #[.int .i64 i, .int .i64 r, .int .i64 k, .bool d] 52))) (lay _ (.cells #[.map none, .int .i64 0, .int .i64 0, .int .i64 0, .bool false] 113)))
  have XR := (BxN.new (w.alloc (.cells #[.slice A.da T.dn A.dc, .slice A.ba T.bn A.bc] 33)) #[.int .i64 i, .int .i64 r, .int .i64 k, .bool d] 52).later (lay _ (.cells #[.map none, .int .i64 0, .int .i64 0, .int .i64 0, .bool false] 113))
  have XS := BxN.new ((w.alloc (.cells #[.slice A.da T.dn A.dc, .slice A.ba T.bn A.bc] 33)).alloc (.cells #[.int .i64 i, .int .i64 r, .int .i64 k, .bool d] 52)) #[.map none, .int .i64 0, .int .i64 0, .int .i64 0, .bool false] 113
  simp only [World.size_alloc] at XR XS
  have XR := Lib.hid XR
  have XS := Lib.hid XS
  have K := Lib.hid (partsOf T A _ Z WF (h.below LH.out))
  clear h Z WF
  obtain ⟨da, dc, ba, bc, I, C⟩ := A
  dsimp only at K LH XR XS ⊢
  go_enter Try.func74, Try.ntmps74
  go_wp2_with fail
  refine K.out.mono ?_
  rintro e w1 ⟨b1, ⟨N, rfl⟩ | ⟨Y, mb, p, q, base, U, S, rfl, hU, hP⟩⟩
  · have B1 := Lib.hid (chain LH.out b1)
    have R := XR.out.later b1
    have r0 := R.cells 0 _ rfl
    have r1 := R.cells 1 _ rfl
    have r2 := R.cells 2 _ rfl
    have r3 := R.cells 3 _ rfl
    have s0 := (XS.out.later b1).cells 0 _ rfl
    have s1 := (XS.out.later b1).cells 1 _ rfl
    have s2 := (XS.out.later b1).cells 2 _ rfl
    have s3 := (XS.out.later b1).cells 3 _ rfl
    have s4 := (XS.out.later b1).cells 4 _ rfl
    have f0 := (XS.out.later b1).free 0
    have f1 := (XS.out.later b1).free 1
    have f2 := (XS.out.later b1).free 2
    have f3 := (XS.out.later b1).free 3
    have f4 := (XS.out.later b1).free 4
    have G := Lib.hid (show ¬ RuleIn T i r k from fun h => N h.ok)
    have XS1 := Lib.hid (XS.out.later b1)
    clear R b1 N
    have Z := put5 XS1.out (.map none) (.int .i64 0) (.int .i64 0) (.int .i64 0) (.bool false)
    have m0 := Z.cells 0 _ rfl
    have m1 := Z.cells 1 _ rfl
    have m2 := Z.cells 2 _ rfl
    have m3 := Z.cells 3 _ rfl
    have m4 := Z.cells 4 _ rfl
    have F := Lib.hid (show SiteB T i r k d w (.returned (.tuple #[.agg #[.map none, .int .i64 0, .int .i64 0, .int .i64 0, .bool false], .bool false])) (set5 w1 (w.heap.size + 1 + 1) (.map none) (.int .i64 0) (.int .i64 0) (.int .i64 0) (.bool false)) from ⟨below5 B1.out (by omega) _ _ _ _ _, .inl ⟨G.out, rfl⟩⟩)
    clear Z
    go_wp2
    exact bodyPost_ret (v := .tuple #[.agg #[.map none, .int .i64 0, .int .i64 0, .int .i64 0, .bool false], .bool false]) (by simp [results, Try.results74, go_sem, *]) rfl F.out
  · have B1 := Lib.hid (chain LH.out b1)
    have R := XR.out.later b1
    have r0 := R.cells 0 _ rfl
    have r1 := R.cells 1 _ rfl
    have r2 := R.cells 2 _ rfl
    have r3 := R.cells 3 _ rfl
    have XS1 := Lib.hid (XS.out.later b1)
    have s0 := XS1.out.cells 0 _ rfl
    have s1 := XS1.out.cells 1 _ rfl
    have s2 := XS1.out.cells 2 _ rfl
    have s3 := XS1.out.cells 3 _ rfl
    have s4 := XS1.out.cells 4 _ rfl
    have f0 := XS1.out.free 0
    have f1 := XS1.out.free 1
    have f2 := XS1.out.free 2
    have f3 := XS1.out.free 3
    have f4 := XS1.out.free 4
    have HW := hP.whole Y hU
    have LK := HW.look r hr
    have KD := Lib.hid (HW.kind r)
    have IA := fun w' => Wi.isWithin i 1 4 (by omega) w'
    have IB := fun w' => isDomainKind k w'
    have P5 := Lib.hid (fun v0 v1 v2 v3 v4 => (prt5 hP (b := w.heap.size + 1 + 1) (by simp) v0 v1 v2 v3 v4).whole Y hU)
    have NG := Lib.hid (show ¬ (inB i 1 4 = true ∧ inB k 0 2 = true ∧ T.kd r = 3) → ¬ RuleIn T i r k from fun n h => n ⟨decide_eq_true h.id, decide_eq_true h.kind, h.root⟩)
    have YG := Lib.hid (show inB i 1 4 = true → inB k 0 2 = true → T.kd r = 3 → RuleIn T i r k from fun a b c => ⟨Y, of_decide_eq_true a, of_decide_eq_true b, c⟩)
    clear R b1 hP hU Y HW K
    generalize thg T p q T.dn T.bn r = v at *
    generalize T.kd r = kr at *
    cases hi : inB i 1 4
    · rw [hi] at IA
      have IA := Lib.hid IA
      have G := Lib.hid (NG.out (by rw [hi]; simp))
      clear hi YG NG
      have Z := put5 XS1.out (.map none) (.int .i64 0) (.int .i64 0) (.int .i64 0) (.bool false)
      have m0 := Z.cells 0 _ rfl
      have m1 := Z.cells 1 _ rfl
      have m2 := Z.cells 2 _ rfl
      have m3 := Z.cells 3 _ rfl
      have m4 := Z.cells 4 _ rfl
      have F := Lib.hid (show SiteB T i r k d w (.returned (.tuple #[.agg #[.map none, .int .i64 0, .int .i64 0, .int .i64 0, .bool false], .bool false])) (set5 w1 (w.heap.size + 1 + 1) (.map none) (.int .i64 0) (.int .i64 0) (.int .i64 0) (.bool false)) from ⟨below5 B1.out (by omega) _ _ _ _ _, .inl ⟨G.out, rfl⟩⟩)
      clear Z
      go_wp2_with fail
      refine (IA.out _).mono ?_
      rintro e w2 ⟨rfl, rfl⟩
      go_wp2
      exact bodyPost_ret (v := .tuple #[.agg #[.map none, .int .i64 0, .int .i64 0, .int .i64 0, .bool false], .bool false]) (by simp [results, Try.results74, go_sem, *]) rfl F.out
    · rw [hi] at IA
      have IA := Lib.hid IA
      cases hk : inB k 0 2
      · rw [hk] at IB
        have IB := Lib.hid IB
        have G := Lib.hid (NG.out (by rw [hk]; simp))
        clear hi hk YG NG
        have Z := put5 XS1.out (.map none) (.int .i64 0) (.int .i64 0) (.int .i64 0) (.bool false)
        have m0 := Z.cells 0 _ rfl
        have m1 := Z.cells 1 _ rfl
        have m2 := Z.cells 2 _ rfl
        have m3 := Z.cells 3 _ rfl
        have m4 := Z.cells 4 _ rfl
        have F := Lib.hid (show SiteB T i r k d w (.returned (.tuple #[.agg #[.map none, .int .i64 0, .int .i64 0, .int .i64 0, .bool false], .bool false])) (set5 w1 (w.heap.size + 1 + 1) (.map none) (.int .i64 0) (.int .i64 0) (.int .i64 0) (.bool false)) from ⟨below5 B1.out (by omega) _ _ _ _ _, .inl ⟨G.out, rfl⟩⟩)
        clear Z
        go_wp2_with fail
        refine (IA.out _).mono ?_
        rintro e w2 ⟨rfl, rfl⟩
        go_wp2_with fail
        refine (IB.out _).mono ?_
        rintro e w2 ⟨rfl, rfl⟩
        go_wp2
        exact bodyPost_ret (v := .tuple #[.agg #[.map none, .int .i64 0, .int .i64 0, .int .i64 0, .bool false], .bool false]) (by simp [results, Try.results74, go_sem, *]) rfl F.out
      · rw [hk] at IB
        have IB := Lib.hid IB
        by_cases h3 : kr = 3
        · subst h3
          have YG := Lib.hid (YG.out hi hk rfl)
          have Z := put5 XS1.out (.map (some mb)) (.int .i64 i) (.int .i64 r) (.int .i64 k) (.bool d)
          have m0 := Z.cells 0 _ rfl
          have m1 := Z.cells 1 _ rfl
          have m2 := Z.cells 2 _ rfl
          have m3 := Z.cells 3 _ rfl
          have m4 := Z.cells 4 _ rfl
          have F := Lib.hid (show SiteB T i r k d w (.returned (.tuple #[.agg #[.map (some mb), .int .i64 i, .int .i64 r, .int .i64 k, .bool d], .bool true])) (set5 w1 (w.heap.size + 1 + 1) (.map (some mb)) (.int .i64 i) (.int .i64 r) (.int .i64 k) (.bool d)) from ⟨below5 B1.out (by omega) _ _ _ _ _, .inr ⟨YG.out, mb, p, q, rfl, P5.out _ _ _ _ _⟩⟩)
          clear Z hi hk NG
          go_wp2_with fail
          refine (IA.out _).mono ?_
          rintro e w2 ⟨rfl, rfl⟩
          go_wp2_with fail
          refine (IB.out _).mono ?_
          rintro e w2 ⟨rfl, rfl⟩
          go_wp2_with fail
          refine KD.out.mono ?_
          rintro e w2 ⟨rfl, rfl⟩
          go_wp2
          exact bodyPost_ret (v := .tuple #[.agg #[.map (some mb), .int .i64 i, .int .i64 r, .int .i64 k, .bool d], .bool true]) (by simp [results, Try.results74, go_sem, *]) rfl F.out
        · have G := Lib.hid (NG.out (fun h => h3 h.2.2))
          have h3' : (kr != 3) = true := by simpa using h3
          clear hi hk h3 YG NG
          have Z := put5 XS1.out (.map none) (.int .i64 0) (.int .i64 0) (.int .i64 0) (.bool false)
          have m0 := Z.cells 0 _ rfl
          have m1 := Z.cells 1 _ rfl
          have m2 := Z.cells 2 _ rfl
          have m3 := Z.cells 3 _ rfl
          have m4 := Z.cells 4 _ rfl
          have F := Lib.hid (show SiteB T i r k d w (.returned (.tuple #[.agg #[.map none, .int .i64 0, .int .i64 0, .int .i64 0, .bool false], .bool false])) (set5 w1 (w.heap.size + 1 + 1) (.map none) (.int .i64 0) (.int .i64 0) (.int .i64 0) (.bool false)) from ⟨below5 B1.out (by omega) _ _ _ _ _, .inl ⟨G.out, rfl⟩⟩)
          clear Z
          go_wp2_with fail
          refine (IA.out _).mono ?_
          rintro e w2 ⟨rfl, rfl⟩
          go_wp2_with fail
          refine (IB.out _).mono ?_
          rintro e w2 ⟨rfl, rfl⟩
          go_wp2_with fail
          refine KD.out.mono ?_
          rintro e w2 ⟨rfl, rfl⟩
          go_wp2
          exact bodyPost_ret (v := .tuple #[.agg #[.map none, .int .i64 0, .int .i64 0, .int .i64 0, .bool false], .bool false]) (by simp [results, Try.results74, go_sem, *]) rfl F.out
end Go.Proofs.Ytgfpngjfhmiphaa.Tm
