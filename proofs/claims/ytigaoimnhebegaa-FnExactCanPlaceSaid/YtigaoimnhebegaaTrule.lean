/-
  Rules: which are valid for a tree; the program's site, the model's answer.
-/
import Derived.Test.YtigaoimnhebegaaTdom
namespace Go.Proofs.Ytigaoimnhebegaa.Tm
open Go.RowKit Go.Proofs.Ytigaoimnhebegaa.GfI Go.Proofs.Ytigaoimnhebegaa.GfS Go.Proofs.Ytigaoimnhebegaa.MixC
open Go.Proofs.Ytigaoimnhebegaa.It (lay chain)
open Go.Proofs.Ytigaoimnhebegaa.Bk (Bks tval bval)
open Go.Proofs.Ytigaoimnhebegaa.Sg (BxN)
set_option linter.unusedVariables false
set_option linter.unusedSimpArgs false

abbrev rval (i r k : Int) (d : Bool) : Value := .agg #[.int .i64 i, .int .i64 r, .int .i64 k, .bool d]
structure RuleIn (T : TD) (i r k : Int) : Prop where
  ok : T.Ok
  id : 1 ≤ i ∧ i ≤ 4
  kind : 0 ≤ k ∧ k ≤ 2
  root : T.kd r = 3
/-- The program's site of a valid tree and rule; nothing of others. -/
def SiteB (T : TD) (i r k : Int) (d : Bool) (w : World) (e : Ending) (w' : World) : Prop := Below w.heap.size w w' ∧
  ((¬ RuleIn T i r k ∧ e = .returned (.tuple #[.agg #[.map none, .int .i64 0, .int .i64 0, .int .i64 0, .bool false], .bool false])) ∨
   (RuleIn T i r k ∧ ∃ mb p q, e = .returned (.tuple #[.agg #[.map (some mb), .int .i64 i, .int .i64 r, .int .i64 k, .bool d], .bool true]) ∧ Whole T mb p q w'))

abbrev set5 (w : World) (b : Nat) (v0 v1 v2 v3 v4 : Value) : World := ((((w.setCell ⟨b, 0, none⟩ v0).setCell ⟨b, 1, none⟩ v1).setCell ⟨b, 2, none⟩ v2).setCell ⟨b, 3, none⟩ v3).setCell ⟨b, 4, none⟩ v4
theorem put5 {w : World} {b : Nat} {a0 a1 a2 a3 a4 : Value} (h : BxN w b [a0, a1, a2, a3, a4]) (v0 v1 v2 v3 v4 : Value) : BxN (set5 w b v0 v1 v2 v3 v4) b [v0, v1, v2, v3, v4] :=
  ((((h.put 0 (by simp) v0).put 1 (by simp) v1).put 2 (by simp) v2).put 3 (by simp) v3).put 4 (by simp) v4
theorem below5 {w0 w : World} {N b : Nat} (h : Below N w0 w) (hb : N ≤ b) (v0 v1 v2 v3 v4 : Value) : Below N w0 (set5 w b v0 v1 v2 v3 v4) :=
  ((((h.setCell (p := ⟨b, 0, none⟩) hb v0).setCell (p := ⟨b, 1, none⟩) hb v1).setCell (p := ⟨b, 2, none⟩) hb v2).setCell (p := ⟨b, 3, none⟩) hb v3).setCell (p := ⟨b, 4, none⟩) hb v4
/-- Memory that was there before the parts may be written. -/
theorem Prt.far {T : TD} {I : Nat → Option Addr} {C : Nat → Nat} {N0 mb p q k i base : Nat} {U : Int → Option Nat} {S : Nat → Value} {w : World} (h : Prt T I C N0 mb p q k i base U S w) {a : Addr} (ha : a.block < N0) (v : Value) : Prt T I C N0 mb p q k i base U S (w.setCell a v) := by
  have h0 := h.m0
  have h1 := h.mp
  have h2 := h.pq
  have h3 := h.qb
  refine ⟨h.map.set (by omega) v, fun i hi => (h.lf i hi).far (by omega) v, fun j hj => (h.br j hj).far (by omega) v, fun j hj => (h.row j hj).grown (grown_set w a v) (fun c hc => .inl (by have e : a.block = c := Option.some.inj hc; omega)), fun hk => ownsRow_set (h.cur hk) (by omega) v, h.new, h.m0, h1, h2, h3, by simpa using h.hs, fun j hj => (World.cell?_setCell_other _ _ _ _ (fun e => by have := congrArg Addr.block e; dsimp only at this; omega)).trans (h.bs j hj)⟩
theorem prt5 {T : TD} {I : Nat → Option Addr} {C : Nat → Nat} {N0 mb p q k i base : Nat} {U : Int → Option Nat} {S : Nat → Value} {w : World} (h : Prt T I C N0 mb p q k i base U S w) {b : Nat} (hb : b < N0) (v0 v1 v2 v3 v4 : Value) : Prt T I C N0 mb p q k i base U S (set5 w b v0 v1 v2 v3 v4) :=
  ((((h.far (a := ⟨b, 0, none⟩) hb v0).far (a := ⟨b, 1, none⟩) hb v1).far (a := ⟨b, 2, none⟩) hb v2).far (a := ⟨b, 3, none⟩) hb v3).far (a := ⟨b, 4, none⟩) hb v4
/-- The rule is valid for the valid tree T, as the program asks it. -/
def allowB (T : TD) (i r k : Int) : Bool := inB i 1 4 && (inB k 0 2 && decide (T.kd r = 3))
theorem allowB_iff {T : TD} (O : T.Ok) {i r k : Int} : allowB T i r k = true ↔ RuleIn T i r k := by
  unfold allowB
  simp only [Bool.and_eq_true, decide_eq_true_eq]
  exact ⟨fun ⟨a, b, c⟩ => ⟨O, of_decide_eq_true a, of_decide_eq_true b, c⟩, fun h => ⟨decide_eq_true h.id, decide_eq_true h.kind, h.root⟩⟩
set_option maxRecDepth 100000 in
set_option maxHeartbeats 1000000 in
theorem allow (T : TD) (mb p q : Nat) (i r k : Int) (d : Bool) (w : World) (hr : (Lit.int .i64 r).wf = true) (h : Whole T mb p q w) :
    Calls Try.prog 126 #[.map (some mb), rval i r k d] w (Ret (.bool (allowB T i r k)) w) := by
  have L := Lib.hid (lay w (.cells #[.int .i64 i, .int .i64 r, .int .i64 k, .bool d] 35))
  have HW := h.later L.out
  have LK := HW.look r hr
  have KD := Lib.hid (HW.kind r)
  have IA := fun w' => Wi.isWithin i 1 4 (by omega) w'
  have IB := fun w' => isDomainKind k w'
  unfold allowB
  clear h HW
  generalize thg T p q T.dn T.bn r = v at *
  generalize T.kd r = kr at *
  cases hi : inB i 1 4
  · rw [hi] at IA
    have IA := Lib.hid IA
    clear hi IB
    go_enter Try.func126, Try.ntmps126
    go_wp2_with fail
    refine (IA.out _).mono ?_
    rintro e w2 ⟨rfl, rfl⟩
    go_wp2
    go_ret
    exact ⟨rfl, L.out⟩
  · rw [hi] at IA
    have IA := Lib.hid IA
    clear hi
    cases hk : inB k 0 2
    · rw [hk] at IB
      have IB := Lib.hid IB
      clear hk
      go_enter Try.func126, Try.ntmps126
      go_wp2_with fail
      refine (IA.out _).mono ?_
      rintro e w2 ⟨rfl, rfl⟩
      go_wp2_with fail
      refine (IB.out _).mono ?_
      rintro e w2 ⟨rfl, rfl⟩
      go_wp2
      go_ret
      exact ⟨rfl, L.out⟩
    · rw [hk] at IB
      have IB := Lib.hid IB
      clear hk
      go_enter Try.func126, Try.ntmps126
      go_wp2_with fail
      refine (IA.out _).mono ?_
      rintro e w2 ⟨rfl, rfl⟩
      go_wp2_with fail
      refine (IB.out _).mono ?_
      rintro e w2 ⟨rfl, rfl⟩
      go_wp2_with fail
      refine KD.out.mono ?_
      rintro e w2 ⟨rfl, rfl⟩
      go_wp2
      go_ret
      refine ⟨?_, L.out⟩
      by_cases h3 : kr = 3 <;> simp [h3]
set_option maxRecDepth 100000 in
set_option maxHeartbeats 2000000 in
theorem siteOf (T : TD) (A : TA) (i r k : Int) (d : Bool) (w : World) (Z : T.Sz) (WF : T.Wf) (hr : (Lit.int .i64 r).wf = true) (h : TIn w T A) :
    Calls Try.prog 58 #[A.val T, rval i r k d] w (SiteB T i r k d w) := by
  have LH := Lib.hid (chain (chain (lay w (.cells #[.slice A.da T.dn A.dc, .slice A.ba T.bn A.bc] 33)) (lay _ (.cells #[.int .i64 i, .int .i64 r, .int .i64 k, .bool d] 35))) (lay _ (.cells #[.map none, .int .i64 0, .int .i64 0, .int .i64 0, .bool false] 97)))
  have XR := (BxN.new (w.alloc (.cells #[.slice A.da T.dn A.dc, .slice A.ba T.bn A.bc] 33)) #[.int .i64 i, .int .i64 r, .int .i64 k, .bool d] 35).later (lay _ (.cells #[.map none, .int .i64 0, .int .i64 0, .int .i64 0, .bool false] 97))
  have XS := BxN.new ((w.alloc (.cells #[.slice A.da T.dn A.dc, .slice A.ba T.bn A.bc] 33)).alloc (.cells #[.int .i64 i, .int .i64 r, .int .i64 k, .bool d] 35)) #[.map none, .int .i64 0, .int .i64 0, .int .i64 0, .bool false] 97
  simp only [World.size_alloc] at XR XS
  have XR := Lib.hid XR
  have XS := Lib.hid XS
  have K := Lib.hid (partsOf T A _ Z WF (h.below LH.out))
  clear h Z WF
  obtain ⟨da, dc, ba, bc, I, C⟩ := A
  dsimp only at K LH XR XS ⊢
  go_enter Try.func58, Try.ntmps58
  go_wp2_with fail
  refine K.out.mono ?_
  rintro e w1 ⟨b1, ⟨N, rfl⟩ | ⟨Y, mb, p, q, base, U, S, rfl, hU, hP⟩⟩
  · have w2e : ∃ w2, w2 = w1 := ⟨_, rfl⟩
    obtain ⟨w2, rfl⟩ := w2e
    have B2 := Lib.hid (chain LH.out b1)
    have XS1 := Lib.hid (XS.out.later b1)
    have s0 := XS1.out.cells 0 _ rfl
    have s1 := XS1.out.cells 1 _ rfl
    have s2 := XS1.out.cells 2 _ rfl
    have s3 := XS1.out.cells 3 _ rfl
    have s4 := XS1.out.cells 4 _ rfl
    have f0 := XS1.out.free 0
    have f1 := XS1.out.free 1
    have f2 := XS1.out.free 2
    have f3 := XS1.out.free 3
    have f4 := XS1.out.free 4
    have G := Lib.hid (show ¬ RuleIn T i r k from fun h => N h.ok)
    clear b1 N
    have Z := put5 XS1.out (.map none) (.int .i64 0) (.int .i64 0) (.int .i64 0) (.bool false)
    have m0 := Z.cells 0 _ rfl
    have m1 := Z.cells 1 _ rfl
    have m2 := Z.cells 2 _ rfl
    have m3 := Z.cells 3 _ rfl
    have m4 := Z.cells 4 _ rfl
    have F := Lib.hid (show SiteB T i r k d w (.returned (.tuple #[.agg #[.map none, .int .i64 0, .int .i64 0, .int .i64 0, .bool false], .bool false])) (set5 w2 (w.heap.size + 1 + 1) (.map none) (.int .i64 0) (.int .i64 0) (.int .i64 0) (.bool false)) from ⟨below5 B2.out (by omega) _ _ _ _ _, .inl ⟨G.out, rfl⟩⟩)
    clear Z
    go_wp2
    exact bodyPost_ret (v := .tuple #[.agg #[.map none, .int .i64 0, .int .i64 0, .int .i64 0, .bool false], .bool false]) (by simp [results, Try.results58, go_sem, *]) rfl F.out
  · have R := XR.out.later b1
    have r0 := R.cells 0 _ rfl
    have r1 := R.cells 1 _ rfl
    have r2 := R.cells 2 _ rfl
    have r3 := R.cells 3 _ rfl
    have XS1 := XS.out.later b1
    have W1 := Lib.hid (hP.whole Y hU)
    have AL := Lib.hid (allow T mb p q i r k d w1 hr (hP.whole Y hU))
    have B1 := Lib.hid (chain LH.out b1)
    have XR1 := Lib.hid R
    have AI := Lib.hid (@allowB_iff T Y i r k)
    have P5 := Lib.hid (fun (w2 : World) (b : Below w1.heap.size w1 w2) v0 v1 v2 v3 v4 => (prt5 (b := w.heap.size + 1 + 1) (hP.later b) (by simp) v0 v1 v2 v3 v4).whole Y hU)
    clear R b1 hP hU Y K W1
    generalize allowB T i r k = ok at *
    go_wp2_with fail
    refine AL.out.mono ?_
    rintro e w2 ⟨rfl, b2⟩
    have B2 := Lib.hid (chain B1.out b2)
    have XS1 := Lib.hid (XS1.later b2)
    have R := XR1.out.later b2
    have q0 := R.cells 0 _ rfl
    have q1 := R.cells 1 _ rfl
    have q2 := R.cells 2 _ rfl
    have q3 := R.cells 3 _ rfl
    have s0 := XS1.out.cells 0 _ rfl
    have s1 := XS1.out.cells 1 _ rfl
    have s2 := XS1.out.cells 2 _ rfl
    have s3 := XS1.out.cells 3 _ rfl
    have s4 := XS1.out.cells 4 _ rfl
    have f0 := XS1.out.free 0
    have f1 := XS1.out.free 1
    have f2 := XS1.out.free 2
    have f3 := XS1.out.free 3
    have f4 := XS1.out.free 4
    have P5 := Lib.hid (P5.out _ b2)
    clear R b2 r0 r1 r2 r3
    cases ok
    · have G := Lib.hid (show ¬ RuleIn T i r k from fun h => by have := AI.out.2 h; cases this)
      have Z := put5 XS1.out (.map none) (.int .i64 0) (.int .i64 0) (.int .i64 0) (.bool false)
      have m0 := Z.cells 0 _ rfl
      have m1 := Z.cells 1 _ rfl
      have m2 := Z.cells 2 _ rfl
      have m3 := Z.cells 3 _ rfl
      have m4 := Z.cells 4 _ rfl
      have F := Lib.hid (show SiteB T i r k d w (.returned (.tuple #[.agg #[.map none, .int .i64 0, .int .i64 0, .int .i64 0, .bool false], .bool false])) (set5 w2 (w.heap.size + 1 + 1) (.map none) (.int .i64 0) (.int .i64 0) (.int .i64 0) (.bool false)) from ⟨below5 B2.out (by omega) _ _ _ _ _, .inl ⟨G.out, rfl⟩⟩)
      clear Z
      go_wp2
      exact bodyPost_ret (v := .tuple #[.agg #[.map none, .int .i64 0, .int .i64 0, .int .i64 0, .bool false], .bool false]) (by simp [results, Try.results58, go_sem, *]) rfl F.out
    · have G := Lib.hid (AI.out.1 rfl)
      have Z := put5 XS1.out (.map (some mb)) (.int .i64 i) (.int .i64 r) (.int .i64 k) (.bool d)
      have m0 := Z.cells 0 _ rfl
      have m1 := Z.cells 1 _ rfl
      have m2 := Z.cells 2 _ rfl
      have m3 := Z.cells 3 _ rfl
      have m4 := Z.cells 4 _ rfl
      have F := Lib.hid (show SiteB T i r k d w (.returned (.tuple #[.agg #[.map (some mb), .int .i64 i, .int .i64 r, .int .i64 k, .bool d], .bool true])) (set5 w2 (w.heap.size + 1 + 1) (.map (some mb)) (.int .i64 i) (.int .i64 r) (.int .i64 k) (.bool d)) from ⟨below5 B2.out (by omega) _ _ _ _ _, .inr ⟨G.out, mb, p, q, rfl, P5.out _ _ _ _ _⟩⟩)
      clear Z
      go_wp2
      exact bodyPost_ret (v := .tuple #[.agg #[.map (some mb), .int .i64 i, .int .i64 r, .int .i64 k, .bool d], .bool true]) (by simp [results, Try.results58, go_sem, *]) rfl F.out
end Go.Proofs.Ytigaoimnhebegaa.Tm

/-
  Rules: RuleOk in the program and in the model.
-/
namespace Go.Proofs.Ytigaoimnhebegaa.Tm
open Go.RowKit Go.Proofs.Ytigaoimnhebegaa.GfI Go.Proofs.Ytigaoimnhebegaa.GfS Go.Proofs.Ytigaoimnhebegaa.MixC
open Go.Proofs.Ytigaoimnhebegaa.It (lay chain)
open Go.Proofs.Ytigaoimnhebegaa.Bk (Bks tval bval)
open Go.Proofs.Ytigaoimnhebegaa.Sg (BxN)
set_option linter.unusedVariables false
set_option linter.unusedSimpArgs false


set_option maxRecDepth 100000 in
theorem implRuleOk (T : TD) (A : TA) (i r k : Int) (d : Bool) (w : World) (Z : T.Sz) (WF : T.Wf) (hr : (Lit.int .i64 r).wf = true) (h : TIn w T A) :
    Calls Try.prog 16 #[A.val T, rval i r k d] w (IffB (RuleIn T i r k) w) := by
  have LH := Lib.hid (chain (lay w (.cells #[.slice A.da T.dn A.dc, .slice A.ba T.bn A.bc] 33)) (lay _ (.cells #[.int .i64 i, .int .i64 r, .int .i64 k, .bool d] 35)))
  have K := Lib.hid (siteOf T A i r k d _ Z WF hr (h.below LH.out))
  clear h Z
  obtain ⟨da, dc, ba, bc, I, C⟩ := A
  dsimp only at K LH ⊢
  go_enter Try.func16, Try.ntmps16
  go_wp2_with fail
  refine K.out.mono ?_
  rintro e w1 ⟨b1, ⟨N, rfl⟩ | ⟨Y, mb, p, q, rfl, -⟩⟩
  · have B1 := Lib.hid (chain LH.out b1)
    have N := Lib.hid N
    go_wp2
    go_ret
    exact IffB.no N.out (chain B1.out (lay _ _))
  · have B1 := Lib.hid (chain LH.out b1)
    have Y := Lib.hid Y
    go_wp2
    go_ret
    exact IffB.yes Y.out (chain B1.out (lay _ _))

theorem kd_root {T : TD} (O : T.Ok) {r : Int} (h : T.kd r = 3) : r < 0 := by
  rcases T.kd_cases r with ⟨_, _, _, e⟩ | ⟨_, j, hj, e1, e⟩ | ⟨_, _, e⟩
  · omega
  · have := (O.bkt.each j hj).2.1; omega
  · omega
/-- The rule fits a valid tree, as the model asks it. -/
def ruleB (T : TD) (i r k : Int) : Bool := inB i 1 4 && (decide (r < 0) && (decide (T.kd r = 3) && inB k 0 2))
theorem ruleB_iff {T : TD} (O : T.Ok) {i r k : Int} : ruleB T i r k = true ↔ RuleIn T i r k := by
  unfold ruleB
  simp only [Bool.and_eq_true, decide_eq_true_eq]
  constructor
  · rintro ⟨a, b, c, d⟩; exact ⟨O, of_decide_eq_true a, of_decide_eq_true d, c⟩
  · intro h; exact ⟨decide_eq_true h.id, kd_root O h.root, h.root, decide_eq_true h.kind⟩
set_option maxRecDepth 100000 in
theorem l08OK (T : TD) (A : TA) (i r k : Int) (d : Bool) (w : World) (Z : T.Sz) (h : TIn w T A) :
    Calls Try.prog 55 #[A.val T, rval i r k d] w (Ret (.bool (ruleB T i r k)) w) := by
  have LH := Lib.hid (chain (lay w (.cells #[.slice A.da T.dn A.dc, .slice A.ba T.bn A.bc] 33)) (lay _ (.cells #[.int .i64 i, .int .i64 r, .int .i64 k, .bool d] 35)))
  have X := (BxN.new (w.alloc (.cells #[.slice A.da T.dn A.dc, .slice A.ba T.bn A.bc] 33)) #[.int .i64 i, .int .i64 r, .int .i64 k, .bool d] 35)
  rw [World.size_alloc] at X
  have X := Lib.hid X
  have KD := Lib.hid (fun w' (b : Below w.heap.size w w') => l06Kind T A r w' Z (h.below b))
  have IA := fun w' => l00In i 1 4 w'
  have IB := fun w' => l00In k 0 2 w'
  clear h Z
  obtain ⟨da, dc, ba, bc, I, C⟩ := A
  dsimp only at KD LH X ⊢
  unfold ruleB
  generalize T.kd r = kr at *
  cases hi : inB i 1 4
  · rw [hi] at IA
    have IA := Lib.hid IA
    clear hi IB
    go_enter Try.func55, Try.ntmps55
    go_wp2_with fail
    refine (IA.out _).mono ?_
    rintro e w2 ⟨rfl, rfl⟩
    go_wp2
    go_ret
    exact ⟨rfl, LH.out⟩
  · rw [hi] at IA
    have IA := Lib.hid IA
    clear hi
    by_cases hr : r < 0
    · have e1 : decide (r < 0) = true := decide_eq_true hr
      rw [e1]
      by_cases h3 : kr = 3
      · subst h3
        have IB := Lib.hid IB
        generalize inB k 0 2 = kb at *
        go_enter Try.func55, Try.ntmps55
        go_wp2_with fail
        refine (IA.out _).mono ?_
        rintro e w2 ⟨rfl, rfl⟩
        go_wp2_with fail
        refine (KD.out _ LH.out).mono ?_
        rintro e w3 ⟨rfl, b3⟩
        have B3 := Lib.hid (chain LH.out b3)
        have X3 := X.out.later b3
        have x0 := X3.cells 0 _ rfl
        have x1 := X3.cells 1 _ rfl
        have x2 := X3.cells 2 _ rfl
        clear X3 b3
        go_wp2_with fail
        refine (IB.out _).mono ?_
        rintro e w4 ⟨rfl, rfl⟩
        go_wp2
        go_ret
        exact ⟨by simp, B3.out⟩
      · have h3' : (kr == 3) = false := by simpa using h3
        have e2 : decide (kr = 3) = false := decide_eq_false h3
        rw [e2]
        clear h3 e2 e1 IB
        go_enter Try.func55, Try.ntmps55
        go_wp2_with fail
        refine (IA.out _).mono ?_
        rintro e w2 ⟨rfl, rfl⟩
        go_wp2_with fail
        refine (KD.out _ LH.out).mono ?_
        rintro e w3 ⟨rfl, b3⟩
        have B3 := Lib.hid (chain LH.out b3)
        clear b3
        go_wp2
        go_ret
        exact ⟨by simp, B3.out⟩
    · have e1 : decide (r < 0) = false := decide_eq_false hr
      rw [e1]
      clear e1 IB
      go_enter Try.func55, Try.ntmps55
      go_wp2_with fail
      refine (IA.out _).mono ?_
      rintro e w2 ⟨rfl, rfl⟩
      go_wp2
      go_ret
      exact ⟨by simp, LH.out⟩
set_option maxRecDepth 100000 in
theorem specRuleOk (T : TD) (A : TA) (i r k : Int) (d : Bool) (w : World) (Z : T.Sz) (h : TIn w T A) :
    Calls Try.prog 13 #[A.val T, rval i r k d] w (IffB (RuleIn T i r k) w) := by
  have LH := Lib.hid (chain (lay w (.cells #[.slice A.da T.dn A.dc, .slice A.ba T.bn A.bc] 33)) (lay _ (.cells #[.int .i64 i, .int .i64 r, .int .i64 k, .bool d] 35)))
  have X := (BxN.new (w.alloc (.cells #[.slice A.da T.dn A.dc, .slice A.ba T.bn A.bc] 33)) #[.int .i64 i, .int .i64 r, .int .i64 k, .bool d] 35)
  have Y := (BxN.new w #[.slice A.da T.dn A.dc, .slice A.ba T.bn A.bc] 33).later (lay _ (.cells #[.int .i64 i, .int .i64 r, .int .i64 k, .bool d] 35))
  rw [World.size_alloc] at X
  have X := Lib.hid X
  have Y := Lib.hid Y
  have K := Lib.hid (l06OK T A _ Z (h.below LH.out))
  have R := Lib.hid (fun w' (b : Below w.heap.size w w') => l08OK T A i r k d w' Z (h.below b))
  clear h Z
  obtain ⟨da, dc, ba, bc, I, C⟩ := A
  dsimp only at K R LH X Y ⊢
  obtain ⟨dn, hdn⟩ : ∃ dn, dn = T.dn := ⟨_, rfl⟩
  obtain ⟨bn, hbn⟩ : ∃ bn, bn = T.bn := ⟨_, rfl⟩
  have E : ∀ a b c d I C, TA.val ⟨a, b, c, d, I, C⟩ T = tval (.slice a dn b) (.slice c bn d) := fun _ _ _ _ _ _ => by rw [hdn, hbn]
  rw [E] at K R ⊢
  rw [← hdn, ← hbn] at LH X Y K
  clear hdn hbn
  have RI := Lib.hid (fun (O : T.Ok) => @ruleB_iff T O i r k)
  have NO := Lib.hid (show ¬ T.Ok → ¬ RuleIn T i r k from fun n h => n h.ok)
  generalize ruleB T i r k = rb at *
  go_enter Try.func13, Try.ntmps13
  go_wp2_with fail
  refine K.out.mono ?_
  rintro e w1 ⟨b, rfl, H, b1⟩
  have B1 := Lib.hid (chain LH.out b1)
  have X1 := X.out.later b1
  have x0 := X1.cells 0 _ rfl
  have x1 := X1.cells 1 _ rfl
  have x2 := X1.cells 2 _ rfl
  have x3 := X1.cells 3 _ rfl
  have Y1 := Y.out.later b1
  have y0 := Y1.cells 0 _ rfl
  have y1 := Y1.cells 1 _ rfl
  clear X1 Y1 b1
  cases b
  · have G := Lib.hid (NO.out fun o => by have := H.2 o; cases this)
    clear H
    go_wp2
    go_ret
    exact IffB.no G.out B1.out
  · have RI := Lib.hid (RI.out (H.1 rfl))
    clear H
    go_wp2_with fail
    refine (R.out _ B1.out).mono ?_
    rintro e w2 ⟨rfl, b2⟩
    have B2 := Lib.hid (chain B1.out b2)
    clear b2
    go_wp2
    go_ret
    exact ⟨rb, rfl, RI.out, B2.out⟩
set_option maxRecDepth 100000 in
theorem toRule (i r k : Int) (d : Bool) (w : World) : Calls Try.prog 15 #[.agg #[.int .i64 i, .int .i64 r, .int .i64 k, .bool d]] w (Ret (rval i r k d) w) := by
  go_enter Try.func15, Try.ntmps15
  go_wp2
  exact bodyPost_ret (v := rval i r k d) (by simp [results, Try.results15, go_sem]) rfl ⟨rfl, chain (chain (lay _ _) (lay _ _)) (lay _ _)⟩
end Go.Proofs.Ytigaoimnhebegaa.Tm
