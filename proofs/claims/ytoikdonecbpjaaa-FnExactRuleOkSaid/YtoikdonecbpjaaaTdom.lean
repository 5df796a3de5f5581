/-
  DomainOf: the program's answer and the model's.
-/
import Derived.Test.YtoikdonecbpjaaaTabv
namespace Go.Proofs.Ytoikdonecbpjaaa.Tm
open Go.RowKit Go.Proofs.Ytoikdonecbpjaaa.GfI Go.Proofs.Ytoikdonecbpjaaa.GfS Go.Proofs.Ytoikdonecbpjaaa.MixC
open Go.Proofs.Ytoikdonecbpjaaa.It (lay chain)
open Go.Proofs.Ytoikdonecbpjaaa.Bk (Bks tval bval)
open Go.Proofs.Ytoikdonecbpjaaa.Sg (BxN)
set_option linter.unusedVariables false
set_option linter.unusedSimpArgs false

/-- The domain of kind g of node x in a valid tree. -/
def DomV (T : TD) (g x : Int) : Value := if T.kd x = 0 then (if g = 0 then .tuple #[.int .i64 x, .int .i64 0] else AbvV (abv T 5 x g)) else ErrV 3
def DomAns (ok : Bool) (T : TD) (g x : Int) : Value := if ok = true then (if inB g 0 2 = true then DomV T g x else ErrV 2) else ErrV 1
theorem DomV_two (T : TD) (g x : Int) : ∃ r0 r1, DomV T g x = .tuple #[.int .i64 r0, .int .i64 r1] := by
  unfold DomV ErrV AbvV
  split
  · split
    · exact ⟨_, _, rfl⟩
    · exact ⟨_, _, rfl⟩
  · exact ⟨_, _, rfl⟩
theorem DomAns_two (ok : Bool) (T : TD) (g x : Int) : ∃ r0 r1, DomAns ok T g x = .tuple #[.int .i64 r0, .int .i64 r1] := by
  unfold DomAns
  split
  · split
    · exact DomV_two T g x
    · exact ⟨_, _, rfl⟩
  · exact ⟨_, _, rfl⟩
theorem Whole.kind {T : TD} {mb p q : Nat} {w : World} (h : Whole T mb p q w) (x : Int) : Calls Try.prog 110 #[thg T p q T.dn T.bn x] w (Same (.int .i64 (T.kd x)) w) :=
  kindOf T p q x w (fun j hj => by obtain ⟨s, u, lo, hi, X, _⟩ := h.br j hj; exact X.cells 2 _ rfl)

set_option maxRecDepth 100000 in
theorem domainOf (T : TD) (mb p q : Nat) (g x : Int) (w : World) (h : Whole T mb p q w) (hx : (Lit.int .i64 x).wf = true) :
    Calls Try.prog 67 #[.map (some mb), .int .i64 g, .int .i64 x] w (Same (DomV T g x) w) := by
  have L := h.look x hx
  have K := Lib.hid (h.kind x)
  have AB := Lib.hid (above T mb p q x g w h hx)
  clear h
  unfold DomV
  generalize thg T p q T.dn T.bn x = v at *
  generalize T.kd x = k at *
  unfold AbvV at *
  generalize abv T 5 x g = r at *
  generalize (if r = 0 then (3 : Int) else 0) = c at *
  by_cases hk : k = 0
  · subst hk
    rw [if_pos rfl]
    by_cases hg : g = 0
    · subst hg
      rw [if_pos rfl]
      go_enter Try.func67, Try.ntmps67
      go_wp2_with fail
      refine K.out.mono ?_
      rintro e w1 ⟨rfl, rfl⟩
      go_wp2
      go_ret2
      exact ⟨rfl, rfl⟩
    · rw [if_neg hg]
      have g' : (g == 0) = false := by simpa using hg
      clear hg
      go_enter Try.func67, Try.ntmps67
      go_wp2_with fail
      refine K.out.mono ?_
      rintro e w1 ⟨rfl, rfl⟩
      go_wp2_with fail
      refine AB.out.mono ?_
      rintro e w2 ⟨rfl, rfl⟩
      go_wp2
      go_ret2
      exact ⟨rfl, rfl⟩
  · rw [if_neg hk]
    have k' : (k != 0) = true := by simpa using hk
    clear hk
    go_enter Try.func67, Try.ntmps67
    go_wp2_with fail
    refine K.out.mono ?_
    rintro e w1 ⟨rfl, rfl⟩
    go_wp2
    go_ret2
    exact ⟨rfl, rfl⟩

theorem isDomainKind (n : Int) (w : World) : Calls Try.prog 66 #[.int .i64 n] w fun e w' => e = .returned (.bool (inB n 0 2)) ∧ w = w' := by
  go_enter Try.func66, Try.ntmps66
  go_wp2_with fail
  refine (Wi.isWithin n 0 2 (by omega) _).mono ?_
  rintro e w1 ⟨rfl, rfl⟩
  go_wp2
  go_ret
  exact ⟨rfl, rfl⟩

set_option maxRecDepth 100000 in
theorem implDomainOf (T : TD) (A : TA) (g x : Int) (w : World) (Z : T.Sz) (WF : T.Wf) (hx : (Lit.int .i64 x).wf = true) (h : TIn w T A) {ok : Bool} (hok : ok = true ↔ T.Ok) :
    Calls Try.prog 26 #[A.val T, .int .i64 g, .int .i64 x] w (Ret (DomAns ok T g x) w) := by
  have LH := Lib.hid (lay w (.cells #[.slice A.da T.dn A.dc, .slice A.ba T.bn A.bc] 31))
  have K := Lib.hid (partsOf T A _ Z WF (h.below LH.out))
  clear h Z WF
  obtain ⟨da, dc, ba, bc, I, C⟩ := A
  dsimp only at K LH ⊢
  go_enter Try.func26, Try.ntmps26
  go_wp2_with fail
  refine K.out.mono ?_
  rintro e w1 ⟨b1, ⟨N, rfl⟩ | ⟨Y, mb, p, q, base, U, S, rfl, hU, hP⟩⟩
  · have B1 := Lib.hid (chain LH.out b1)
    obtain rfl : ok = false := by cases ok; rfl; exact absurd (hok.1 rfl) N
    clear hok
    go_wp2
    go_ret2
    exact ⟨rfl, B1.out⟩
  · have B1 := Lib.hid (chain LH.out b1)
    obtain rfl : ok = true := hok.2 Y
    have W := domainOf T mb p q g x w1 (hP.whole Y hU) hx
    have IB := isDomainKind g
    obtain ⟨r0, r1, hr⟩ := DomV_two T g x
    rw [hr] at W
    have W := Lib.hid W
    clear hP hU b1 hok Y
    cases hi : inB g 0 2
    · rw [hi] at IB
      have IB := Lib.hid IB
      have V : Hid (DomAns true T g x = ErrV 2) := by show DomAns true T g x = _; unfold DomAns; rw [hi]; rfl
      clear hi hr
      go_wp2_with fail
      refine (IB.out _).mono ?_
      rintro e w2 ⟨rfl, rfl⟩
      go_wp2
      go_ret2
      exact ⟨by rw [V.out]; rfl, B1.out⟩
    · rw [hi] at IB
      have IB := Lib.hid IB
      have V : Hid (DomAns true T g x = .tuple #[.int .i64 r0, .int .i64 r1]) := by show DomAns true T g x = _; unfold DomAns; rw [hi, hr]; rfl
      clear hi hr
      go_wp2_with fail
      refine (IB.out _).mono ?_
      rintro e w2 ⟨rfl, rfl⟩
      go_wp2_with fail
      refine W.out.mono ?_
      rintro e w3 ⟨rfl, rfl⟩
      go_wp2
      go_ret2
      exact ⟨by rw [V.out]; rfl, B1.out⟩

/-- The domain as the model reckons it: 0 of none. -/
def dom8 (T : TD) (g x : Int) : Int := if g = 0 then x else abv T 5 x g
set_option maxRecDepth 100000 in
theorem l08Domain (T : TD) (A : TA) (g x : Int) (w : World) (Z : T.Sz) (O : T.Ok) (h : TIn w T A) :
    Calls Try.prog 65 #[A.val T, .int .i64 g, .int .i64 x] w (IntB (dom8 T g x) w) := by
  have LH := Lib.hid (lay w (.cells #[.slice A.da T.dn A.dc, .slice A.ba T.bn A.bc] 31))
  have AB := Lib.hid (l06Above T Z O g 5 x A _ (by have := kd_ge O.bkt x; omega) (h.below LH.out))
  clear h Z
  obtain ⟨da, dc, ba, bc, I, C⟩ := A
  dsimp only at LH AB ⊢
  unfold dom8
  generalize abv T 5 x g = r at *
  by_cases hg : g = 0
  · subst hg
    rw [if_pos rfl]
    go_enter Try.func65, Try.ntmps65
    go_wp2
    go_ret
    exact ⟨rfl, LH.out⟩
  · rw [if_neg hg]
    have g' : (g == 0) = false := by simpa using hg
    clear hg
    go_enter Try.func65, Try.ntmps65
    go_wp2_with fail
    refine AB.out.mono ?_
    rintro e w1 ⟨rfl, b1⟩
    have B1 := Lib.hid (chain LH.out b1)
    clear b1
    go_wp2
    go_ret
    exact ⟨rfl, B1.out⟩
theorem ixI_kd {T : TD} (O : T.Ok) (x : Int) : ixI T.df x T.dn < 0 ↔ T.kd x ≠ 0 := by
  unfold ixI TD.kd
  cases h : ix T.df x T.dn with
  | some i => simp
  | none =>
    dsimp only
    cases r : ix T.bf x T.bn with
    | some j => have := (O.bkt.each j (ix_some r).1).2.2.1; simp; omega
    | none => simp
set_option maxRecDepth 100000 in
theorem specDomainOf (T : TD) (A : TA) (g x : Int) (w : World) (Z : T.Sz) (h : TIn w T A) {ok : Bool} (hok : ok = true ↔ T.Ok) :
    Calls Try.prog 25 #[A.val T, .int .i64 g, .int .i64 x] w (Ret (DomAns ok T g x) w) := by
  have LH := Lib.hid (lay w (.cells #[.slice A.da T.dn A.dc, .slice A.ba T.bn A.bc] 31))
  have X := Lib.hid (BxN.new w #[.slice A.da T.dn A.dc, .slice A.ba T.bn A.bc] 31)
  have K := Lib.hid (l06OK T A _ Z (h.below LH.out))
  have DB := Lib.hid (fun (O : T.Ok) w' (b : Below w.heap.size w w') => l08Domain T A g x w' Z O (h.below b))
  have DV := Lib.hid (fun w' (b : Below w.heap.size w w') => l06Device T A x w' Z (h.below b))
  have KD := Lib.hid (fun (O : T.Ok) => ixI_kd O x)
  have IB := Lib.hid (fun w' => l00In g 0 2 w')
  clear h Z
  obtain ⟨da, dc, ba, bc, I, C⟩ := A
  dsimp only at K LH DB DV X ⊢
  obtain ⟨dn, hdn⟩ : ∃ dn, dn = T.dn := ⟨_, rfl⟩
  obtain ⟨bn, hbn⟩ : ∃ bn, bn = T.bn := ⟨_, rfl⟩
  have E : ∀ a b c d I C, TA.val ⟨a, b, c, d, I, C⟩ T = tval (.slice a dn b) (.slice c bn d) := fun _ _ _ _ _ _ => by rw [hdn, hbn]
  rw [E] at K DB DV ⊢
  generalize ixI T.df x T.dn = iv at *
  rw [← hdn, ← hbn] at LH X K
  clear hdn hbn
  go_enter Try.func25, Try.ntmps25
  go_wp2_with fail
  refine K.out.mono ?_
  rintro e w1 ⟨b, rfl, H, b1⟩
  have B1 := Lib.hid (chain LH.out b1)
  have X1 := X.out.later b1
  have x0 := X1.cells 0 _ rfl
  have x1 := X1.cells 1 _ rfl
  have X1 := Lib.hid X1
  cases b
  · obtain rfl : ok = false := by cases ok; rfl; exact absurd (H.2 (hok.1 rfl)) (by simp)
    clear H hok
    go_wp2
    go_ret2
    exact ⟨rfl, B1.out⟩
  · have Y := H.1 rfl
    obtain rfl : ok = true := hok.2 Y
    have DB := Lib.hid (DB.out Y)
    have KD := Lib.hid (KD.out Y)
    clear H hok Y
    cases hi : inB g 0 2
    · rw [hi] at IB
      have V : Hid (DomAns true T g x = ErrV 2) := by show DomAns true T g x = _; unfold DomAns; rw [hi]; rfl
      clear hi DB
      go_wp2_with fail
      refine (IB.out _).mono ?_
      rintro e w2 ⟨rfl, rfl⟩
      go_wp2
      go_ret2
      exact ⟨by rw [V.out]; rfl, B1.out⟩
    · rw [hi] at IB
      have V : DomAns true T g x = DomV T g x := by unfold DomAns; rw [hi]; rfl
      have G0 : 0 ≤ g := (of_decide_eq_true hi).1
      clear hi
      by_cases hv : iv < 0
      · have V : Hid (DomAns true T g x = ErrV 3) := by show DomAns true T g x = _; rw [V]; unfold DomV; rw [if_neg (KD.out.1 hv)]
        clear G0 DB
        go_wp2_with fail
        refine (IB.out _).mono ?_
        rintro e w2 ⟨rfl, rfl⟩
        go_wp2_with fail
        refine (DV.out _ B1.out).mono ?_
        rintro e w3 ⟨rfl, b3⟩
        have B3 := Lib.hid (chain B1.out b3)
        clear b3
        go_wp2
        go_ret2
        exact ⟨by rw [V.out]; rfl, B3.out⟩
      · have k0 : T.kd x = 0 := Classical.byContradiction fun n => hv (KD.out.2 n)
        have V : DomAns true T g x = if g = 0 then .tuple #[.int .i64 x, .int .i64 0] else AbvV (abv T 5 x g) := by rw [V]; unfold DomV; rw [if_pos k0]
        clear k0 KD
        unfold AbvV at V
        unfold dom8 at DB
        generalize abv T 5 x g = r at *
        by_cases hg : g = 0
        · subst hg
          rw [if_pos rfl] at V DB
          have V := Lib.hid V
          clear G0
          go_wp2_with fail
          refine (IB.out _).mono ?_
          rintro e w2 ⟨rfl, rfl⟩
          go_wp2_with fail
          refine (DV.out _ B1.out).mono ?_
          rintro e w3 ⟨rfl, b3⟩
          have B3 := Lib.hid (chain B1.out b3)
          have X3 := X1.out.later b3
          clear b3 x0 x1
          have x0 := X3.cells 0 _ rfl
          have x1 := X3.cells 1 _ rfl
          go_wp2_with fail
          refine (DB.out _ B3.out).mono ?_
          rintro e w4 ⟨rfl, b4⟩
          have B4 := Lib.hid (chain B3.out b4)
          clear b4
          go_wp2
          go_ret2
          exact ⟨by rw [V.out]; rfl, B4.out⟩
        · rw [if_neg hg] at V DB
          have g' : 0 < g := by omega
          have V := Lib.hid V
          clear G0 hg
          by_cases hr : r = 0
          · subst hr
            go_wp2_with fail
            refine (IB.out _).mono ?_
            rintro e w2 ⟨rfl, rfl⟩
            go_wp2_with fail
            refine (DV.out _ B1.out).mono ?_
            rintro e w3 ⟨rfl, b3⟩
            have B3 := Lib.hid (chain B1.out b3)
            have X3 := X1.out.later b3
            clear b3 x0 x1
            have x0 := X3.cells 0 _ rfl
            have x1 := X3.cells 1 _ rfl
            go_wp2_with fail
            refine (DB.out _ B3.out).mono ?_
            rintro e w4 ⟨rfl, b4⟩
            have B4 := Lib.hid (chain B3.out b4)
            clear b4
            go_wp2
            go_ret2
            exact ⟨by rw [V.out]; rfl, B4.out⟩
          · rw [if_neg hr] at V
            have r' : (r == 0) = false := by simpa using hr
            clear hr
            go_wp2_with fail
            refine (IB.out _).mono ?_
            rintro e w2 ⟨rfl, rfl⟩
            go_wp2_with fail
            refine (DV.out _ B1.out).mono ?_
            rintro e w3 ⟨rfl, b3⟩
            have B3 := Lib.hid (chain B1.out b3)
            have X3 := X1.out.later b3
            clear b3 x0 x1
            have x0 := X3.cells 0 _ rfl
            have x1 := X3.cells 1 _ rfl
            go_wp2_with fail
            refine (DB.out _ B3.out).mono ?_
            rintro e w4 ⟨rfl, b4⟩
            have B4 := Lib.hid (chain B3.out b4)
            clear b4
            go_wp2
            go_ret2
            exact ⟨by rw [V.out]; rfl, B4.out⟩
end Go.Proofs.Ytoikdonecbpjaaa.Tm
