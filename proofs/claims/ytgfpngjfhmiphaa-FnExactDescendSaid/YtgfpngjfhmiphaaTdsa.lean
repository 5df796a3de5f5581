/-
  Descend: the program's answer and the model's.
-/
import Derived.Test.YtgfpngjfhmiphaaTdsc
namespace Go.Proofs.Ytgfpngjfhmiphaa.Tm
open Go.RowKit Go.Proofs.Ytgfpngjfhmiphaa.GfI Go.Proofs.Ytgfpngjfhmiphaa.GfS Go.Proofs.Ytgfpngjfhmiphaa.MixC
open Go.Proofs.Ytgfpngjfhmiphaa.It (lay chain Two)
open Go.Proofs.Ytgfpngjfhmiphaa.Ch (IntBoolB)
open Go.Proofs.Ytgfpngjfhmiphaa.Bk (Bks tval bval)
open Go.Proofs.Ytgfpngjfhmiphaa.Sg (BxN)
set_option linter.unusedVariables false
set_option linter.unusedSimpArgs false

def DscAns (ok : Bool) (T : TD) (x k seed try' : Int) : Value := if ok = true then (if inB k 0 3 = true then .tuple #[.int .i64 (dsc T seed try' k 5 x).1, .int .i64 (dsc T seed try' k 5 x).2] else ErrV 2) else ErrV 1
theorem DscAns_two (ok : Bool) (T : TD) (x k seed try' : Int) : ∃ r0 r1, DscAns ok T x k seed try' = .tuple #[.int .i64 r0, .int .i64 r1] := by
  unfold DscAns ErrV
  split
  · split
    · exact ⟨_, _, rfl⟩
    · exact ⟨_, _, rfl⟩
  · exact ⟨_, _, rfl⟩
/-- No way down: nothing found. -/
theorem dsc_err (T : TD) (s t k : Int) : ∀ (f : Nat) (x : Int), (dsc T s t k f x).2 ≠ 0 → dsc T s t k f x = (0, 3)
  | 0, x, h => absurd rfl h
  | f + 1, x, h => by
    by_cases hk : T.kd x = k
    · rw [dsc_yes hk] at h; exact absurd rfl h
    · by_cases hc : ciB T x s t = 0
      · rw [dsc_on hk hc] at h ⊢; exact dsc_err T s t k f _ h
      · exact dsc_no hk hc
set_option maxRecDepth 100000 in
theorem implDescend (T : TD) (A : TA) (x k seed try' : Int) (w : World) (Z : T.Sz) (WF : T.Wf) (hx : (Lit.int .i64 x).wf = true) (h : TIn w T A) {ok : Bool} (hok : ok = true ↔ T.Ok) :
    Calls Try.prog 26 #[A.val T, .int .i64 x, .int .i64 k, .int .i64 seed, .int .i64 try'] w (Ret (DscAns ok T x k seed try') w) := by
  have LH := Lib.hid (lay w (.cells #[.slice A.da T.dn A.dc, .slice A.ba T.bn A.bc] 33))
  have K := Lib.hid (partsOf T A _ Z WF (h.below LH.out))
  have WJ := Lib.hid (fun w' (b : Below w.heap.size w w') j (hj : j < T.bn) => bks_words (h.below b) hj)
  have WFH := Lib.hid WF
  clear h Z WF
  obtain ⟨da, dc, ba, bc, I, C⟩ := A
  dsimp only at K LH WJ ⊢
  go_enter Try.func26, Try.ntmps26
  go_wp2_with fail
  refine K.out.mono ?_
  rintro e w1 ⟨b1, ⟨N, rfl⟩ | ⟨Y, mb, p, q, base, U, S, rfl, hU, hP⟩⟩
  · have B1 := Lib.hid (chain LH.out b1)
    obtain rfl : ok = false := by cases ok; rfl; exact absurd (hok.1 rfl) N
    clear hok
    go_wp2
    go_ret2
    exact ⟨rfl, B1.out⟩
  · have B1 := Lib.hid (chain LH.out b1)
    obtain rfl : ok = true := hok.2 Y
    have W := Lib.hid (descend T mb p q x k seed try' w1 (hP.whole2 Y hU (WJ.out _ B1.out)) WFH.out hx)
    have IB := fun w' => Wi.isWithin k 0 3 (by omega) w'
    clear hP hU b1 hok Y WJ WFH
    cases hi : inB k 0 3
    · have V : Hid (DscAns true T x k seed try' = ErrV 2) := by show DscAns true T x k seed try' = _; unfold DscAns; rw [hi]; rfl
      have IB := Lib.hid (fun w' => show Calls _ _ _ _ fun e w'' => e = .returned (.bool false) ∧ w' = w'' from by have := IB w'; rwa [hi] at this)
      clear hi
      go_wp2_with fail
      refine (IB.out _).mono ?_
      rintro e w2 ⟨rfl, rfl⟩
      go_wp2
      go_ret2
      exact ⟨by rw [V.out]; rfl, B1.out⟩
    · have V : Hid (DscAns true T x k seed try' = .tuple #[.int .i64 (dsc T seed try' k 5 x).1, .int .i64 (dsc T seed try' k 5 x).2]) := by show DscAns true T x k seed try' = _; unfold DscAns; rw [hi]; rfl
      have IB := Lib.hid (fun w' => show Calls _ _ _ _ fun e w'' => e = .returned (.bool true) ∧ w' = w'' from by have := IB w'; rwa [hi] at this)
      clear hi
      generalize (dsc T seed try' k 5 x).1 = r0 at *
      generalize (dsc T seed try' k 5 x).2 = r1 at *
      go_wp2_with fail
      refine (IB.out _).mono ?_
      rintro e w2 ⟨rfl, rfl⟩
      go_wp2_with fail
      refine W.out.mono ?_
      rintro e w3 ⟨rfl, b3⟩
      have B3 := Lib.hid (chain B1.out b3)
      clear b3
      go_wp2
      go_ret2
      exact ⟨by rw [V.out]; rfl, B3.out⟩
set_option maxRecDepth 100000 in
theorem specDescend (T : TD) (A : TA) (x k seed try' : Int) (w : World) (Z : T.Sz) (h : TIn w T A) {ok : Bool} (hok : ok = true ↔ T.Ok) :
    Calls Try.prog 25 #[A.val T, .int .i64 x, .int .i64 k, .int .i64 seed, .int .i64 try'] w (Ret (DscAns ok T x k seed try') w) := by
  have LH := Lib.hid (lay w (.cells #[.slice A.da T.dn A.dc, .slice A.ba T.bn A.bc] 33))
  have X := Lib.hid (BxN.new w #[.slice A.da T.dn A.dc, .slice A.ba T.bn A.bc] 33)
  have K := Lib.hid (l06OK T A _ Z (h.below LH.out))
  have DS := Lib.hid (fun (O : T.Ok) w' (b : Below w.heap.size w w') => l07Descend T Z O x k seed try' A w' (h.below b))
  have IB := fun w' => l00In k 0 3 w'
  clear h Z
  obtain ⟨da, dc, ba, bc, I, C⟩ := A
  dsimp only at K LH DS X ⊢
  obtain ⟨dn, hdn⟩ : ∃ dn, dn = T.dn := ⟨_, rfl⟩
  obtain ⟨bn, hbn⟩ : ∃ bn, bn = T.bn := ⟨_, rfl⟩
  have E : ∀ a b c d I C, TA.val ⟨a, b, c, d, I, C⟩ T = tval (.slice a dn b) (.slice c bn d) := fun _ _ _ _ _ _ => by rw [hdn, hbn]
  rw [E] at K DS ⊢
  rw [← hdn, ← hbn] at LH X K
  clear hdn hbn
  go_enter Try.func25, Try.ntmps25
  go_wp2_with fail
  refine K.out.mono ?_
  rintro e w1 ⟨b, rfl, H, b1⟩
  have B1 := Lib.hid (chain LH.out b1)
  have X1 := X.out.later b1
  have x0 := X1.cells 0 _ rfl
  have x1 := X1.cells 1 _ rfl
  clear b1 X1
  cases b
  · obtain rfl : ok = false := by cases ok; rfl; exact absurd (H.2 (hok.1 rfl)) (by simp)
    clear H hok
    go_wp2
    go_ret2
    exact ⟨rfl, B1.out⟩
  · have Y := H.1 rfl
    obtain rfl : ok = true := hok.2 Y
    have DS := DS.out Y
    clear H hok Y
    cases hi : inB k 0 3
    · have V : Hid (DscAns true T x k seed try' = ErrV 2) := by show DscAns true T x k seed try' = _; unfold DscAns; rw [hi]; rfl
      have IB := Lib.hid (fun w' => show Calls _ _ _ _ fun e w'' => e = .returned (.bool false) ∧ w' = w'' from by have := IB w'; rwa [hi] at this)
      clear hi DS
      go_wp2_with fail
      refine (IB.out _).mono ?_
      rintro e w2 ⟨rfl, rfl⟩
      go_wp2
      go_ret2
      exact ⟨by rw [V.out]; rfl, B1.out⟩
    · have V : DscAns true T x k seed try' = .tuple #[.int .i64 (dsc T seed try' k 5 x).1, .int .i64 (dsc T seed try' k 5 x).2] := by unfold DscAns; rw [hi]; rfl
      have IB := Lib.hid (fun w' => show Calls _ _ _ _ fun e w'' => e = .returned (.bool true) ∧ w' = w'' from by have := IB w'; rwa [hi] at this)
      clear hi
      by_cases hb : (dsc T seed try' k 5 x).2 = 0
      · rw [hb] at V
        simp only [hb, show decide ((0 : Int) = 0) = true from rfl] at DS
        have V := Lib.hid V
        have DS := Lib.hid DS
        clear hb
        generalize (dsc T seed try' k 5 x).1 = r0 at *
        go_wp2_with fail
        refine (IB.out _).mono ?_
        rintro e w2 ⟨rfl, rfl⟩
        go_wp2_with fail
        refine (DS.out _ B1.out).mono ?_
        rintro e w2 ⟨rfl, b2⟩
        have B2 := Lib.hid (chain B1.out b2)
        clear b2
        go_wp2
        go_ret2
        exact ⟨by rw [V.out]; rfl, B2.out⟩
      · have e := dsc_err T seed try' k 5 x hb
        rw [e] at V
        simp only [e, show decide ((3 : Int) = 0) = false from rfl] at DS
        have V := Lib.hid V
        have DS := Lib.hid DS
        clear hb e
        go_wp2_with fail
        refine (IB.out _).mono ?_
        rintro e w2 ⟨rfl, rfl⟩
        go_wp2_with fail
        refine (DS.out _ B1.out).mono ?_
        rintro e w2 ⟨rfl, b2⟩
        have B2 := Lib.hid (chain B1.out b2)
        clear b2
        go_wp2
        go_ret2
        exact ⟨by rw [V.out]; rfl, B2.out⟩
end Go.Proofs.Ytgfpngjfhmiphaa.Tm
