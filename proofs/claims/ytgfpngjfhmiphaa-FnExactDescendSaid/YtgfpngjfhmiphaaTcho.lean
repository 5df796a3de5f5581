/-
  ChooseIn: the program's answer and the model's.
-/
import Derived.Test.YtgfpngjfhmiphaaTchs
namespace Go.Proofs.Ytgfpngjfhmiphaa.Tm
open Go.RowKit Go.Proofs.Ytgfpngjfhmiphaa.GfI Go.Proofs.Ytgfpngjfhmiphaa.GfS Go.Proofs.Ytgfpngjfhmiphaa.MixC
open Go.Proofs.Ytgfpngjfhmiphaa.It (lay chain Two)
open Go.Proofs.Ytgfpngjfhmiphaa.Ch (chA chB IntBoolB tsN sel)
open Go.Proofs.Ytgfpngjfhmiphaa.Bk (Bks tval bval)
open Go.Proofs.Ytgfpngjfhmiphaa.Sg (BxN)
set_option linter.unusedVariables false
set_option linter.unusedSimpArgs false

def ChAns (ok : Bool) (T : TD) (x seed try' : Int) : Value := if ok = true then .tuple #[.int .i64 (ciA T x seed try'), .int .i64 (ciB T x seed try')] else ErrV 1
theorem ChAns_two (ok : Bool) (T : TD) (x seed try' : Int) : ∃ r0 r1, ChAns ok T x seed try' = .tuple #[.int .i64 r0, .int .i64 r1] := by
  unfold ChAns ErrV
  split
  · exact ⟨_, _, rfl⟩
  · exact ⟨_, _, rfl⟩
/-- No ticket: nothing chosen. -/
theorem ci_none {T : TD} {x seed try' : Int} (h : ciB T x seed try' ≠ 0) : ciA T x seed try' = 0 ∧ ciB T x seed try' = 3 := by
  unfold ciA ciB at *
  cases hx : ix T.bf x T.bn with
  | none => exact ⟨rfl, rfl⟩
  | some j =>
    rw [hx] at h
    dsimp only at h ⊢
    unfold chB at h ⊢
    unfold chA
    split at h
    · rename_i e
      rw [if_pos e, List.eq_nil_of_length_eq_zero e]
      exact ⟨rfl, rfl⟩
    · exact absurd rfl h
set_option maxRecDepth 100000 in
theorem implChooseIn (T : TD) (A : TA) (x seed try' : Int) (w : World) (Z : T.Sz) (WF : T.Wf) (hx : (Lit.int .i64 x).wf = true) (h : TIn w T A) {ok : Bool} (hok : ok = true ↔ T.Ok) :
    Calls Try.prog 24 #[A.val T, .int .i64 x, .int .i64 seed, .int .i64 try'] w (Ret (ChAns ok T x seed try') w) := by
  have LH := Lib.hid (lay w (.cells #[.slice A.da T.dn A.dc, .slice A.ba T.bn A.bc] 33))
  have K := Lib.hid (partsOf T A _ Z WF (h.below LH.out))
  have WJ := Lib.hid (fun w' (b : Below w.heap.size w w') j (hj : j < T.bn) => bks_words (h.below b) hj)
  clear h Z WF
  obtain ⟨da, dc, ba, bc, I, C⟩ := A
  dsimp only at K LH WJ ⊢
  go_enter Try.func24, Try.ntmps24
  go_wp2_with fail
  refine K.out.mono ?_
  rintro e w1 ⟨b1, ⟨N, rfl⟩ | ⟨Y, mb, p, q, base, U, S, rfl, hU, hP⟩⟩
  · have B1 := Lib.hid (chain LH.out b1)
    obtain rfl : ok = false := by cases ok; rfl; exact absurd (hok.1 rfl) N
    clear hok
    go_wp2
    go_ret2
    exact ⟨rfl, B1.out⟩
  · have B1 := Lib.hid (chain LH.out b1)
    obtain rfl : ok = true := hok.2 Y
    have CI := Lib.hid (chooseIn T mb p q x seed try' w1 (hP.whole2 Y hU (WJ.out _ B1.out)) hx)
    have V : Hid (ChAns true T x seed try' = .tuple #[.int .i64 (ciA T x seed try'), .int .i64 (ciB T x seed try')]) := rfl
    clear hP hU b1 hok Y WJ
    generalize ciA T x seed try' = r0 at *
    generalize ciB T x seed try' = r1 at *
    go_wp2_with fail
    refine CI.out.mono ?_
    rintro e w2 ⟨rfl, b2⟩
    have B2 := Lib.hid (chain B1.out b2)
    clear b2
    go_wp2
    go_ret2
    exact ⟨by rw [V.out]; rfl, B2.out⟩
set_option maxRecDepth 100000 in
theorem specChooseIn (T : TD) (A : TA) (x seed try' : Int) (w : World) (Z : T.Sz) (h : TIn w T A) {ok : Bool} (hok : ok = true ↔ T.Ok) :
    Calls Try.prog 23 #[A.val T, .int .i64 x, .int .i64 seed, .int .i64 try'] w (Ret (ChAns ok T x seed try') w) := by
  have LH := Lib.hid (lay w (.cells #[.slice A.da T.dn A.dc, .slice A.ba T.bn A.bc] 33))
  have X := Lib.hid (BxN.new w #[.slice A.da T.dn A.dc, .slice A.ba T.bn A.bc] 33)
  have K := Lib.hid (l06OK T A _ Z (h.below LH.out))
  have CI := Lib.hid (fun (O : T.Ok) w' (b : Below w.heap.size w w') => l07In T Z O x seed try' A w' (h.below b))
  clear h Z
  obtain ⟨da, dc, ba, bc, I, C⟩ := A
  dsimp only at K LH CI X ⊢
  obtain ⟨dn, hdn⟩ : ∃ dn, dn = T.dn := ⟨_, rfl⟩
  obtain ⟨bn, hbn⟩ : ∃ bn, bn = T.bn := ⟨_, rfl⟩
  have E : ∀ a b c d I C, TA.val ⟨a, b, c, d, I, C⟩ T = tval (.slice a dn b) (.slice c bn d) := fun _ _ _ _ _ _ => by rw [hdn, hbn]
  rw [E] at K CI ⊢
  rw [← hdn, ← hbn] at LH X K
  clear hdn hbn
  go_enter Try.func23, Try.ntmps23
  go_wp2_with fail
  refine K.out.mono ?_
  rintro e w1 ⟨b, rfl, H, b1⟩
  have B1 := Lib.hid (chain LH.out b1)
  have X1 := X.out.later b1
  have x0 := X1.cells 0 _ rfl
  have x1 := X1.cells 1 _ rfl
  clear b1 X1
  cases b
  · obtain rfl : ok = false := by cases ok; rfl; exact absurd (H.2 (hok.1 rfl)) (by simp)
    clear H hok
    go_wp2
    go_ret2
    exact ⟨rfl, B1.out⟩
  · have Y := H.1 rfl
    obtain rfl : ok = true := hok.2 Y
    have CI2 := Lib.hid (CI.out Y)
    clear H hok Y CI
    have V : ChAns true T x seed try' = .tuple #[.int .i64 (ciA T x seed try'), .int .i64 (ciB T x seed try')] := rfl
    by_cases hb : ciB T x seed try' = 0
    · rw [hb] at V CI2
      rw [show decide ((0 : Int) = 0) = true from rfl] at CI2
      have V := Lib.hid V
      clear hb
      generalize ciA T x seed try' = r0 at *
      go_wp2_with fail
      refine (CI2.out _ B1.out).mono ?_
      rintro e w2 ⟨rfl, b2⟩
      have B2 := Lib.hid (chain B1.out b2)
      clear b2
      go_wp2
      go_ret2
      exact ⟨by rw [V.out]; rfl, B2.out⟩
    · obtain ⟨e1, e2⟩ := ci_none hb
      rw [e1, e2] at V CI2
      rw [show decide ((3 : Int) = 0) = false from rfl] at CI2
      have V := Lib.hid V
      clear hb e1 e2
      go_wp2_with fail
      refine (CI2.out _ B1.out).mono ?_
      rintro e w2 ⟨rfl, b2⟩
      have B2 := Lib.hid (chain B1.out b2)
      clear b2
      go_wp2
      go_ret2
      exact ⟨by rw [V.out]; rfl, B2.out⟩
end Go.Proofs.Ytgfpngjfhmiphaa.Tm
