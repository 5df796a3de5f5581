/-
  WeightOf: the program's answer and the model's.
-/
import Derived.Test.YtoikdonecbpjaaaTund2
namespace Go.Proofs.Ytoikdonecbpjaaa.Tm
open Go.RowKit Go.Proofs.Ytoikdonecbpjaaa.GfI Go.Proofs.Ytoikdonecbpjaaa.GfS Go.Proofs.Ytoikdonecbpjaaa.MixC
open Go.Proofs.Ytoikdonecbpjaaa.It (lay chain)
open Go.Proofs.Ytoikdonecbpjaaa.Bk (Bks tval bval)
open Go.Proofs.Ytoikdonecbpjaaa.Sg (BxN)
set_option linter.unusedVariables false
set_option linter.unusedSimpArgs false

def WAns (ok : Bool) (T : TD) (x : Int) : Value := if ok = true then (if T.kd x < 0 then ErrV 3 else .tuple #[.int .i64 (wt T 4 x), .int .i64 0]) else ErrV 1
theorem WAns_two (ok : Bool) (T : TD) (x : Int) : ∃ r0 r1, WAns ok T x = .tuple #[.int .i64 r0, .int .i64 r1] := by
  unfold WAns ErrV
  split
  · split
    · exact ⟨_, _, rfl⟩
    · exact ⟨_, _, rfl⟩
  · exact ⟨_, _, rfl⟩
/-- The weight of a thing that is there, whatever it is. -/
theorem Whole.weight {T : TD} {mb p q : Nat} {w : World} (h : Whole T mb p q w) {x : Int} (h0 : 0 ≤ T.kd x) : HasW T p q 4 x w :=
  hasW h h0 (fun j hj e => branchWeight T mb p q w h 3 j (Nat.le_refl _) hj (by have := (h.ok.bkt.each j hj).2.2.2.1; omega))
set_option maxRecDepth 100000 in
theorem implWeightOf (T : TD) (A : TA) (x : Int) (w : World) (Z : T.Sz) (WF : T.Wf) (hx : (Lit.int .i64 x).wf = true) (h : TIn w T A) {ok : Bool} (hok : ok = true ↔ T.Ok) :
    Calls Try.prog 28 #[A.val T, .int .i64 x] w (Ret (WAns ok T x) w) := by
  have LH := Lib.hid (lay w (.cells #[.slice A.da T.dn A.dc, .slice A.ba T.bn A.bc] 31))
  have K := Lib.hid (partsOf T A _ Z WF (h.below LH.out))
  clear h Z WF
  obtain ⟨da, dc, ba, bc, I, C⟩ := A
  dsimp only at K LH ⊢
  go_enter Try.func28, Try.ntmps28
  go_wp2_with fail
  refine K.out.mono ?_
  rintro e w1 ⟨b1, ⟨N, rfl⟩ | ⟨Y, mb, p, q, base, U, S, rfl, hU, hP⟩⟩
  · have B1 := Lib.hid (chain LH.out b1)
    obtain rfl : ok = false := by cases ok; rfl; exact absurd (hok.1 rfl) N
    clear hok
    go_wp2
    go_ret2
    exact ⟨rfl, B1.out⟩
  · have B1 := Lib.hid (chain LH.out b1)
    obtain rfl : ok = true := hok.2 Y
    have HW := hP.whole Y hU
    have L := HW.look2 x hx
    have WT := Lib.hid (fun (h0 : 0 ≤ T.kd x) => HW.weight h0)
    have TC := thg_cases (T := T) p q x
    have GE := kd_ge Y.bkt x
    clear hP hU b1 hok
    by_cases h0 : T.kd x < 0
    · have V : Hid (WAns true T x = ErrV 3) := by show WAns true T x = _; unfold WAns; rw [if_pos rfl, if_pos h0]
      have e : thg T p q T.dn T.bn x = .nilIface := by
        rcases TC with ⟨_, _, _, hk, _⟩ | ⟨j, hj, _, hk, _⟩ | ⟨_, ht⟩
        · omega
        · have := (Y.bkt.each j hj).2.2.1; omega
        · exact ht
      rw [e] at L
      clear TC GE h0 Y WT HW e
      go_wp2
      go_ret2
      exact ⟨by rw [V.out]; rfl, B1.out⟩
    · have V : Hid (WAns true T x = .tuple #[.int .i64 (wt T 4 x), .int .i64 0]) := by show WAns true T x = _; unfold WAns; rw [if_pos rfl, if_neg h0]
      obtain ⟨t, d, ht, hcall⟩ := WT.out (by omega)
      rw [ht] at L
      clear TC GE h0 Y WT HW ht
      generalize wt T 4 x = r at *
      rcases hcall with ⟨rfl, CL⟩ | ⟨rfl, CL⟩
      · have M := weightML d
        have CL := Lib.hid CL
        go_wp2_with fail
        refine CL.out.mono ?_
        rintro e w2 ⟨rfl, rfl⟩
        go_wp2
        go_ret2
        exact ⟨by rw [V.out]; rfl, B1.out⟩
      · have M := weightMB d
        have CL := Lib.hid CL
        go_wp2_with fail
        refine CL.out.mono ?_
        rintro e w2 ⟨rfl, rfl⟩
        go_wp2
        go_ret2
        exact ⟨by rw [V.out]; rfl, B1.out⟩
set_option maxRecDepth 100000 in
theorem specWeightOf (T : TD) (A : TA) (x : Int) (w : World) (Z : T.Sz) (h : TIn w T A) {ok : Bool} (hok : ok = true ↔ T.Ok) :
    Calls Try.prog 27 #[A.val T, .int .i64 x] w (Ret (WAns ok T x) w) := by
  have LH := Lib.hid (lay w (.cells #[.slice A.da T.dn A.dc, .slice A.ba T.bn A.bc] 31))
  have X := Lib.hid (BxN.new w #[.slice A.da T.dn A.dc, .slice A.ba T.bn A.bc] 31)
  have K := Lib.hid (l06OK T A _ Z (h.below LH.out))
  have KD := Lib.hid (fun w' (b : Below w.heap.size w w') => l06Kind T A x w' Z (h.below b))
  have WT := Lib.hid (fun (O : T.Ok) (h0 : 0 ≤ T.kd x) w' (b : Below w.heap.size w w') => l06Weight T Z O x A w' h0 (h.below b))
  clear h Z
  obtain ⟨da, dc, ba, bc, I, C⟩ := A
  dsimp only at K LH KD WT X ⊢
  obtain ⟨dn, hdn⟩ : ∃ dn, dn = T.dn := ⟨_, rfl⟩
  obtain ⟨bn, hbn⟩ : ∃ bn, bn = T.bn := ⟨_, rfl⟩
  have E : ∀ a b c d I C, TA.val ⟨a, b, c, d, I, C⟩ T = tval (.slice a dn b) (.slice c bn d) := fun _ _ _ _ _ _ => by rw [hdn, hbn]
  rw [E] at K KD WT ⊢
  rw [← hdn, ← hbn] at LH X K
  clear hdn hbn
  go_enter Try.func27, Try.ntmps27
  go_wp2_with fail
  refine K.out.mono ?_
  rintro e w1 ⟨b, rfl, H, b1⟩
  have B1 := Lib.hid (chain LH.out b1)
  have X1 := X.out.later b1
  have x0 := X1.cells 0 _ rfl
  have x1 := X1.cells 1 _ rfl
  have X1 := Lib.hid X1
  clear b1
  cases b
  · obtain rfl : ok = false := by cases ok; rfl; exact absurd (H.2 (hok.1 rfl)) (by simp)
    clear H hok
    go_wp2
    go_ret2
    exact ⟨rfl, B1.out⟩
  · have Y := H.1 rfl
    obtain rfl : ok = true := hok.2 Y
    have WT := Lib.hid (WT.out Y)
    clear H hok Y
    by_cases h0 : T.kd x < 0
    · have V : Hid (WAns true T x = ErrV 3) := by show WAns true T x = _; unfold WAns; rw [if_pos rfl, if_pos h0]
      generalize T.kd x = kx at *
      clear WT
      go_wp2_with fail
      refine (KD.out _ B1.out).mono ?_
      rintro e w2 ⟨rfl, b2⟩
      have B2 := Lib.hid (chain B1.out b2)
      clear b2
      go_wp2
      go_ret2
      exact ⟨by rw [V.out]; rfl, B2.out⟩
    · have V : Hid (WAns true T x = .tuple #[.int .i64 (wt T 4 x), .int .i64 0]) := by show WAns true T x = _; unfold WAns; rw [if_pos rfl, if_neg h0]
      have h1 : 0 ≤ T.kd x := by omega
      have WT3 := Lib.hid (WT.out h1)
      clear h1 WT
      generalize T.kd x = kx at *
      generalize wt T 4 x = r at *
      go_wp2_with fail
      refine (KD.out _ B1.out).mono ?_
      rintro e w2 ⟨rfl, b2⟩
      have B2 := Lib.hid (chain B1.out b2)
      have X2 := X1.out.later b2
      clear b2 x0 x1
      have x0 := X2.cells 0 _ rfl
      have x1 := X2.cells 1 _ rfl
      clear X2
      go_wp2_with fail
      refine (WT3.out _ B2.out).mono ?_
      rintro e w3 ⟨rfl, b3⟩
      have B3 := Lib.hid (chain B2.out b3)
      clear b3
      go_wp2
      go_ret2
      exact ⟨by rw [V.out]; rfl, B3.out⟩
end Go.Proofs.Ytoikdonecbpjaaa.Tm
