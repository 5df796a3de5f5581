/-
  The exact law of ChooseOne: the program's answer is the model's, and the items are left as they were.
-/
import Derived.Test.YtmndkmkknkodhaaChoose2
import Derived.Test.YtmndkmkknkodhaaLawItemsOk
namespace Go.Proofs.Ytmndkmkknkodhaa.Ch
open Go.RowKit Go.Proofs.Ytmndkmkknkodhaa.It Go.Proofs.Ytmndkmkknkodhaa.Rc
set_option linter.unusedVariables false

def coA (n : Nat) (f g : Nat → Int) (seed try' : Int) : Int := if okL n f g = true then chA n f g seed try' else 0
def coB (n : Nat) (f g : Nat → Int) (seed try' : Int) : Int := if okL n f g = true then chB n f g seed try' else 1
theorem okL_all {n : Nat} {f g : Nat → Int} (h : okL n f g = true) : ∀ i, i < n → okI (f i) (g i) = true := (of_decide_eq_true h).2.1

set_option maxRecDepth 100000 in
theorem implChooseOne (a : Option Addr) (cap n : Nat) (f g : Nat → Int) (seed try' : Int) (w : World) (hl : n ≤ 2097152) (ha : Recs w a n f g) (hwf : ∀ i, i < n → (Lit.int .i64 (f i)).wf = true) :
    Calls Try.prog 27 #[.slice a n cap, .int .i64 seed, .int .i64 try'] w (Two (coA n f g seed try') (coB n f g seed try') w) := by
  have O := implItemsOk a cap n f g w hl ha hwf
  cases o : okL n f g
  · have E1 : coA n f g seed try' = 0 := by unfold coA; rw [if_neg (by rw [o]; simp)]
    have E2 : coB n f g seed try' = 1 := by unfold coB; rw [if_neg (by rw [o]; simp)]
    rw [E1, E2]
    rw [o] at O
    have O := Lib.hid O
    clear E1 E2 o ha hwf
    go_enter Try.func27, Try.ntmps27
    go_wp2_with fail
    refine O.out.mono ?_
    rintro e w1 ⟨rfl, b1⟩
    go_wp2
    go_ret2
    exact ⟨rfl, b1⟩
  · have E1 : coA n f g seed try' = chA n f g seed try' := by unfold coA; rw [if_pos o]
    have E2 : coB n f g seed try' = chB n f g seed try' := by unfold coB; rw [if_pos o]
    rw [E1, E2]
    have C := Lib.hid (fun w' (b : Below w.heap.size w w') => implChoose1 a cap n f g seed try' w' hl (ha.below b) (okL_all o))
    rw [o] at O
    have O := Lib.hid O
    clear E1 E2 o ha hwf
    generalize chA n f g seed try' = x at *
    generalize chB n f g seed try' = y at *
    go_enter Try.func27, Try.ntmps27
    go_wp2_with fail
    refine O.out.mono ?_
    rintro e w1 ⟨rfl, b1⟩
    have B1 := Lib.hid b1
    clear b1
    go_wp2_with fail
    refine (C.out _ B1.out).mono ?_
    rintro e w2 ⟨rfl, b2⟩
    have B2 := Lib.hid (chain B1.out b2)
    clear b2
    go_wp2
    go_ret2
    exact ⟨rfl, B2.out⟩

set_option maxRecDepth 100000 in
theorem specChooseOne (a : Option Addr) (cap n : Nat) (f g : Nat → Int) (seed try' : Int) (w : World) (hl : n ≤ 2097152) (ha : Recs w a n f g) :
    Calls Try.prog 62 #[.slice a n cap, .int .i64 seed, .int .i64 try'] w (Two (coA n f g seed try') (coB n f g seed try') w) := by
  have O := l07OK a cap n f g w hl ha
  cases o : okL n f g
  · have E1 : coA n f g seed try' = 0 := by unfold coA; rw [if_neg (by rw [o]; simp)]
    have E2 : coB n f g seed try' = 1 := by unfold coB; rw [if_neg (by rw [o]; simp)]
    rw [E1, E2]
    rw [o] at O
    have O := Lib.hid O
    clear E1 E2 o ha
    go_enter Try.func62, Try.ntmps62
    go_wp2_with fail
    refine O.out.mono ?_
    rintro e w1 ⟨rfl, b1⟩
    go_wp2
    go_ret2
    exact ⟨rfl, b1⟩
  · have C := Lib.hid (fun w' (b : Below w.heap.size w w') => l07Choose a cap n f g seed try' w' hl (ha.below b) (okL_all o))
    rw [o] at O
    have O := Lib.hid O
    by_cases h0 : (tsN f g seed try' n).length = 0
    · have E1 : coA n f g seed try' = 0 := by unfold coA chA; rw [if_pos o, List.eq_nil_of_length_eq_zero h0]; rfl
      have E2 : coB n f g seed try' = 3 := by unfold coB chB; rw [if_pos o, if_pos h0]
      rw [E1, E2]
      rw [decide_eq_true h0] at C
      clear E1 E2 o ha h0
      generalize chA n f g seed try' = x at *
      go_enter Try.func62, Try.ntmps62
      go_wp2_with fail
      refine O.out.mono ?_
      rintro e w1 ⟨rfl, b1⟩
      have B1 := Lib.hid b1
      clear b1
      go_wp2_with fail
      refine (C.out _ B1.out).mono ?_
      rintro e w2 ⟨rfl, b2⟩
      have B2 := Lib.hid (chain B1.out b2)
      clear b2
      go_wp2
      go_ret2
      exact ⟨rfl, B2.out⟩
    · have E1 : coA n f g seed try' = chA n f g seed try' := by unfold coA; rw [if_pos o]
      have E2 : coB n f g seed try' = 0 := by unfold coB chB; rw [if_pos o, if_neg h0]
      rw [E1, E2]
      rw [decide_eq_false h0] at C
      clear E1 E2 o ha h0
      generalize chA n f g seed try' = x at *
      go_enter Try.func62, Try.ntmps62
      go_wp2_with fail
      refine O.out.mono ?_
      rintro e w1 ⟨rfl, b1⟩
      have B1 := Lib.hid b1
      clear b1
      go_wp2_with fail
      refine (C.out _ B1.out).mono ?_
      rintro e w2 ⟨rfl, b2⟩
      have B2 := Lib.hid (chain B1.out b2)
      clear b2
      go_wp2
      go_ret2
      exact ⟨rfl, B2.out⟩

set_option maxRecDepth 100000 in
set_option maxHeartbeats 1000000 in
theorem fnChooseOne (a : Option Addr) (n cap : Nat) (f g : Nat → Int) (seed try' : Int) (w : World) (w0 : RecArg w a n f g) (w1 : (Lit.int .i64 seed).wf = true) (w2 : (Lit.int .i64 try').wf = true) :
    Calls Try.prog 13 #[.slice a n cap, .int .i64 seed, .int .i64 try'] w fun e w' => e = .returned (.bool true) ∧ Below w.heap.size w w' := by
  obtain ⟨hlen, hr, hwf⟩ := w0
  have SZ := szItemS a n cap 1048576 hlen (by omega) (by omega)
  clear w1 w2
  by_cases q : (n : Int) ≤ 1048576
  · simp only [if_pos q] at SZ
    have SZ := Lib.hid SZ
    have T := Lib.hid (fun w' (b : Below w.heap.size w w') => toItemS a cap n f g w' (by omega) (hr.below b))
    have S := Lib.hid (fun w' p (K : Recs w' (some ⟨p, 0, none⟩) n f g) => specChooseOne (some ⟨p, 0, none⟩) n n f g seed try' w' (by omega) K)
    have I := Lib.hid (fun w' p (K : Recs w' (some ⟨p, 0, none⟩) n f g) => implChooseOne (some ⟨p, 0, none⟩) n n f g seed try' w' (by omega) K (fun i hi => (hwf i hi).1))
    have Q := Lib.hid (fun w' p1 p2 (K1 : Recs w' (some ⟨p1, 0, none⟩) n f g) (K2 : Recs w' (some ⟨p2, 0, none⟩) n f g) => eqItemS (some ⟨p1, 0, none⟩) (some ⟨p2, 0, none⟩) n n n f g w' (by omega) K1 K2)
    clear hr hwf
    generalize coA n f g seed try' = x at S I
    generalize coB n f g seed try' = y at S I
    go_enter Try.func13, Try.ntmps13
    go_wp2_with fail
    refine (SZ.out _).mono ?_
    rintro e w1 ⟨rfl, rfl⟩
    go_wp2_with fail
    refine (T.out _ (Below.refl _ _)).mono ?_
    rintro e w2 ⟨p1, rfl, K1⟩
    go_wp2_with fail
    refine (S.out _ p1 K1.recs).mono ?_
    rintro e w3 ⟨rfl, b3⟩
    have B3 := Lib.hid (chain K1.below b3)
    clear K1 b3
    go_wp2_with fail
    refine (T.out _ B3.out).mono ?_
    rintro e w4 ⟨p2, rfl, K2⟩
    have B4 := Lib.hid (chain B3.out K2.below)
    go_wp2_with fail
    refine (I.out _ p2 K2.recs).mono ?_
    rintro e w5 ⟨rfl, b5⟩
    have B5 := Lib.hid (chain B4.out b5)
    have X2 := Lib.hid (K2.recs.below b5)
    clear K2 b5
    go_wp2_with fail
    refine (T.out _ B5.out).mono ?_
    rintro e w6 ⟨p3, rfl, K3⟩
    have X3 := Lib.hid (X2.out.below K3.below)
    have Y3 := Lib.hid K3.recs
    have B6 := Lib.hid (chain B5.out K3.below)
    clear K3
    go_wp2_with fail
    refine (Q.out _ p2 p3 X3.out Y3.out).mono ?_
    rintro e w7 ⟨rfl, b7⟩
    have B7 := Lib.hid (chain B6.out b7)
    clear b7
    go_wp2
    go_ret
    exact ⟨rfl, B7.out⟩
  · simp only [if_neg q] at SZ
    have SZ := Lib.hid SZ
    go_enter Try.func13, Try.ntmps13
    go_wp2_with fail
    refine (SZ.out _).mono ?_
    rintro e w1 ⟨rfl, rfl⟩
    go_wp2
    go_ret
    exact ⟨rfl, Below.refl _ _⟩
end Go.Proofs.Ytmndkmkknkodhaa.Ch
