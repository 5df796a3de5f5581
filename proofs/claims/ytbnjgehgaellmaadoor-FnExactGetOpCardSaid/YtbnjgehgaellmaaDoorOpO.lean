/-
  Whether an operation on an object is valid: what the program and the model answer.
-/
import Derived.Test.YtbnjgehgaellmaaDoorDOp
import Derived.Test.YtbnjgehgaellmaaDoorCode
import Derived.BigQuiet
namespace Go.Proofs.YtbnjgehgaellmaaDoor.Rd
open Go.RowKit Go.ChangeShapes Go.WideShapes Go.Proofs.YtbnjgehgaellmaaDoor.GfI Go.Proofs.YtbnjgehgaellmaaDoor.GfS Go.Proofs.YtbnjgehgaellmaaDoor.Cd
open Go.Proofs.YtbnjgehgaellmaaDoor.Sg (BxN)
set_option linter.unusedVariables false
set_option linter.unusedSimpArgs false

def okO (k m K A : Int) (S : ByteArray) : Bool :=
  okC k m && (if K = 1 then (A == 0) && S.toList.isEmpty else if K = 2 then (A == 0) && decide (S.size ≤ 64)
    else if K = 3 then (k == 1) && inB A 0 64 && decide (S.size ≤ 64) else if K = 4 then (k == 1) && (A == 0) && decide (S.size ≤ 64)
    else if K = 5 then (k == 1) && inB A 0 64 && S.toList.isEmpty else if K = 6 then (A == 0) && S.toList.isEmpty else false)
theorem drewB {B : Nat} {a w : World} (h : Below B a w) (q : Nat) : Below B a (w.drewN q) := ⟨h.os, h.tape, h.output, h.size, h.block⟩
theorem isBodySize (s : Int) (w : World) : Calls Tryd.prog 30 #[.int .i64 s] w fun e w' => e = .returned (.bool (inB s 0 64)) ∧ w = w' := by
  by_cases h0 : 0 ≤ s
  · by_cases h1 : s ≤ 64
    · rw [inB_yes h0 h1]
      go_enter Tryd.func30, Tryd.ntmps30
      go_wp2
      go_ret
      exact ⟨rfl, rfl⟩
    · have E : inB s 0 64 = false := by unfold inB; exact decide_eq_false (by omega)
      rw [E]
      clear E
      go_enter Tryd.func30, Tryd.ntmps30
      go_wp2
      go_ret
      exact ⟨rfl, rfl⟩
  · have E : inB s 0 64 = false := by unfold inB; exact decide_eq_false (by omega)
    rw [E]
    clear E
    go_enter Tryd.func30, Tryd.ntmps30
    go_wp2
    go_ret
    exact ⟨rfl, rfl⟩
theorem inB_nat (n : Nat) : inB (n : Int) 0 64 = decide (n ≤ 64) := by
  by_cases h : n ≤ 64
  · rw [inB_yes (by omega) (by omega), decide_eq_true h]
  · unfold inB; rw [decide_eq_false (by omega), decide_eq_false h]
theorem isBody (s : ByteArray) (w : World) : Calls Tryd.prog 29 #[.string s] w fun e w' => e = .returned (.bool (decide (s.size ≤ 64))) ∧ w = w' := by
  have H := Lib.hid (isBodySize (s.size : Int))
  rw [inB_nat] at H
  have H2 := Lib.hid H.out
  clear H
  generalize decide (s.size ≤ 64) = b at *
  go_enter Tryd.func29, Tryd.ntmps29
  go_wp2_with fail
  refine (H2.out _).mono ?_
  rintro e w1 ⟨rfl, rfl⟩
  go_wp2
  go_ret
  exact ⟨rfl, rfl⟩
theorem implIN (A : Int) : ∀ w, Calls Tryd.prog 30 #[.int .i64 A] w fun e w' => e = .returned (.bool (inB A 0 64)) ∧ w = w' := isBodySize A
theorem implIB (S : ByteArray) : ∀ w, Calls Tryd.prog 29 #[.string S] w fun e w' => e = .returned (.bool (decide (S.size ≤ 64))) ∧ w = w' := isBody S
theorem specIN (A : Int) : ∀ w, Calls Tryd.prog 17 #[.int .i64 A, .int .i64 0, .int .i64 64] w fun e w' => e = .returned (.bool (inB A 0 64)) ∧ w = w' := l00In A 0 64
theorem specIB (S : ByteArray) : decide ((S.size : Int) ≤ 64) = decide (S.size ≤ 64) := by
  by_cases h : S.size ≤ 64
  · rw [decide_eq_true h, decide_eq_true (by omega)]
  · rw [decide_eq_false h, decide_eq_false (by omega)]
/-! ## by opok.py -/

set_option maxRecDepth 100000 in
set_option maxHeartbeats 4000000 in
theorem implOpOk (k m K A : Int) (S : ByteArray) (v : Bool) (hv : okO k m K A S = v) (w : World) :
    Calls Tryd.prog 22 #[cval k m, .agg #[.int .i64 K, .int .i64 A, .string S]] w (BoolB v w) := by
  have BH := Lib.hid (chain (lay w (.cells #[.int .i64 k, .int .i64 m] 35)) (lay _ (.cells #[.int .i64 K, .int .i64 A, .string S] 23)))
  have XH := Lib.hid ((BxN.new w #[.int .i64 k, .int .i64 m] 35).later (lay _ (.cells #[.int .i64 K, .int .i64 A, .string S] 23)))
  have Y0 := BxN.new (w.alloc (.cells #[.int .i64 k, .int .i64 m] 35)) #[.int .i64 K, .int .i64 A, .string S] 23
  rw [World.size_alloc] at Y0
  have YH := Lib.hid Y0
  clear Y0
  have IN := Lib.hid (implIN A)
  have IB := Lib.hid (implIB S)
  go_enter Tryd.func22, Tryd.ntmps22
  go_wp2_with fail
  refine (implCodeOk k m _).mono ?_
  rintro e w1 ⟨rfl, b1⟩
  have B1 := Lib.hid (chain BH.out b1)
  have X1 := XH.out.later b1
  have Y1 := YH.out.later b1
  have x0 := X1.cells 0 _ rfl
  have y0 := Y1.cells 0 _ rfl
  have y1 := Y1.cells 1 _ rfl
  have y2 := Y1.cells 2 _ rfl
  clear X1 Y1 XH YH BH b1
  have INX := IN
  have IBX := IB
  clear IN IB
  cases hc : okC k m
  · simp only [okO, hc, Bool.false_and] at hv
    subst hv
    go_wp2
    go_ret
    exact ⟨rfl, B1.out⟩

  by_cases k1 : K = 1
  · subst k1
    cases hA : (A == 0)
    · skip
      cases hS : S.toList.isEmpty
      · skip
        simp only [okO, if_true, if_false, reduceIte, Int.reduceEq, Bool.true_and, Bool.false_and, Bool.and_true, Bool.and_false, hc, hA, hS] at hv
        subst hv
        go_wp2_with (first | (go_at_call 30; refine (INX.out _).mono ?_; rintro e w2 ⟨rfl, rfl⟩) | (go_at_call 29; refine (IBX.out _).mono ?_; rintro e w2 ⟨rfl, rfl⟩))
        go_ret
        exact ⟨rfl, B1.out⟩
      · skip
        simp only [okO, if_true, if_false, reduceIte, Int.reduceEq, Bool.true_and, Bool.false_and, Bool.and_true, Bool.and_false, hc, hA, hS] at hv
        subst hv
        go_wp2_with (first | (go_at_call 30; refine (INX.out _).mono ?_; rintro e w2 ⟨rfl, rfl⟩) | (go_at_call 29; refine (IBX.out _).mono ?_; rintro e w2 ⟨rfl, rfl⟩))
        go_ret
        exact ⟨rfl, B1.out⟩
    · skip
      cases hS : S.toList.isEmpty
      · skip
        simp only [okO, if_true, if_false, reduceIte, Int.reduceEq, Bool.true_and, Bool.false_and, Bool.and_true, Bool.and_false, hc, hA, hS] at hv
        subst hv
        go_wp2_with (first | (go_at_call 30; refine (INX.out _).mono ?_; rintro e w2 ⟨rfl, rfl⟩) | (go_at_call 29; refine (IBX.out _).mono ?_; rintro e w2 ⟨rfl, rfl⟩))
        go_ret
        exact ⟨rfl, B1.out⟩
      · skip
        simp only [okO, if_true, if_false, reduceIte, Int.reduceEq, Bool.true_and, Bool.false_and, Bool.and_true, Bool.and_false, hc, hA, hS] at hv
        subst hv
        go_wp2_with (first | (go_at_call 30; refine (INX.out _).mono ?_; rintro e w2 ⟨rfl, rfl⟩) | (go_at_call 29; refine (IBX.out _).mono ?_; rintro e w2 ⟨rfl, rfl⟩))
        go_ret
        exact ⟨rfl, B1.out⟩
  have q1 : (K == 1) = false := by simpa using k1
  by_cases k2 : K = 2
  · subst k2
    cases hA : (A == 0)
    · skip
      cases hbS : decide (S.size ≤ 64)
      · skip
        rw [hbS] at IBX
        simp only [okO, if_true, if_false, reduceIte, Int.reduceEq, Bool.true_and, Bool.false_and, Bool.and_true, Bool.and_false, hc, hA, hbS] at hv
        subst hv
        go_wp2_with (first | (go_at_call 30; refine (INX.out _).mono ?_; rintro e w2 ⟨rfl, rfl⟩) | (go_at_call 29; refine (IBX.out _).mono ?_; rintro e w2 ⟨rfl, rfl⟩))
        go_ret
        exact ⟨rfl, B1.out⟩
      · skip
        rw [hbS] at IBX
        simp only [okO, if_true, if_false, reduceIte, Int.reduceEq, Bool.true_and, Bool.false_and, Bool.and_true, Bool.and_false, hc, hA, hbS] at hv
        subst hv
        go_wp2_with (first | (go_at_call 30; refine (INX.out _).mono ?_; rintro e w2 ⟨rfl, rfl⟩) | (go_at_call 29; refine (IBX.out _).mono ?_; rintro e w2 ⟨rfl, rfl⟩))
        go_ret
        exact ⟨rfl, B1.out⟩
    · skip
      cases hbS : decide (S.size ≤ 64)
      · skip
        rw [hbS] at IBX
        simp only [okO, if_true, if_false, reduceIte, Int.reduceEq, Bool.true_and, Bool.false_and, Bool.and_true, Bool.and_false, hc, hA, hbS] at hv
        subst hv
        go_wp2_with (first | (go_at_call 30; refine (INX.out _).mono ?_; rintro e w2 ⟨rfl, rfl⟩) | (go_at_call 29; refine (IBX.out _).mono ?_; rintro e w2 ⟨rfl, rfl⟩))
        go_ret
        exact ⟨rfl, B1.out⟩
      · skip
        rw [hbS] at IBX
        simp only [okO, if_true, if_false, reduceIte, Int.reduceEq, Bool.true_and, Bool.false_and, Bool.and_true, Bool.and_false, hc, hA, hbS] at hv
        subst hv
        go_wp2_with (first | (go_at_call 30; refine (INX.out _).mono ?_; rintro e w2 ⟨rfl, rfl⟩) | (go_at_call 29; refine (IBX.out _).mono ?_; rintro e w2 ⟨rfl, rfl⟩))
        go_ret
        exact ⟨rfl, B1.out⟩
  have q2 : (K == 2) = false := by simpa using k2
  by_cases k3 : K = 3
  · subst k3
    cases hk : (k == 1)
    · skip
      cases hbA : inB A 0 64
      · skip
        rw [hbA] at INX
        cases hbS : decide (S.size ≤ 64)
        · skip
          rw [hbS] at IBX
          simp only [okO, if_true, if_false, reduceIte, Int.reduceEq, Bool.true_and, Bool.false_and, Bool.and_true, Bool.and_false, hc, hk, hbA, hbS] at hv
          subst hv
          go_wp2_with (first | (go_at_call 30; refine (INX.out _).mono ?_; rintro e w2 ⟨rfl, rfl⟩) | (go_at_call 29; refine (IBX.out _).mono ?_; rintro e w2 ⟨rfl, rfl⟩))
          go_ret
          exact ⟨rfl, B1.out⟩
        · skip
          rw [hbS] at IBX
          simp only [okO, if_true, if_false, reduceIte, Int.reduceEq, Bool.true_and, Bool.false_and, Bool.and_true, Bool.and_false, hc, hk, hbA, hbS] at hv
          subst hv
          go_wp2_with (first | (go_at_call 30; refine (INX.out _).mono ?_; rintro e w2 ⟨rfl, rfl⟩) | (go_at_call 29; refine (IBX.out _).mono ?_; rintro e w2 ⟨rfl, rfl⟩))
          go_ret
          exact ⟨rfl, B1.out⟩
      · skip
        rw [hbA] at INX
        cases hbS : decide (S.size ≤ 64)
        · skip
          rw [hbS] at IBX
          simp only [okO, if_true, if_false, reduceIte, Int.reduceEq, Bool.true_and, Bool.false_and, Bool.and_true, Bool.and_false, hc, hk, hbA, hbS] at hv
          subst hv
          go_wp2_with (first | (go_at_call 30; refine (INX.out _).mono ?_; rintro e w2 ⟨rfl, rfl⟩) | (go_at_call 29; refine (IBX.out _).mono ?_; rintro e w2 ⟨rfl, rfl⟩))
          go_ret
          exact ⟨rfl, B1.out⟩
        · skip
          rw [hbS] at IBX
          simp only [okO, if_true, if_false, reduceIte, Int.reduceEq, Bool.true_and, Bool.false_and, Bool.and_true, Bool.and_false, hc, hk, hbA, hbS] at hv
          subst hv
          go_wp2_with (first | (go_at_call 30; refine (INX.out _).mono ?_; rintro e w2 ⟨rfl, rfl⟩) | (go_at_call 29; refine (IBX.out _).mono ?_; rintro e w2 ⟨rfl, rfl⟩))
          go_ret
          exact ⟨rfl, B1.out⟩
    · skip
      cases hbA : inB A 0 64
      · skip
        rw [hbA] at INX
        cases hbS : decide (S.size ≤ 64)
        · skip
          rw [hbS] at IBX
          simp only [okO, if_true, if_false, reduceIte, Int.reduceEq, Bool.true_and, Bool.false_and, Bool.and_true, Bool.and_false, hc, hk, hbA, hbS] at hv
          subst hv
          go_wp2_with (first | (go_at_call 30; refine (INX.out _).mono ?_; rintro e w2 ⟨rfl, rfl⟩) | (go_at_call 29; refine (IBX.out _).mono ?_; rintro e w2 ⟨rfl, rfl⟩))
          go_ret
          exact ⟨rfl, B1.out⟩
        · skip
          rw [hbS] at IBX
          simp only [okO, if_true, if_false, reduceIte, Int.reduceEq, Bool.true_and, Bool.false_and, Bool.and_true, Bool.and_false, hc, hk, hbA, hbS] at hv
          subst hv
          go_wp2_with (first | (go_at_call 30; refine (INX.out _).mono ?_; rintro e w2 ⟨rfl, rfl⟩) | (go_at_call 29; refine (IBX.out _).mono ?_; rintro e w2 ⟨rfl, rfl⟩))
          go_ret
          exact ⟨rfl, B1.out⟩
      · skip
        rw [hbA] at INX
        cases hbS : decide (S.size ≤ 64)
        · skip
          rw [hbS] at IBX
          simp only [okO, if_true, if_false, reduceIte, Int.reduceEq, Bool.true_and, Bool.false_and, Bool.and_true, Bool.and_false, hc, hk, hbA, hbS] at hv
          subst hv
          go_wp2_with (first | (go_at_call 30; refine (INX.out _).mono ?_; rintro e w2 ⟨rfl, rfl⟩) | (go_at_call 29; refine (IBX.out _).mono ?_; rintro e w2 ⟨rfl, rfl⟩))
          go_ret
          exact ⟨rfl, B1.out⟩
        · skip
          rw [hbS] at IBX
          simp only [okO, if_true, if_false, reduceIte, Int.reduceEq, Bool.true_and, Bool.false_and, Bool.and_true, Bool.and_false, hc, hk, hbA, hbS] at hv
          subst hv
          go_wp2_with (first | (go_at_call 30; refine (INX.out _).mono ?_; rintro e w2 ⟨rfl, rfl⟩) | (go_at_call 29; refine (IBX.out _).mono ?_; rintro e w2 ⟨rfl, rfl⟩))
          go_ret
          exact ⟨rfl, B1.out⟩
  have q3 : (K == 3) = false := by simpa using k3
  by_cases k4 : K = 4
  · subst k4
    cases hk : (k == 1)
    · skip
      cases hA : (A == 0)
      · skip
        cases hbS : decide (S.size ≤ 64)
        · skip
          rw [hbS] at IBX
          simp only [okO, if_true, if_false, reduceIte, Int.reduceEq, Bool.true_and, Bool.false_and, Bool.and_true, Bool.and_false, hc, hk, hA, hbS] at hv
          subst hv
          go_wp2_with (first | (go_at_call 30; refine (INX.out _).mono ?_; rintro e w2 ⟨rfl, rfl⟩) | (go_at_call 29; refine (IBX.out _).mono ?_; rintro e w2 ⟨rfl, rfl⟩))
          go_ret
          exact ⟨rfl, B1.out⟩
        · skip
          rw [hbS] at IBX
          simp only [okO, if_true, if_false, reduceIte, Int.reduceEq, Bool.true_and, Bool.false_and, Bool.and_true, Bool.and_false, hc, hk, hA, hbS] at hv
          subst hv
          go_wp2_with (first | (go_at_call 30; refine (INX.out _).mono ?_; rintro e w2 ⟨rfl, rfl⟩) | (go_at_call 29; refine (IBX.out _).mono ?_; rintro e w2 ⟨rfl, rfl⟩))
          go_ret
          exact ⟨rfl, B1.out⟩
      · skip
        cases hbS : decide (S.size ≤ 64)
        · skip
          rw [hbS] at IBX
          simp only [okO, if_true, if_false, reduceIte, Int.reduceEq, Bool.true_and, Bool.false_and, Bool.and_true, Bool.and_false, hc, hk, hA, hbS] at hv
          subst hv
          go_wp2_with (first | (go_at_call 30; refine (INX.out _).mono ?_; rintro e w2 ⟨rfl, rfl⟩) | (go_at_call 29; refine (IBX.out _).mono ?_; rintro e w2 ⟨rfl, rfl⟩))
          go_ret
          exact ⟨rfl, B1.out⟩
        · skip
          rw [hbS] at IBX
          simp only [okO, if_true, if_false, reduceIte, Int.reduceEq, Bool.true_and, Bool.false_and, Bool.and_true, Bool.and_false, hc, hk, hA, hbS] at hv
          subst hv
          go_wp2_with (first | (go_at_call 30; refine (INX.out _).mono ?_; rintro e w2 ⟨rfl, rfl⟩) | (go_at_call 29; refine (IBX.out _).mono ?_; rintro e w2 ⟨rfl, rfl⟩))
          go_ret
          exact ⟨rfl, B1.out⟩
    · skip
      cases hA : (A == 0)
      · skip
        cases hbS : decide (S.size ≤ 64)
        · skip
          rw [hbS] at IBX
          simp only [okO, if_true, if_false, reduceIte, Int.reduceEq, Bool.true_and, Bool.false_and, Bool.and_true, Bool.and_false, hc, hk, hA, hbS] at hv
          subst hv
          go_wp2_with (first | (go_at_call 30; refine (INX.out _).mono ?_; rintro e w2 ⟨rfl, rfl⟩) | (go_at_call 29; refine (IBX.out _).mono ?_; rintro e w2 ⟨rfl, rfl⟩))
          go_ret
          exact ⟨rfl, B1.out⟩
        · skip
          rw [hbS] at IBX
          simp only [okO, if_true, if_false, reduceIte, Int.reduceEq, Bool.true_and, Bool.false_and, Bool.and_true, Bool.and_false, hc, hk, hA, hbS] at hv
          subst hv
          go_wp2_with (first | (go_at_call 30; refine (INX.out _).mono ?_; rintro e w2 ⟨rfl, rfl⟩) | (go_at_call 29; refine (IBX.out _).mono ?_; rintro e w2 ⟨rfl, rfl⟩))
          go_ret
          exact ⟨rfl, B1.out⟩
      · skip
        cases hbS : decide (S.size ≤ 64)
        · skip
          rw [hbS] at IBX
          simp only [okO, if_true, if_false, reduceIte, Int.reduceEq, Bool.true_and, Bool.false_and, Bool.and_true, Bool.and_false, hc, hk, hA, hbS] at hv
          subst hv
          go_wp2_with (first | (go_at_call 30; refine (INX.out _).mono ?_; rintro e w2 ⟨rfl, rfl⟩) | (go_at_call 29; refine (IBX.out _).mono ?_; rintro e w2 ⟨rfl, rfl⟩))
          go_ret
          exact ⟨rfl, B1.out⟩
        · skip
          rw [hbS] at IBX
          simp only [okO, if_true, if_false, reduceIte, Int.reduceEq, Bool.true_and, Bool.false_and, Bool.and_true, Bool.and_false, hc, hk, hA, hbS] at hv
          subst hv
          go_wp2_with (first | (go_at_call 30; refine (INX.out _).mono ?_; rintro e w2 ⟨rfl, rfl⟩) | (go_at_call 29; refine (IBX.out _).mono ?_; rintro e w2 ⟨rfl, rfl⟩))
          go_ret
          exact ⟨rfl, B1.out⟩
  have q4 : (K == 4) = false := by simpa using k4
  by_cases k5 : K = 5
  · subst k5
    cases hk : (k == 1)
    · skip
      cases hbA : inB A 0 64
      · skip
        rw [hbA] at INX
        cases hS : S.toList.isEmpty
        · skip
          simp only [okO, if_true, if_false, reduceIte, Int.reduceEq, Bool.true_and, Bool.false_and, Bool.and_true, Bool.and_false, hc, hk, hbA, hS] at hv
          subst hv
          go_wp2_with (first | (go_at_call 30; refine (INX.out _).mono ?_; rintro e w2 ⟨rfl, rfl⟩) | (go_at_call 29; refine (IBX.out _).mono ?_; rintro e w2 ⟨rfl, rfl⟩))
          go_ret
          exact ⟨rfl, B1.out⟩
        · skip
          simp only [okO, if_true, if_false, reduceIte, Int.reduceEq, Bool.true_and, Bool.false_and, Bool.and_true, Bool.and_false, hc, hk, hbA, hS] at hv
          subst hv
          go_wp2_with (first | (go_at_call 30; refine (INX.out _).mono ?_; rintro e w2 ⟨rfl, rfl⟩) | (go_at_call 29; refine (IBX.out _).mono ?_; rintro e w2 ⟨rfl, rfl⟩))
          go_ret
          exact ⟨rfl, B1.out⟩
      · skip
        rw [hbA] at INX
        cases hS : S.toList.isEmpty
        · skip
          simp only [okO, if_true, if_false, reduceIte, Int.reduceEq, Bool.true_and, Bool.false_and, Bool.and_true, Bool.and_false, hc, hk, hbA, hS] at hv
          subst hv
          go_wp2_with (first | (go_at_call 30; refine (INX.out _).mono ?_; rintro e w2 ⟨rfl, rfl⟩) | (go_at_call 29; refine (IBX.out _).mono ?_; rintro e w2 ⟨rfl, rfl⟩))
          go_ret
          exact ⟨rfl, B1.out⟩
        · skip
          simp only [okO, if_true, if_false, reduceIte, Int.reduceEq, Bool.true_and, Bool.false_and, Bool.and_true, Bool.and_false, hc, hk, hbA, hS] at hv
          subst hv
          go_wp2_with (first | (go_at_call 30; refine (INX.out _).mono ?_; rintro e w2 ⟨rfl, rfl⟩) | (go_at_call 29; refine (IBX.out _).mono ?_; rintro e w2 ⟨rfl, rfl⟩))
          go_ret
          exact ⟨rfl, B1.out⟩
    · skip
      cases hbA : inB A 0 64
      · skip
        rw [hbA] at INX
        cases hS : S.toList.isEmpty
        · skip
          simp only [okO, if_true, if_false, reduceIte, Int.reduceEq, Bool.true_and, Bool.false_and, Bool.and_true, Bool.and_false, hc, hk, hbA, hS] at hv
          subst hv
          go_wp2_with (first | (go_at_call 30; refine (INX.out _).mono ?_; rintro e w2 ⟨rfl, rfl⟩) | (go_at_call 29; refine (IBX.out _).mono ?_; rintro e w2 ⟨rfl, rfl⟩))
          go_ret
          exact ⟨rfl, B1.out⟩
        · skip
          simp only [okO, if_true, if_false, reduceIte, Int.reduceEq, Bool.true_and, Bool.false_and, Bool.and_true, Bool.and_false, hc, hk, hbA, hS] at hv
          subst hv
          go_wp2_with (first | (go_at_call 30; refine (INX.out _).mono ?_; rintro e w2 ⟨rfl, rfl⟩) | (go_at_call 29; refine (IBX.out _).mono ?_; rintro e w2 ⟨rfl, rfl⟩))
          go_ret
          exact ⟨rfl, B1.out⟩
      · skip
        rw [hbA] at INX
        cases hS : S.toList.isEmpty
        · skip
          simp only [okO, if_true, if_false, reduceIte, Int.reduceEq, Bool.true_and, Bool.false_and, Bool.and_true, Bool.and_false, hc, hk, hbA, hS] at hv
          subst hv
          go_wp2_with (first | (go_at_call 30; refine (INX.out _).mono ?_; rintro e w2 ⟨rfl, rfl⟩) | (go_at_call 29; refine (IBX.out _).mono ?_; rintro e w2 ⟨rfl, rfl⟩))
          go_ret
          exact ⟨rfl, B1.out⟩
        · skip
          simp only [okO, if_true, if_false, reduceIte, Int.reduceEq, Bool.true_and, Bool.false_and, Bool.and_true, Bool.and_false, hc, hk, hbA, hS] at hv
          subst hv
          go_wp2_with (first | (go_at_call 30; refine (INX.out _).mono ?_; rintro e w2 ⟨rfl, rfl⟩) | (go_at_call 29; refine (IBX.out _).mono ?_; rintro e w2 ⟨rfl, rfl⟩))
          go_ret
          exact ⟨rfl, B1.out⟩
  have q5 : (K == 5) = false := by simpa using k5
  by_cases k6 : K = 6
  · subst k6
    cases hA : (A == 0)
    · skip
      cases hS : S.toList.isEmpty
      · skip
        simp only [okO, if_true, if_false, reduceIte, Int.reduceEq, Bool.true_and, Bool.false_and, Bool.and_true, Bool.and_false, hc, hA, hS] at hv
        subst hv
        go_wp2_with (first | (go_at_call 30; refine (INX.out _).mono ?_; rintro e w2 ⟨rfl, rfl⟩) | (go_at_call 29; refine (IBX.out _).mono ?_; rintro e w2 ⟨rfl, rfl⟩))
        go_ret
        exact ⟨rfl, B1.out⟩
      · skip
        simp only [okO, if_true, if_false, reduceIte, Int.reduceEq, Bool.true_and, Bool.false_and, Bool.and_true, Bool.and_false, hc, hA, hS] at hv
        subst hv
        go_wp2_with (first | (go_at_call 30; refine (INX.out _).mono ?_; rintro e w2 ⟨rfl, rfl⟩) | (go_at_call 29; refine (IBX.out _).mono ?_; rintro e w2 ⟨rfl, rfl⟩))
        go_ret
        exact ⟨rfl, B1.out⟩
    · skip
      cases hS : S.toList.isEmpty
      · skip
        simp only [okO, if_true, if_false, reduceIte, Int.reduceEq, Bool.true_and, Bool.false_and, Bool.and_true, Bool.and_false, hc, hA, hS] at hv
        subst hv
        go_wp2_with (first | (go_at_call 30; refine (INX.out _).mono ?_; rintro e w2 ⟨rfl, rfl⟩) | (go_at_call 29; refine (IBX.out _).mono ?_; rintro e w2 ⟨rfl, rfl⟩))
        go_ret
        exact ⟨rfl, B1.out⟩
      · skip
        simp only [okO, if_true, if_false, reduceIte, Int.reduceEq, Bool.true_and, Bool.false_and, Bool.and_true, Bool.and_false, hc, hA, hS] at hv
        subst hv
        go_wp2_with (first | (go_at_call 30; refine (INX.out _).mono ?_; rintro e w2 ⟨rfl, rfl⟩) | (go_at_call 29; refine (IBX.out _).mono ?_; rintro e w2 ⟨rfl, rfl⟩))
        go_ret
        exact ⟨rfl, B1.out⟩
  have q6 : (K == 6) = false := by simpa using k6
  simp only [okO, k1, k2, k3, k4, k5, k6, if_false, Bool.and_false] at hv
  subst hv
  go_wp2_with (first | (go_at_call 30; refine (INX.out _).mono ?_; rintro e w2 ⟨rfl, rfl⟩) | (go_at_call 29; refine (IBX.out _).mono ?_; rintro e w2 ⟨rfl, rfl⟩))
  go_ret
  exact ⟨rfl, B1.out⟩

set_option maxRecDepth 100000 in
set_option maxHeartbeats 4000000 in
theorem specOpOk (k m K A : Int) (S : ByteArray) (v : Bool) (hv : okO k m K A S = v) (w : World) :
    Calls Tryd.prog 9 #[cval k m, .agg #[.int .i64 K, .int .i64 A, .string S]] w (BoolB v w) := by
  have BH := Lib.hid (chain (lay w (.cells #[.int .i64 k, .int .i64 m] 35)) (lay _ (.cells #[.int .i64 K, .int .i64 A, .string S] 23)))
  have XH := Lib.hid ((BxN.new w #[.int .i64 k, .int .i64 m] 35).later (lay _ (.cells #[.int .i64 K, .int .i64 A, .string S] 23)))
  have Y0 := BxN.new (w.alloc (.cells #[.int .i64 k, .int .i64 m] 35)) #[.int .i64 K, .int .i64 A, .string S] 23
  rw [World.size_alloc] at Y0
  have YH := Lib.hid Y0
  clear Y0
  have IN := Lib.hid (specIN A)
  have IB := Lib.hid (specIB S)
  go_enter Tryd.func9, Tryd.ntmps9
  go_wp2_with fail
  refine (specCodeOk k m _).mono ?_
  rintro e w1 ⟨rfl, b1⟩
  have B1 := Lib.hid (chain BH.out b1)
  have X1 := XH.out.later b1
  have Y1 := YH.out.later b1
  have x0 := X1.cells 0 _ rfl
  have y0 := Y1.cells 0 _ rfl
  have y1 := Y1.cells 1 _ rfl
  have y2 := Y1.cells 2 _ rfl
  clear X1 Y1 XH YH BH b1
  have INX := IN
  have IBX := IB
  clear IN IB
  cases hc : okC k m
  · simp only [okO, hc, Bool.false_and] at hv
    subst hv
    go_wp2
    go_ret
    exact ⟨rfl, B1.out⟩

  by_cases k1 : K = 1
  · subst k1
    cases hA : (A == 0)
    · skip
      cases hS : S.toList.isEmpty
      · skip
        simp only [okO, if_true, if_false, reduceIte, Int.reduceEq, Bool.true_and, Bool.false_and, Bool.and_true, Bool.and_false, hc, hA, hS] at hv
        subst hv
        go_wp2
        go_quiet ((go_at_call 17; exact Calls.quiet_of_same ((INX.out _).mono fun _ _ q => ⟨q.1, q.2.symm⟩)))
        go_wp2
        go_ret
        exact ⟨rfl, (by first | exact drewB B1.out _ | exact B1.out)⟩
      · skip
        simp only [okO, if_true, if_false, reduceIte, Int.reduceEq, Bool.true_and, Bool.false_and, Bool.and_true, Bool.and_false, hc, hA, hS] at hv
        subst hv
        go_wp2
        go_quiet ((go_at_call 17; exact Calls.quiet_of_same ((INX.out _).mono fun _ _ q => ⟨q.1, q.2.symm⟩)))
        go_wp2
        go_ret
        exact ⟨rfl, (by first | exact drewB B1.out _ | exact B1.out)⟩
    · skip
      cases hS : S.toList.isEmpty
      · skip
        simp only [okO, if_true, if_false, reduceIte, Int.reduceEq, Bool.true_and, Bool.false_and, Bool.and_true, Bool.and_false, hc, hA, hS] at hv
        subst hv
        go_wp2
        go_quiet ((go_at_call 17; exact Calls.quiet_of_same ((INX.out _).mono fun _ _ q => ⟨q.1, q.2.symm⟩)))
        go_wp2
        go_ret
        exact ⟨rfl, (by first | exact drewB B1.out _ | exact B1.out)⟩
      · skip
        simp only [okO, if_true, if_false, reduceIte, Int.reduceEq, Bool.true_and, Bool.false_and, Bool.and_true, Bool.and_false, hc, hA, hS] at hv
        subst hv
        go_wp2
        go_quiet ((go_at_call 17; exact Calls.quiet_of_same ((INX.out _).mono fun _ _ q => ⟨q.1, q.2.symm⟩)))
        go_wp2
        go_ret
        exact ⟨rfl, (by first | exact drewB B1.out _ | exact B1.out)⟩
  have q1 : (K == 1) = false := by simpa using k1
  by_cases k2 : K = 2
  · subst k2
    cases hA : (A == 0)
    · skip
      cases hbS : decide (S.size ≤ 64)
      · skip
        have hbT : decide ((S.size : Int) ≤ 64) = false := by rw [specIB, hbS]
        simp only [okO, if_true, if_false, reduceIte, Int.reduceEq, Bool.true_and, Bool.false_and, Bool.and_true, Bool.and_false, hc, hA, hbS] at hv
        subst hv
        go_wp2
        go_quiet ((go_at_call 17; exact Calls.quiet_of_same ((INX.out _).mono fun _ _ q => ⟨q.1, q.2.symm⟩)))
        go_wp2
        go_ret
        exact ⟨rfl, (by first | exact drewB B1.out _ | exact B1.out)⟩
      · skip
        have hbT : decide ((S.size : Int) ≤ 64) = true := by rw [specIB, hbS]
        simp only [okO, if_true, if_false, reduceIte, Int.reduceEq, Bool.true_and, Bool.false_and, Bool.and_true, Bool.and_false, hc, hA, hbS] at hv
        subst hv
        go_wp2
        go_quiet ((go_at_call 17; exact Calls.quiet_of_same ((INX.out _).mono fun _ _ q => ⟨q.1, q.2.symm⟩)))
        go_wp2
        go_ret
        exact ⟨rfl, (by first | exact drewB B1.out _ | exact B1.out)⟩
    · skip
      cases hbS : decide (S.size ≤ 64)
      · skip
        have hbT : decide ((S.size : Int) ≤ 64) = false := by rw [specIB, hbS]
        simp only [okO, if_true, if_false, reduceIte, Int.reduceEq, Bool.true_and, Bool.false_and, Bool.and_true, Bool.and_false, hc, hA, hbS] at hv
        subst hv
        go_wp2
        go_quiet ((go_at_call 17; exact Calls.quiet_of_same ((INX.out _).mono fun _ _ q => ⟨q.1, q.2.symm⟩)))
        go_wp2
        go_ret
        exact ⟨rfl, (by first | exact drewB B1.out _ | exact B1.out)⟩
      · skip
        have hbT : decide ((S.size : Int) ≤ 64) = true := by rw [specIB, hbS]
        simp only [okO, if_true, if_false, reduceIte, Int.reduceEq, Bool.true_and, Bool.false_and, Bool.and_true, Bool.and_false, hc, hA, hbS] at hv
        subst hv
        go_wp2
        go_quiet ((go_at_call 17; exact Calls.quiet_of_same ((INX.out _).mono fun _ _ q => ⟨q.1, q.2.symm⟩)))
        go_wp2
        go_ret
        exact ⟨rfl, (by first | exact drewB B1.out _ | exact B1.out)⟩
  have q2 : (K == 2) = false := by simpa using k2
  by_cases k3 : K = 3
  · subst k3
    cases hk : (k == 1)
    · skip
      cases hbA : inB A 0 64
      · skip
        rw [hbA] at INX
        cases hbS : decide (S.size ≤ 64)
        · skip
          have hbT : decide ((S.size : Int) ≤ 64) = false := by rw [specIB, hbS]
          simp only [okO, if_true, if_false, reduceIte, Int.reduceEq, Bool.true_and, Bool.false_and, Bool.and_true, Bool.and_false, hc, hk, hbA, hbS] at hv
          subst hv
          go_wp2
          go_quiet ((go_at_call 17; exact Calls.quiet_of_same ((INX.out _).mono fun _ _ q => ⟨q.1, q.2.symm⟩)))
          go_wp2
          go_ret
          exact ⟨rfl, (by first | exact drewB B1.out _ | exact B1.out)⟩
        · skip
          have hbT : decide ((S.size : Int) ≤ 64) = true := by rw [specIB, hbS]
          simp only [okO, if_true, if_false, reduceIte, Int.reduceEq, Bool.true_and, Bool.false_and, Bool.and_true, Bool.and_false, hc, hk, hbA, hbS] at hv
          subst hv
          go_wp2
          go_quiet ((go_at_call 17; exact Calls.quiet_of_same ((INX.out _).mono fun _ _ q => ⟨q.1, q.2.symm⟩)))
          go_wp2
          go_ret
          exact ⟨rfl, (by first | exact drewB B1.out _ | exact B1.out)⟩
      · skip
        rw [hbA] at INX
        cases hbS : decide (S.size ≤ 64)
        · skip
          have hbT : decide ((S.size : Int) ≤ 64) = false := by rw [specIB, hbS]
          simp only [okO, if_true, if_false, reduceIte, Int.reduceEq, Bool.true_and, Bool.false_and, Bool.and_true, Bool.and_false, hc, hk, hbA, hbS] at hv
          subst hv
          go_wp2
          go_quiet ((go_at_call 17; exact Calls.quiet_of_same ((INX.out _).mono fun _ _ q => ⟨q.1, q.2.symm⟩)))
          go_wp2
          go_ret
          exact ⟨rfl, (by first | exact drewB B1.out _ | exact B1.out)⟩
        · skip
          have hbT : decide ((S.size : Int) ≤ 64) = true := by rw [specIB, hbS]
          simp only [okO, if_true, if_false, reduceIte, Int.reduceEq, Bool.true_and, Bool.false_and, Bool.and_true, Bool.and_false, hc, hk, hbA, hbS] at hv
          subst hv
          go_wp2
          go_quiet ((go_at_call 17; exact Calls.quiet_of_same ((INX.out _).mono fun _ _ q => ⟨q.1, q.2.symm⟩)))
          go_wp2
          go_ret
          exact ⟨rfl, (by first | exact drewB B1.out _ | exact B1.out)⟩
    · skip
      cases hbA : inB A 0 64
      · skip
        rw [hbA] at INX
        cases hbS : decide (S.size ≤ 64)
        · skip
          have hbT : decide ((S.size : Int) ≤ 64) = false := by rw [specIB, hbS]
          simp only [okO, if_true, if_false, reduceIte, Int.reduceEq, Bool.true_and, Bool.false_and, Bool.and_true, Bool.and_false, hc, hk, hbA, hbS] at hv
          subst hv
          go_wp2
          go_quiet ((go_at_call 17; exact Calls.quiet_of_same ((INX.out _).mono fun _ _ q => ⟨q.1, q.2.symm⟩)))
          go_wp2
          go_ret
          exact ⟨rfl, (by first | exact drewB B1.out _ | exact B1.out)⟩
        · skip
          have hbT : decide ((S.size : Int) ≤ 64) = true := by rw [specIB, hbS]
          simp only [okO, if_true, if_false, reduceIte, Int.reduceEq, Bool.true_and, Bool.false_and, Bool.and_true, Bool.and_false, hc, hk, hbA, hbS] at hv
          subst hv
          go_wp2
          go_quiet ((go_at_call 17; exact Calls.quiet_of_same ((INX.out _).mono fun _ _ q => ⟨q.1, q.2.symm⟩)))
          go_wp2
          go_ret
          exact ⟨rfl, (by first | exact drewB B1.out _ | exact B1.out)⟩
      · skip
        rw [hbA] at INX
        cases hbS : decide (S.size ≤ 64)
        · skip
          have hbT : decide ((S.size : Int) ≤ 64) = false := by rw [specIB, hbS]
          simp only [okO, if_true, if_false, reduceIte, Int.reduceEq, Bool.true_and, Bool.false_and, Bool.and_true, Bool.and_false, hc, hk, hbA, hbS] at hv
          subst hv
          go_wp2
          go_quiet ((go_at_call 17; exact Calls.quiet_of_same ((INX.out _).mono fun _ _ q => ⟨q.1, q.2.symm⟩)))
          go_wp2
          go_ret
          exact ⟨rfl, (by first | exact drewB B1.out _ | exact B1.out)⟩
        · skip
          have hbT : decide ((S.size : Int) ≤ 64) = true := by rw [specIB, hbS]
          simp only [okO, if_true, if_false, reduceIte, Int.reduceEq, Bool.true_and, Bool.false_and, Bool.and_true, Bool.and_false, hc, hk, hbA, hbS] at hv
          subst hv
          go_wp2
          go_quiet ((go_at_call 17; exact Calls.quiet_of_same ((INX.out _).mono fun _ _ q => ⟨q.1, q.2.symm⟩)))
          go_wp2
          go_ret
          exact ⟨rfl, (by first | exact drewB B1.out _ | exact B1.out)⟩
  have q3 : (K == 3) = false := by simpa using k3
  by_cases k4 : K = 4
  · subst k4
    cases hk : (k == 1)
    · skip
      cases hA : (A == 0)
      · skip
        cases hbS : decide (S.size ≤ 64)
        · skip
          have hbT : decide ((S.size : Int) ≤ 64) = false := by rw [specIB, hbS]
          simp only [okO, if_true, if_false, reduceIte, Int.reduceEq, Bool.true_and, Bool.false_and, Bool.and_true, Bool.and_false, hc, hk, hA, hbS] at hv
          subst hv
          go_wp2
          go_quiet ((go_at_call 17; exact Calls.quiet_of_same ((INX.out _).mono fun _ _ q => ⟨q.1, q.2.symm⟩)))
          go_wp2
          go_ret
          exact ⟨rfl, (by first | exact drewB B1.out _ | exact B1.out)⟩
        · skip
          have hbT : decide ((S.size : Int) ≤ 64) = true := by rw [specIB, hbS]
          simp only [okO, if_true, if_false, reduceIte, Int.reduceEq, Bool.true_and, Bool.false_and, Bool.and_true, Bool.and_false, hc, hk, hA, hbS] at hv
          subst hv
          go_wp2
          go_quiet ((go_at_call 17; exact Calls.quiet_of_same ((INX.out _).mono fun _ _ q => ⟨q.1, q.2.symm⟩)))
          go_wp2
          go_ret
          exact ⟨rfl, (by first | exact drewB B1.out _ | exact B1.out)⟩
      · skip
        cases hbS : decide (S.size ≤ 64)
        · skip
          have hbT : decide ((S.size : Int) ≤ 64) = false := by rw [specIB, hbS]
          simp only [okO, if_true, if_false, reduceIte, Int.reduceEq, Bool.true_and, Bool.false_and, Bool.and_true, Bool.and_false, hc, hk, hA, hbS] at hv
          subst hv
          go_wp2
          go_quiet ((go_at_call 17; exact Calls.quiet_of_same ((INX.out _).mono fun _ _ q => ⟨q.1, q.2.symm⟩)))
          go_wp2
          go_ret
          exact ⟨rfl, (by first | exact drewB B1.out _ | exact B1.out)⟩
        · skip
          have hbT : decide ((S.size : Int) ≤ 64) = true := by rw [specIB, hbS]
          simp only [okO, if_true, if_false, reduceIte, Int.reduceEq, Bool.true_and, Bool.false_and, Bool.and_true, Bool.and_false, hc, hk, hA, hbS] at hv
          subst hv
          go_wp2
          go_quiet ((go_at_call 17; exact Calls.quiet_of_same ((INX.out _).mono fun _ _ q => ⟨q.1, q.2.symm⟩)))
          go_wp2
          go_ret
          exact ⟨rfl, (by first | exact drewB B1.out _ | exact B1.out)⟩
    · skip
      cases hA : (A == 0)
      · skip
        cases hbS : decide (S.size ≤ 64)
        · skip
          have hbT : decide ((S.size : Int) ≤ 64) = false := by rw [specIB, hbS]
          simp only [okO, if_true, if_false, reduceIte, Int.reduceEq, Bool.true_and, Bool.false_and, Bool.and_true, Bool.and_false, hc, hk, hA, hbS] at hv
          subst hv
          go_wp2
          go_quiet ((go_at_call 17; exact Calls.quiet_of_same ((INX.out _).mono fun _ _ q => ⟨q.1, q.2.symm⟩)))
          go_wp2
          go_ret
          exact ⟨rfl, (by first | exact drewB B1.out _ | exact B1.out)⟩
        · skip
          have hbT : decide ((S.size : Int) ≤ 64) = true := by rw [specIB, hbS]
          simp only [okO, if_true, if_false, reduceIte, Int.reduceEq, Bool.true_and, Bool.false_and, Bool.and_true, Bool.and_false, hc, hk, hA, hbS] at hv
          subst hv
          go_wp2
          go_quiet ((go_at_call 17; exact Calls.quiet_of_same ((INX.out _).mono fun _ _ q => ⟨q.1, q.2.symm⟩)))
          go_wp2
          go_ret
          exact ⟨rfl, (by first | exact drewB B1.out _ | exact B1.out)⟩
      · skip
        cases hbS : decide (S.size ≤ 64)
        · skip
          have hbT : decide ((S.size : Int) ≤ 64) = false := by rw [specIB, hbS]
          simp only [okO, if_true, if_false, reduceIte, Int.reduceEq, Bool.true_and, Bool.false_and, Bool.and_true, Bool.and_false, hc, hk, hA, hbS] at hv
          subst hv
          go_wp2
          go_quiet ((go_at_call 17; exact Calls.quiet_of_same ((INX.out _).mono fun _ _ q => ⟨q.1, q.2.symm⟩)))
          go_wp2
          go_ret
          exact ⟨rfl, (by first | exact drewB B1.out _ | exact B1.out)⟩
        · skip
          have hbT : decide ((S.size : Int) ≤ 64) = true := by rw [specIB, hbS]
          simp only [okO, if_true, if_false, reduceIte, Int.reduceEq, Bool.true_and, Bool.false_and, Bool.and_true, Bool.and_false, hc, hk, hA, hbS] at hv
          subst hv
          go_wp2
          go_quiet ((go_at_call 17; exact Calls.quiet_of_same ((INX.out _).mono fun _ _ q => ⟨q.1, q.2.symm⟩)))
          go_wp2
          go_ret
          exact ⟨rfl, (by first | exact drewB B1.out _ | exact B1.out)⟩
  have q4 : (K == 4) = false := by simpa using k4
  by_cases k5 : K = 5
  · subst k5
    cases hk : (k == 1)
    · skip
      cases hbA : inB A 0 64
      · skip
        rw [hbA] at INX
        cases hS : S.toList.isEmpty
        · skip
          simp only [okO, if_true, if_false, reduceIte, Int.reduceEq, Bool.true_and, Bool.false_and, Bool.and_true, Bool.and_false, hc, hk, hbA, hS] at hv
          subst hv
          go_wp2
          go_quiet ((go_at_call 17; exact Calls.quiet_of_same ((INX.out _).mono fun _ _ q => ⟨q.1, q.2.symm⟩)))
          go_wp2
          go_ret
          exact ⟨rfl, (by first | exact drewB B1.out _ | exact B1.out)⟩
        · skip
          simp only [okO, if_true, if_false, reduceIte, Int.reduceEq, Bool.true_and, Bool.false_and, Bool.and_true, Bool.and_false, hc, hk, hbA, hS] at hv
          subst hv
          go_wp2
          go_quiet ((go_at_call 17; exact Calls.quiet_of_same ((INX.out _).mono fun _ _ q => ⟨q.1, q.2.symm⟩)))
          go_wp2
          go_ret
          exact ⟨rfl, (by first | exact drewB B1.out _ | exact B1.out)⟩
      · skip
        rw [hbA] at INX
        cases hS : S.toList.isEmpty
        · skip
          simp only [okO, if_true, if_false, reduceIte, Int.reduceEq, Bool.true_and, Bool.false_and, Bool.and_true, Bool.and_false, hc, hk, hbA, hS] at hv
          subst hv
          go_wp2
          go_quiet ((go_at_call 17; exact Calls.quiet_of_same ((INX.out _).mono fun _ _ q => ⟨q.1, q.2.symm⟩)))
          go_wp2
          go_ret
          exact ⟨rfl, (by first | exact drewB B1.out _ | exact B1.out)⟩
        · skip
          simp only [okO, if_true, if_false, reduceIte, Int.reduceEq, Bool.true_and, Bool.false_and, Bool.and_true, Bool.and_false, hc, hk, hbA, hS] at hv
          subst hv
          go_wp2
          go_quiet ((go_at_call 17; exact Calls.quiet_of_same ((INX.out _).mono fun _ _ q => ⟨q.1, q.2.symm⟩)))
          go_wp2
          go_ret
          exact ⟨rfl, (by first | exact drewB B1.out _ | exact B1.out)⟩
    · skip
      cases hbA : inB A 0 64
      · skip
        rw [hbA] at INX
        cases hS : S.toList.isEmpty
        · skip
          simp only [okO, if_true, if_false, reduceIte, Int.reduceEq, Bool.true_and, Bool.false_and, Bool.and_true, Bool.and_false, hc, hk, hbA, hS] at hv
          subst hv
          go_wp2
          go_quiet ((go_at_call 17; exact Calls.quiet_of_same ((INX.out _).mono fun _ _ q => ⟨q.1, q.2.symm⟩)))
          go_wp2
          go_ret
          exact ⟨rfl, (by first | exact drewB B1.out _ | exact B1.out)⟩
        · skip
          simp only [okO, if_true, if_false, reduceIte, Int.reduceEq, Bool.true_and, Bool.false_and, Bool.and_true, Bool.and_false, hc, hk, hbA, hS] at hv
          subst hv
          go_wp2
          go_quiet ((go_at_call 17; exact Calls.quiet_of_same ((INX.out _).mono fun _ _ q => ⟨q.1, q.2.symm⟩)))
          go_wp2
          go_ret
          exact ⟨rfl, (by first | exact drewB B1.out _ | exact B1.out)⟩
      · skip
        rw [hbA] at INX
        cases hS : S.toList.isEmpty
        · skip
          simp only [okO, if_true, if_false, reduceIte, Int.reduceEq, Bool.true_and, Bool.false_and, Bool.and_true, Bool.and_false, hc, hk, hbA, hS] at hv
          subst hv
          go_wp2
          go_quiet ((go_at_call 17; exact Calls.quiet_of_same ((INX.out _).mono fun _ _ q => ⟨q.1, q.2.symm⟩)))
          go_wp2
          go_ret
          exact ⟨rfl, (by first | exact drewB B1.out _ | exact B1.out)⟩
        · skip
          simp only [okO, if_true, if_false, reduceIte, Int.reduceEq, Bool.true_and, Bool.false_and, Bool.and_true, Bool.and_false, hc, hk, hbA, hS] at hv
          subst hv
          go_wp2
          go_quiet ((go_at_call 17; exact Calls.quiet_of_same ((INX.out _).mono fun _ _ q => ⟨q.1, q.2.symm⟩)))
          go_wp2
          go_ret
          exact ⟨rfl, (by first | exact drewB B1.out _ | exact B1.out)⟩
  have q5 : (K == 5) = false := by simpa using k5
  by_cases k6 : K = 6
  · subst k6
    cases hA : (A == 0)
    · skip
      cases hS : S.toList.isEmpty
      · skip
        simp only [okO, if_true, if_false, reduceIte, Int.reduceEq, Bool.true_and, Bool.false_and, Bool.and_true, Bool.and_false, hc, hA, hS] at hv
        subst hv
        go_wp2
        go_quiet ((go_at_call 17; exact Calls.quiet_of_same ((INX.out _).mono fun _ _ q => ⟨q.1, q.2.symm⟩)))
        go_wp2
        go_ret
        exact ⟨rfl, (by first | exact drewB B1.out _ | exact B1.out)⟩
      · skip
        simp only [okO, if_true, if_false, reduceIte, Int.reduceEq, Bool.true_and, Bool.false_and, Bool.and_true, Bool.and_false, hc, hA, hS] at hv
        subst hv
        go_wp2
        go_quiet ((go_at_call 17; exact Calls.quiet_of_same ((INX.out _).mono fun _ _ q => ⟨q.1, q.2.symm⟩)))
        go_wp2
        go_ret
        exact ⟨rfl, (by first | exact drewB B1.out _ | exact B1.out)⟩
    · skip
      cases hS : S.toList.isEmpty
      · skip
        simp only [okO, if_true, if_false, reduceIte, Int.reduceEq, Bool.true_and, Bool.false_and, Bool.and_true, Bool.and_false, hc, hA, hS] at hv
        subst hv
        go_wp2
        go_quiet ((go_at_call 17; exact Calls.quiet_of_same ((INX.out _).mono fun _ _ q => ⟨q.1, q.2.symm⟩)))
        go_wp2
        go_ret
        exact ⟨rfl, (by first | exact drewB B1.out _ | exact B1.out)⟩
      · skip
        simp only [okO, if_true, if_false, reduceIte, Int.reduceEq, Bool.true_and, Bool.false_and, Bool.and_true, Bool.and_false, hc, hA, hS] at hv
        subst hv
        go_wp2
        go_quiet ((go_at_call 17; exact Calls.quiet_of_same ((INX.out _).mono fun _ _ q => ⟨q.1, q.2.symm⟩)))
        go_wp2
        go_ret
        exact ⟨rfl, (by first | exact drewB B1.out _ | exact B1.out)⟩
  have q6 : (K == 6) = false := by simpa using k6
  simp only [okO, k1, k2, k3, k4, k5, k6, if_false, Bool.and_false] at hv
  subst hv
  go_wp2
  go_quiet ((go_at_call 17; exact Calls.quiet_of_same ((INX.out _).mono fun _ _ q => ⟨q.1, q.2.symm⟩)))
  go_wp2
  go_ret
  exact ⟨rfl, (by first | exact drewB B1.out _ | exact B1.out)⟩
end Go.Proofs.YtbnjgehgaellmaaDoor.Rd
