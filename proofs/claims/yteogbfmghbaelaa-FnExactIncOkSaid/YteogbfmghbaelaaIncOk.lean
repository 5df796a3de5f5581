/-
  Increments: which are valid; in the program and in the model. The exact law of IncOk.
-/
import Derived.Test.YteogbfmghbaelaaWithin
import Derived.Test.YteogbfmghbaelaaDInc
namespace Go.Proofs.Yteogbfmghbaelaa.Ic
open Go.RowKit Go.Proofs.Yteogbfmghbaelaa.GfI Go.Proofs.Yteogbfmghbaelaa.GfS
open Go.Proofs.Yteogbfmghbaelaa.Sg (BxN)
open Go.Proofs.Yteogbfmghbaelaa.Rd (RetW DInc lay chain)
set_option linter.unusedVariables false
set_option linter.unusedSimpArgs false

abbrev icv (e k a b : Int) : Value := .agg #[.int .i64 e, .int .i64 k, .int .i64 a, .int .i64 b]
def okI (e k a b : Int) : Bool := inB e 2 60 && (if k = 5 then inB a 0 15 && inB b 0 8 else if k = 6 then decide (a = 0) && decide (b = 0) else inB k 1 4 && (inB a 0 15 && decide (b = 0)))
theorem okI_low {e k a b : Int} (h : inB e 2 60 = false) : okI e k a b = false := by unfold okI; rw [h]; rfl
theorem isNode (n : Int) (w : World) : Calls Try.prog 48 #[.int .i64 n] w fun e w' => e = .returned (.bool (inB n 0 15)) ∧ w = w' := by
  go_enter Try.func48, Try.ntmps48
  go_wp2_with fail
  refine (Wi.isWithin n 0 15 (by omega) _).mono ?_
  rintro e w1 ⟨rfl, rfl⟩
  go_wp2
  go_ret
  exact ⟨rfl, rfl⟩
theorem isWeight (n : Int) (w : World) : Calls Try.prog 49 #[.int .i64 n] w fun e w' => e = .returned (.bool (inB n 0 8)) ∧ w = w' := by
  go_enter Try.func49, Try.ntmps49
  go_wp2_with fail
  refine (Wi.isWithin n 0 8 (by omega) _).mono ?_
  rintro e w1 ⟨rfl, rfl⟩
  go_wp2
  go_ret
  exact ⟨rfl, rfl⟩

set_option maxRecDepth 100000 in
set_option maxHeartbeats 4000000 in
theorem implIncOk (e k a b : Int) (w : World) : Calls Try.prog 13 #[icv e k a b] w (RetW (.bool (okI e k a b)) w) := by
  have W := fun w' => Wi.isWithin e 2 60 (by omega) w'
  have NA := fun w' => isNode a w'
  have WB := fun w' => isWeight b w'
  have L := Lib.hid (lay w (.cells #[.int .i64 e, .int .i64 k, .int .i64 a, .int .i64 b] 25))
  cases he : inB e 2 60
  · rw [okI_low he]
    rw [he] at W
    have W := Lib.hid W
    clear he
    go_enter Try.func13, Try.ntmps13
    go_wp2_with fail
    refine (W.out _).mono ?_
    rintro e w1 ⟨rfl, rfl⟩
    go_wp2
    go_ret
    exact ⟨rfl, L.out⟩
  · rw [he] at W
    have W := Lib.hid W
    have E : okI e k a b = (if k = 5 then inB a 0 15 && inB b 0 8 else if k = 6 then decide (a = 0) && decide (b = 0) else inB k 1 4 && (inB a 0 15 && decide (b = 0))) := by unfold okI; rw [he]; rfl
    rw [E]
    clear E he
    by_cases k5 : k = 5
    · subst k5
      rw [if_pos rfl]
      generalize inB a 0 15 = ia at *
      generalize inB b 0 8 = ib at *
      have NA := Lib.hid NA
      have WB := Lib.hid WB
      cases ia
      · go_enter Try.func13, Try.ntmps13
        go_wp2_with fail
        refine (W.out _).mono ?_
        rintro e w1 ⟨rfl, rfl⟩
        go_wp2_with fail
        refine (NA.out _).mono ?_
        rintro e w1 ⟨rfl, rfl⟩
        go_wp2
        go_ret
        exact ⟨rfl, L.out⟩
      · go_enter Try.func13, Try.ntmps13
        go_wp2_with fail
        refine (W.out _).mono ?_
        rintro e w1 ⟨rfl, rfl⟩
        go_wp2_with fail
        refine (NA.out _).mono ?_
        rintro e w1 ⟨rfl, rfl⟩
        go_wp2_with fail
        refine (WB.out _).mono ?_
        rintro e w1 ⟨rfl, rfl⟩
        go_wp2
        go_ret
        exact ⟨rfl, L.out⟩
    · rw [if_neg k5]
      clear WB
      by_cases k6 : k = 6
      · subst k6
        rw [if_pos rfl]
        clear NA k5
        by_cases ha : a = 0
        · subst ha
          go_enter Try.func13, Try.ntmps13
          go_wp2_with fail
          refine (W.out _).mono ?_
          rintro e w1 ⟨rfl, rfl⟩
          go_wp2
          go_ret
          refine ⟨?_, L.out⟩
          by_cases hb : b = 0 <;> simp [hb]
        · have h1 : (a == 0) = false := by simpa using ha
          rw [decide_eq_false ha]
          clear ha
          go_enter Try.func13, Try.ntmps13
          go_wp2_with fail
          refine (W.out _).mono ?_
          rintro e w1 ⟨rfl, rfl⟩
          go_wp2
          go_ret
          exact ⟨rfl, L.out⟩
      · rw [if_neg k6]
        cases hk : inB k 1 4
        · have n1 : (k == 1) = false := by simp; rintro rfl; simp [inB] at hk
          have n2 : (k == 2) = false := by simp; rintro rfl; simp [inB] at hk
          have n3 : (k == 3) = false := by simp; rintro rfl; simp [inB] at hk
          have n4 : (k == 4) = false := by simp; rintro rfl; simp [inB] at hk
          have n5 : (k == 5) = false := by simpa using k5
          have n6 : (k == 6) = false := by simpa using k6
          clear hk k5 k6 NA
          go_enter Try.func13, Try.ntmps13
          go_wp2_with fail
          refine (W.out _).mono ?_
          rintro e w1 ⟨rfl, rfl⟩
          go_wp2
          go_ret
          exact ⟨rfl, L.out⟩
        · have hc : k = 1 ∨ k = 2 ∨ k = 3 ∨ k = 4 := by have := of_decide_eq_true hk; omega
          clear k5 k6 hk
          generalize inB a 0 15 = ia at *
          have NA := Lib.hid NA
          by_cases hb : b = 0
          · subst hb
            cases ia
            all_goals
              rcases hc with rfl | rfl | rfl | rfl
              all_goals
                go_enter Try.func13, Try.ntmps13
                go_wp2_with fail
                refine (W.out _).mono ?_
                rintro e w1 ⟨rfl, rfl⟩
                go_wp2_with fail
                refine (NA.out _).mono ?_
                rintro e w1 ⟨rfl, rfl⟩
                go_wp2
                go_ret
                exact ⟨rfl, L.out⟩
          · have h1 : (b == 0) = false := by simpa using hb
            rw [decide_eq_false hb, Bool.and_false]
            clear hb
            cases ia
            all_goals
              rcases hc with rfl | rfl | rfl | rfl
              all_goals
                go_enter Try.func13, Try.ntmps13
                go_wp2_with fail
                refine (W.out _).mono ?_
                rintro e w1 ⟨rfl, rfl⟩
                go_wp2_with fail
                refine (NA.out _).mono ?_
                rintro e w1 ⟨rfl, rfl⟩
                go_wp2
                go_ret
                exact ⟨rfl, L.out⟩
set_option maxRecDepth 100000 in
set_option maxHeartbeats 4000000 in
theorem l11Inc (e k a b : Int) (w : World) : Calls Try.prog 46 #[icv e k a b] w (RetW (.bool (okI e k a b)) w) := by
  have W := fun w' => l00In e 2 60 w'
  have WK := fun w' => l00In k 1 6 w'
  have NA := fun w' => l00In a 0 15 w'
  have WB := fun w' => l00In b 0 8 w'
  have L := Lib.hid (lay w (.cells #[.int .i64 e, .int .i64 k, .int .i64 a, .int .i64 b] 25))
  cases he : inB e 2 60
  · rw [okI_low he]
    rw [he] at W
    have W := Lib.hid W
    clear he WK NA WB
    go_enter Try.func46, Try.ntmps46
    go_wp2_with fail
    refine (W.out _).mono ?_
    rintro e w1 ⟨rfl, rfl⟩
    go_wp2
    go_ret
    exact ⟨rfl, L.out⟩
  · rw [he] at W
    have W := Lib.hid W
    have E : okI e k a b = (if k = 5 then inB a 0 15 && inB b 0 8 else if k = 6 then decide (a = 0) && decide (b = 0) else inB k 1 4 && (inB a 0 15 && decide (b = 0))) := by unfold okI; rw [he]; rfl
    rw [E]
    clear E he
    by_cases k5 : k = 5
    · subst k5
      rw [if_pos rfl]
      rw [show inB 5 1 6 = true from rfl] at WK
      have WK := Lib.hid WK
      generalize inB a 0 15 = ia at *
      generalize inB b 0 8 = ib at *
      have NA := Lib.hid NA
      have WB := Lib.hid WB
      cases ia
      · skip
        go_enter Try.func46, Try.ntmps46
        go_wp2_with fail
        refine (W.out _).mono ?_
        rintro e w1 ⟨rfl, rfl⟩
        go_wp2_with fail
        refine (WK.out _).mono ?_
        rintro e w1 ⟨rfl, rfl⟩
        go_wp2_with fail
        refine (NA.out _).mono ?_
        rintro e w1 ⟨rfl, rfl⟩
        go_wp2
        go_ret
        exact ⟨rfl, L.out⟩
      · skip
        go_enter Try.func46, Try.ntmps46
        go_wp2_with fail
        refine (W.out _).mono ?_
        rintro e w1 ⟨rfl, rfl⟩
        go_wp2_with fail
        refine (WK.out _).mono ?_
        rintro e w1 ⟨rfl, rfl⟩
        go_wp2_with fail
        refine (NA.out _).mono ?_
        rintro e w1 ⟨rfl, rfl⟩
        go_wp2_with fail
        refine (WB.out _).mono ?_
        rintro e w1 ⟨rfl, rfl⟩
        go_wp2
        go_ret
        exact ⟨rfl, L.out⟩
    · rw [if_neg k5]
      clear WB
      by_cases k6 : k = 6
      · subst k6
        rw [if_pos rfl]
        rw [show inB 6 1 6 = true from rfl] at WK
        have WK := Lib.hid WK
        clear NA k5
        by_cases ha : a = 0
        · subst ha
          go_enter Try.func46, Try.ntmps46
          go_wp2_with fail
          refine (W.out _).mono ?_
          rintro e w1 ⟨rfl, rfl⟩
          go_wp2_with fail
          refine (WK.out _).mono ?_
          rintro e w1 ⟨rfl, rfl⟩
          go_wp2
          go_ret
          refine ⟨?_, L.out⟩
          by_cases hb : b = 0 <;> simp [hb]
        · have h1 : (a == 0) = false := by simpa using ha
          rw [decide_eq_false ha]
          clear ha
          go_enter Try.func46, Try.ntmps46
          go_wp2_with fail
          refine (W.out _).mono ?_
          rintro e w1 ⟨rfl, rfl⟩
          go_wp2_with fail
          refine (WK.out _).mono ?_
          rintro e w1 ⟨rfl, rfl⟩
          go_wp2
          go_ret
          exact ⟨rfl, L.out⟩
      · rw [if_neg k6]
        cases hk : inB k 1 4
        · rw [show inB k 1 6 = false from decide_eq_false (by have := of_decide_eq_false hk; omega)] at WK
          have WK := Lib.hid WK
          clear hk k5 k6 NA
          go_enter Try.func46, Try.ntmps46
          go_wp2_with fail
          refine (W.out _).mono ?_
          rintro e w1 ⟨rfl, rfl⟩
          go_wp2_with fail
          refine (WK.out _).mono ?_
          rintro e w1 ⟨rfl, rfl⟩
          go_wp2
          go_ret
          exact ⟨rfl, L.out⟩
        · have hc : k = 1 ∨ k = 2 ∨ k = 3 ∨ k = 4 := by have := of_decide_eq_true hk; omega
          rw [show inB k 1 6 = true from inB_yes (by omega) (by omega)] at WK
          have WK := Lib.hid WK
          clear k5 k6 hk
          generalize inB a 0 15 = ia at *
          have NA := Lib.hid NA
          by_cases hb : b = 0
          · subst hb
            cases ia
            all_goals
              rcases hc with rfl | rfl | rfl | rfl
              all_goals
                go_enter Try.func46, Try.ntmps46
                go_wp2_with fail
                refine (W.out _).mono ?_
                rintro e w1 ⟨rfl, rfl⟩
                go_wp2_with fail
                refine (WK.out _).mono ?_
                rintro e w1 ⟨rfl, rfl⟩
                go_wp2_with fail
                refine (NA.out _).mono ?_
                rintro e w1 ⟨rfl, rfl⟩
                go_wp2
                go_ret
                exact ⟨rfl, L.out⟩
          · have h1 : (b == 0) = false := by simpa using hb
            rw [decide_eq_false hb, Bool.and_false]
            clear hb
            cases ia
            all_goals
              rcases hc with rfl | rfl | rfl | rfl
              all_goals
                go_enter Try.func46, Try.ntmps46
                go_wp2_with fail
                refine (W.out _).mono ?_
                rintro e w1 ⟨rfl, rfl⟩
                go_wp2_with fail
                refine (WK.out _).mono ?_
                rintro e w1 ⟨rfl, rfl⟩
                go_wp2_with fail
                refine (NA.out _).mono ?_
                rintro e w1 ⟨rfl, rfl⟩
                go_wp2
                go_ret
                exact ⟨rfl, L.out⟩
set_option maxRecDepth 100000 in
theorem specIncOk (e k a b : Int) (w : World) : Calls Try.prog 11 #[icv e k a b] w (RetW (.bool (okI e k a b)) w) := by
  have L := Lib.hid (lay w (.cells #[.int .i64 e, .int .i64 k, .int .i64 a, .int .i64 b] 25))
  have C := Lib.hid (fun w' => l11Inc e k a b w')
  generalize okI e k a b = ok at *
  go_enter Try.func11, Try.ntmps11
  go_wp2_with fail
  refine (C.out _).mono ?_
  rintro e w1 ⟨rfl, b1⟩
  have B := Lib.hid (chain L.out b1)
  clear b1
  go_wp2
  go_ret
  exact ⟨rfl, B.out⟩
set_option maxRecDepth 100000 in
theorem fnIncOk (cs : List Value) (d : DInc) (w : World) (h : Rd.Rdb.rd false 0 w cs d) :
    Calls Try.prog 3 #[.agg cs.toArray] w fun e w' => e = .returned (.bool true) ∧ Below w.heap.size w w' := by
  obtain ⟨rfl, f0, f1, f2, f3⟩ := Rd.shape_Inc h
  have X := Lib.hid (BxN.new w #[.int .i64 d.epoch, .int .i64 d.kind, .int .i64 d.a, .int .i64 d.b] 23)
  have L := Lib.hid (lay w (.cells #[.int .i64 d.epoch, .int .i64 d.kind, .int .i64 d.a, .int .i64 d.b] 23))
  have T := Lib.hid (fun w' => Rd.toInc (fr := false) (lo := 0) d w' (show (0 : Nat) ≤ _ by omega) (Rd.mk_Inc f0 f1 f2 f3))
  have S := Lib.hid (specIncOk d.epoch d.kind d.a d.b)
  have I := Lib.hid (implIncOk d.epoch d.kind d.a d.b)
  clear f0 f1 f2 f3
  generalize okI d.epoch d.kind d.a d.b = ok at *
  go_enter Try.func3, Try.ntmps3
  go_wp2_with fail
  refine (T.out _).mono ?_
  rintro e w1 ⟨c1, rfl, r1, b1⟩
  obtain ⟨rfl, -, -, -, -⟩ := Rd.shape_Inc r1
  have B1 := Lib.hid (chain L.out b1)
  have X1 := Lib.hid (X.out.later b1)
  clear b1 r1
  go_wp2_with fail
  refine (S.out _).mono ?_
  rintro e w2 ⟨rfl, b2⟩
  have B2 := Lib.hid (chain B1.out b2)
  have X2 := X1.out.later b2
  have x0 := X2.cells 0 _ rfl
  have x1 := X2.cells 1 _ rfl
  have x2 := X2.cells 2 _ rfl
  have x3 := X2.cells 3 _ rfl
  clear b2 X2
  go_wp2_with fail
  refine (T.out _).mono ?_
  rintro e w3 ⟨c3, rfl, r3, b3⟩
  obtain ⟨rfl, -, -, -, -⟩ := Rd.shape_Inc r3
  have B3 := Lib.hid (chain B2.out b3)
  clear b3 r3
  go_wp2_with fail
  refine (I.out _).mono ?_
  rintro e w4 ⟨rfl, b4⟩
  have B4 := Lib.hid (chain B3.out b4)
  clear b4
  go_wp2
  go_ret
  exact ⟨rfl, B4.out⟩
end Go.Proofs.Yteogbfmghbaelaa.Ic
