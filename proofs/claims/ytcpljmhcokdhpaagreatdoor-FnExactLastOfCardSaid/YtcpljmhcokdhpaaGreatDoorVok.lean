/-
  Valid versions, requests and sums: what the program and the model answer.
-/
import Derived.Test.YtcpljmhcokdhpaaGreatDoorVer
import Derived.Test.YtcpljmhcokdhpaaGreatDoorDReq
import Derived.Test.YtcpljmhcokdhpaaGreatDoorWithin
import Derived.WalkLawsBesides
namespace Go.Proofs.YtcpljmhcokdhpaaGreatDoor.Rd
open Go.RowKit Go.ChangeShapes Go.WideShapes Go.Proofs.YtcpljmhcokdhpaaGreatDoor.GfI Go.Proofs.YtcpljmhcokdhpaaGreatDoor.GfS
open Go.Proofs.YtcpljmhcokdhpaaGreatDoor.Sg (BxN)
set_option linter.unusedVariables false
set_option linter.unusedSimpArgs false

def sumB (n : Int) : Bool := inB n 0 4294967295
def verZ (a : DVer) : Bool := (a.epoch == 0) && (a.seq == 0)
def verB (a : DVer) : Bool := verZ a || (inB a.epoch 1 60 && inB a.seq 1 1000)
theorem specSum (n : Int) (w : World) : Calls Tryz.prog 140 #[.int .i64 n] w fun e w' => e = .returned (.bool (sumB n)) ∧ w = w' := by
  have H := Lib.hid (l00In n 0 4294967295)
  unfold sumB
  generalize inB n 0 4294967295 = v at *
  go_enter Tryz.func140, Tryz.ntmps140
  go_wp2_with (go_at_call 83; refine (H.out _).mono ?_; rintro e w2 ⟨rfl, rfl⟩)
  go_ret
  exact ⟨rfl, rfl⟩
theorem implSum (n : Int) (w : World) : Calls Tryz.prog 189 #[.int .i64 n] w fun e w' => e = .returned (.bool (sumB n)) ∧ w = w' := by
  have H := Lib.hid (Wi.isWithin n 0 4294967295 (by omega))
  unfold sumB
  generalize inB n 0 4294967295 = v at *
  go_enter Tryz.func189, Tryz.ntmps189
  go_wp2_with (go_at_call 96; refine (H.out _).mono ?_; rintro e w2 ⟨rfl, rfl⟩)
  go_ret
  exact ⟨rfl, rfl⟩
theorem same_ret {b : Bool} {f : Nat} {args : Array Value} {w' : World} (h : Calls Tryz.prog f args w' fun e w2 => e = .returned (.bool b) ∧ w' = w2) : Calls Tryz.prog f args w' (RetW (.bool b) w') :=
  h.mono fun _ _ q => ⟨q.1, q.2 ▸ Below.refl _ _⟩
def reqB (a : DReq) : Bool := ((a.client == 0) && (a.no == 0)) || (inB a.client 100 105 && inB a.no 1 1000)
theorem specClient (n : Int) (w : World) : Calls Tryz.prog 141 #[.int .i64 n] w fun e w' => e = .returned (.bool (inB n 100 105)) ∧ w = w' := by
  have H := Lib.hid (l00In n 100 105)
  generalize inB n 100 105 = v at *
  go_enter Tryz.func141, Tryz.ntmps141
  go_wp2_with (go_at_call 83; refine (H.out _).mono ?_; rintro e w2 ⟨rfl, rfl⟩)
  go_ret
  exact ⟨rfl, rfl⟩
theorem specZero (a : DVer) (w : World) : Calls Tryz.prog 137 #[.agg #[.int .i64 a.epoch, .int .i64 a.seq]] w (RetW (.bool (verZ a)) w) := by
  have BH := Lib.hid (lay w (.cells #[.int .i64 a.epoch, .int .i64 a.seq] 37))
  unfold verZ
  generalize a.epoch = ae at *
  generalize a.seq = sa at *
  by_cases h1 : ae = 0
  · subst h1
    by_cases h2 : sa = 0
    · subst h2
      go_enter Tryz.func137, Tryz.ntmps137
      go_wp2
      go_ret
      exact ⟨rfl, BH.out⟩
    · rw [show (sa == 0) = false by simpa using h2]
      go_enter Tryz.func137, Tryz.ntmps137
      go_wp2
      go_ret
      exact ⟨rfl, BH.out⟩
  · rw [show (ae == 0) = false by simpa using h1]
    go_enter Tryz.func137, Tryz.ntmps137
    go_wp2
    go_ret
    exact ⟨rfl, BH.out⟩
/-! ## by vok.py -/
set_option maxRecDepth 100000 in
set_option maxHeartbeats 4000000 in
theorem specVerOk (a : DVer) (w : World) : Calls Tryz.prog 84 #[.agg #[.int .i64 a.epoch, .int .i64 a.seq]] w (RetW (.bool (verB a)) w) := by
  have BH := Lib.hid (lay w (.cells #[.int .i64 a.epoch, .int .i64 a.seq] 37))
  have XH := Lib.hid (BxN.new w #[.int .i64 a.epoch, .int .i64 a.seq] 37)
  have Z := Lib.hid (fun w' (_ : Below w.heap.size w w') => specZero a w')
  have C1 := Lib.hid (fun w' (_ : Below w.heap.size w w') => same_ret (l00In a.epoch 1 60 w'))
  have C2 := Lib.hid (fun w' (_ : Below w.heap.size w w') => same_ret (l00In a.seq 1 1000 w'))
  obtain ⟨v, hv⟩ : ∃ v, verB a = v := ⟨_, rfl⟩
  rw [hv]
  unfold verB at hv
  generalize inB a.epoch 1 60 = c1 at *
  generalize inB a.seq 1 1000 = c2 at *
  generalize verZ a = z at *
  generalize a.epoch = ae at *
  generalize a.seq = sa at *
  cases z
  · skip
    cases c1
    · skip
      simp only [Bool.false_or, Bool.true_or, Bool.false_and, Bool.true_and] at hv
      subst hv
      go_enter Tryz.func84, Tryz.ntmps84
      go_wp2_with fail
      refine (Z.out _ BH.out).mono ?_
      rintro e w2 ⟨rfl, b2⟩
      have XH := Lib.hid (XH.out.later b2)
      have X_0 := XH.out.cells 0 _ rfl
      have X_1 := XH.out.cells 1 _ rfl
      have BH := Lib.hid (chainX w BH.out b2)
      clear b2
      go_wp2_with fail
      refine (C1.out _ BH.out).mono ?_
      rintro e w2 ⟨rfl, b2⟩
      have XH := Lib.hid (XH.out.later b2)
      have X_0 := XH.out.cells 0 _ rfl
      have X_1 := XH.out.cells 1 _ rfl
      have BH := Lib.hid (chainX w BH.out b2)
      clear b2
      go_wp2
      go_ret
      exact ⟨rfl, BH.out⟩
    · skip
      simp only [Bool.false_or, Bool.true_or, Bool.false_and, Bool.true_and] at hv
      subst hv
      go_enter Tryz.func84, Tryz.ntmps84
      go_wp2_with fail
      refine (Z.out _ BH.out).mono ?_
      rintro e w2 ⟨rfl, b2⟩
      have XH := Lib.hid (XH.out.later b2)
      have X_0 := XH.out.cells 0 _ rfl
      have X_1 := XH.out.cells 1 _ rfl
      have BH := Lib.hid (chainX w BH.out b2)
      clear b2
      go_wp2_with fail
      refine (C1.out _ BH.out).mono ?_
      rintro e w2 ⟨rfl, b2⟩
      have XH := Lib.hid (XH.out.later b2)
      have X_0 := XH.out.cells 0 _ rfl
      have X_1 := XH.out.cells 1 _ rfl
      have BH := Lib.hid (chainX w BH.out b2)
      clear b2
      go_wp2_with fail
      refine (C2.out _ BH.out).mono ?_
      rintro e w2 ⟨rfl, b2⟩
      have XH := Lib.hid (XH.out.later b2)
      have X_0 := XH.out.cells 0 _ rfl
      have X_1 := XH.out.cells 1 _ rfl
      have BH := Lib.hid (chainX w BH.out b2)
      clear b2
      go_wp2
      go_ret
      exact ⟨rfl, BH.out⟩
  · simp only [Bool.true_or] at hv
    subst hv
    go_enter Tryz.func84, Tryz.ntmps84
    go_wp2_with fail
    refine (Z.out _ BH.out).mono ?_
    rintro e w2 ⟨rfl, b2⟩
    have XH := Lib.hid (XH.out.later b2)
    have X_0 := XH.out.cells 0 _ rfl
    have X_1 := XH.out.cells 1 _ rfl
    have BH := Lib.hid (chainX w BH.out b2)
    clear b2
    go_wp2
    go_ret
    exact ⟨rfl, BH.out⟩
set_option maxRecDepth 100000 in
set_option maxHeartbeats 4000000 in
theorem implVerOk (a : DVer) (w : World) : Calls Tryz.prog 99 #[.agg #[.int .i64 a.epoch, .int .i64 a.seq]] w (RetW (.bool (verB a)) w) := by
  have BH := Lib.hid (lay w (.cells #[.int .i64 a.epoch, .int .i64 a.seq] 37))
  have XH := Lib.hid (BxN.new w #[.int .i64 a.epoch, .int .i64 a.seq] 37)
  have C1 := Lib.hid (fun w' (_ : Below w.heap.size w w') => same_ret (Wi.isWithin a.epoch 1 60 (by omega) w'))
  have C2 := Lib.hid (fun w' (_ : Below w.heap.size w w') => same_ret (Wi.isWithin a.seq 1 1000 (by omega) w'))
  obtain ⟨v, hv⟩ : ∃ v, verB a = v := ⟨_, rfl⟩
  rw [hv]
  unfold verB at hv
  generalize inB a.epoch 1 60 = c1 at *
  generalize inB a.seq 1 1000 = c2 at *
  unfold verZ at hv
  generalize a.epoch = ae at *
  generalize a.seq = sa at *
  by_cases h1 : ae = 0
  · subst h1
    by_cases h2 : sa = 0
    · subst h2
      simp only [beq_self_eq_true, Bool.true_and, Bool.true_or] at hv
      subst hv
      go_enter Tryz.func99, Tryz.ntmps99
      go_wp2
      go_ret
      exact ⟨rfl, BH.out⟩
    · have q2 : (sa == 0) = false := by simpa using h2
      cases c1
      · skip
        simp only [q2, beq_self_eq_true, Bool.false_or, Bool.true_or, Bool.false_and, Bool.true_and] at hv
        subst hv
        go_enter Tryz.func99, Tryz.ntmps99
        go_wp2_with fail
        refine (C1.out _ BH.out).mono ?_
        rintro e w2 ⟨rfl, b2⟩
        have XH := Lib.hid (XH.out.later b2)
        have X_0 := XH.out.cells 0 _ rfl
        have X_1 := XH.out.cells 1 _ rfl
        have BH := Lib.hid (chainX w BH.out b2)
        clear b2
        go_wp2
        go_ret
        exact ⟨rfl, BH.out⟩
      · skip
        simp only [q2, beq_self_eq_true, Bool.false_or, Bool.true_or, Bool.false_and, Bool.true_and] at hv
        subst hv
        go_enter Tryz.func99, Tryz.ntmps99
        go_wp2_with fail
        refine (C1.out _ BH.out).mono ?_
        rintro e w2 ⟨rfl, b2⟩
        have XH := Lib.hid (XH.out.later b2)
        have X_0 := XH.out.cells 0 _ rfl
        have X_1 := XH.out.cells 1 _ rfl
        have BH := Lib.hid (chainX w BH.out b2)
        clear b2
        go_wp2_with fail
        refine (C2.out _ BH.out).mono ?_
        rintro e w2 ⟨rfl, b2⟩
        have XH := Lib.hid (XH.out.later b2)
        have X_0 := XH.out.cells 0 _ rfl
        have X_1 := XH.out.cells 1 _ rfl
        have BH := Lib.hid (chainX w BH.out b2)
        clear b2
        go_wp2
        go_ret
        exact ⟨rfl, BH.out⟩
  · have q1 : (ae == 0) = false := by simpa using h1
    cases c1
    · skip
      simp only [q1, Bool.false_or, Bool.true_or, Bool.false_and, Bool.true_and] at hv
      subst hv
      go_enter Tryz.func99, Tryz.ntmps99
      go_wp2_with fail
      refine (C1.out _ BH.out).mono ?_
      rintro e w2 ⟨rfl, b2⟩
      have XH := Lib.hid (XH.out.later b2)
      have X_0 := XH.out.cells 0 _ rfl
      have X_1 := XH.out.cells 1 _ rfl
      have BH := Lib.hid (chainX w BH.out b2)
      clear b2
      go_wp2
      go_ret
      exact ⟨rfl, BH.out⟩
    · skip
      simp only [q1, Bool.false_or, Bool.true_or, Bool.false_and, Bool.true_and] at hv
      subst hv
      go_enter Tryz.func99, Tryz.ntmps99
      go_wp2_with fail
      refine (C1.out _ BH.out).mono ?_
      rintro e w2 ⟨rfl, b2⟩
      have XH := Lib.hid (XH.out.later b2)
      have X_0 := XH.out.cells 0 _ rfl
      have X_1 := XH.out.cells 1 _ rfl
      have BH := Lib.hid (chainX w BH.out b2)
      clear b2
      go_wp2_with fail
      refine (C2.out _ BH.out).mono ?_
      rintro e w2 ⟨rfl, b2⟩
      have XH := Lib.hid (XH.out.later b2)
      have X_0 := XH.out.cells 0 _ rfl
      have X_1 := XH.out.cells 1 _ rfl
      have BH := Lib.hid (chainX w BH.out b2)
      clear b2
      go_wp2
      go_ret
      exact ⟨rfl, BH.out⟩
set_option maxRecDepth 100000 in
set_option maxHeartbeats 4000000 in
theorem specFull (a : DVer) (w : World) : Calls Tryz.prog 139 #[.agg #[.int .i64 a.epoch, .int .i64 a.seq]] w (RetW (.bool (verB a && !verZ a)) w) := by
  have BH := Lib.hid (lay w (.cells #[.int .i64 a.epoch, .int .i64 a.seq] 37))
  have XH := Lib.hid (BxN.new w #[.int .i64 a.epoch, .int .i64 a.seq] 37)
  have Z := Lib.hid (fun w' (_ : Below w.heap.size w w') => specZero a w')
  have V := Lib.hid (fun w' (_ : Below w.heap.size w w') => specVerOk a w')
  generalize verZ a = z at *
  generalize verB a = v at *
  generalize a.epoch = ae at *
  generalize a.seq = sa at *
  cases v
  · skip
    go_enter Tryz.func139, Tryz.ntmps139
    go_wp2_with fail
    refine (V.out _ BH.out).mono ?_
    rintro e w2 ⟨rfl, b2⟩
    have XH := Lib.hid (XH.out.later b2)
    have X_0 := XH.out.cells 0 _ rfl
    have X_1 := XH.out.cells 1 _ rfl
    have BH := Lib.hid (chainX w BH.out b2)
    clear b2
    go_wp2
    go_ret
    exact ⟨rfl, BH.out⟩
  · cases z
    · skip
      go_enter Tryz.func139, Tryz.ntmps139
      go_wp2_with fail
      refine (V.out _ BH.out).mono ?_
      rintro e w2 ⟨rfl, b2⟩
      have XH := Lib.hid (XH.out.later b2)
      have X_0 := XH.out.cells 0 _ rfl
      have X_1 := XH.out.cells 1 _ rfl
      have BH := Lib.hid (chainX w BH.out b2)
      clear b2
      go_wp2_with fail
      refine (Z.out _ BH.out).mono ?_
      rintro e w2 ⟨rfl, b2⟩
      have XH := Lib.hid (XH.out.later b2)
      have X_0 := XH.out.cells 0 _ rfl
      have X_1 := XH.out.cells 1 _ rfl
      have BH := Lib.hid (chainX w BH.out b2)
      clear b2
      go_wp2
      go_ret
      exact ⟨rfl, BH.out⟩
    · skip
      go_enter Tryz.func139, Tryz.ntmps139
      go_wp2_with fail
      refine (V.out _ BH.out).mono ?_
      rintro e w2 ⟨rfl, b2⟩
      have XH := Lib.hid (XH.out.later b2)
      have X_0 := XH.out.cells 0 _ rfl
      have X_1 := XH.out.cells 1 _ rfl
      have BH := Lib.hid (chainX w BH.out b2)
      clear b2
      go_wp2_with fail
      refine (Z.out _ BH.out).mono ?_
      rintro e w2 ⟨rfl, b2⟩
      have XH := Lib.hid (XH.out.later b2)
      have X_0 := XH.out.cells 0 _ rfl
      have X_1 := XH.out.cells 1 _ rfl
      have BH := Lib.hid (chainX w BH.out b2)
      clear b2
      go_wp2
      go_ret
      exact ⟨rfl, BH.out⟩
set_option maxRecDepth 100000 in
set_option maxHeartbeats 4000000 in
theorem specReqOk (a : DReq) (w : World) : Calls Tryz.prog 184 #[.agg #[.int .i64 a.client, .int .i64 a.no]] w (RetW (.bool (reqB a)) w) := by
  have BH := Lib.hid (lay w (.cells #[.int .i64 a.client, .int .i64 a.no] 166))
  have XH := Lib.hid (BxN.new w #[.int .i64 a.client, .int .i64 a.no] 166)
  have C1 := Lib.hid (fun w' (_ : Below w.heap.size w w') => same_ret (specClient a.client w'))
  have C2 := Lib.hid (fun w' (_ : Below w.heap.size w w') => same_ret (l00In a.no 1 1000 w'))
  obtain ⟨v, hv⟩ : ∃ v, reqB a = v := ⟨_, rfl⟩
  rw [hv]
  unfold reqB at hv
  generalize inB a.client 100 105 = c1 at *
  generalize inB a.no 1 1000 = c2 at *
  generalize a.client = ae at *
  generalize a.no = sa at *
  by_cases h1 : ae = 0
  · subst h1
    by_cases h2 : sa = 0
    · subst h2
      simp only [beq_self_eq_true, Bool.true_and, Bool.true_or] at hv
      subst hv
      go_enter Tryz.func184, Tryz.ntmps184
      go_wp2
      go_ret
      exact ⟨rfl, BH.out⟩
    · have q2 : (sa == 0) = false := by simpa using h2
      cases c1
      · simp only [q2, beq_self_eq_true, Bool.false_or, Bool.true_or, Bool.false_and, Bool.true_and] at hv
        subst hv
        go_enter Tryz.func184, Tryz.ntmps184
        go_wp2_with fail
        refine (C1.out _ BH.out).mono ?_
        rintro e w2 ⟨rfl, b2⟩
        have XH := Lib.hid (XH.out.later b2)
        have X_0 := XH.out.cells 0 _ rfl
        have X_1 := XH.out.cells 1 _ rfl
        have BH := Lib.hid (chainX w BH.out b2)
        clear b2
        go_wp2
        go_ret
        exact ⟨rfl, BH.out⟩
      · simp only [q2, beq_self_eq_true, Bool.false_or, Bool.true_or, Bool.false_and, Bool.true_and] at hv
        subst hv
        go_enter Tryz.func184, Tryz.ntmps184
        go_wp2_with fail
        refine (C1.out _ BH.out).mono ?_
        rintro e w2 ⟨rfl, b2⟩
        have XH := Lib.hid (XH.out.later b2)
        have X_0 := XH.out.cells 0 _ rfl
        have X_1 := XH.out.cells 1 _ rfl
        have BH := Lib.hid (chainX w BH.out b2)
        clear b2
        go_wp2_with fail
        refine (C2.out _ BH.out).mono ?_
        rintro e w2 ⟨rfl, b2⟩
        have XH := Lib.hid (XH.out.later b2)
        have X_0 := XH.out.cells 0 _ rfl
        have X_1 := XH.out.cells 1 _ rfl
        have BH := Lib.hid (chainX w BH.out b2)
        clear b2
        go_wp2
        go_ret
        exact ⟨rfl, BH.out⟩
  · have q1 : (ae == 0) = false := by simpa using h1
    cases c1
    · simp only [q1, Bool.false_or, Bool.true_or, Bool.false_and, Bool.true_and] at hv
      subst hv
      go_enter Tryz.func184, Tryz.ntmps184
      go_wp2_with fail
      refine (C1.out _ BH.out).mono ?_
      rintro e w2 ⟨rfl, b2⟩
      have XH := Lib.hid (XH.out.later b2)
      have X_0 := XH.out.cells 0 _ rfl
      have X_1 := XH.out.cells 1 _ rfl
      have BH := Lib.hid (chainX w BH.out b2)
      clear b2
      go_wp2
      go_ret
      exact ⟨rfl, BH.out⟩
    · simp only [q1, Bool.false_or, Bool.true_or, Bool.false_and, Bool.true_and] at hv
      subst hv
      go_enter Tryz.func184, Tryz.ntmps184
      go_wp2_with fail
      refine (C1.out _ BH.out).mono ?_
      rintro e w2 ⟨rfl, b2⟩
      have XH := Lib.hid (XH.out.later b2)
      have X_0 := XH.out.cells 0 _ rfl
      have X_1 := XH.out.cells 1 _ rfl
      have BH := Lib.hid (chainX w BH.out b2)
      clear b2
      go_wp2_with fail
      refine (C2.out _ BH.out).mono ?_
      rintro e w2 ⟨rfl, b2⟩
      have XH := Lib.hid (XH.out.later b2)
      have X_0 := XH.out.cells 0 _ rfl
      have X_1 := XH.out.cells 1 _ rfl
      have BH := Lib.hid (chainX w BH.out b2)
      clear b2
      go_wp2
      go_ret
      exact ⟨rfl, BH.out⟩
set_option maxRecDepth 100000 in
set_option maxHeartbeats 4000000 in
theorem implReqOk (a : DReq) (w : World) : Calls Tryz.prog 190 #[.agg #[.int .i64 a.client, .int .i64 a.no]] w (RetW (.bool (reqB a)) w) := by
  have BH := Lib.hid (lay w (.cells #[.int .i64 a.client, .int .i64 a.no] 166))
  have XH := Lib.hid (BxN.new w #[.int .i64 a.client, .int .i64 a.no] 166)
  have C1 := Lib.hid (fun w' (_ : Below w.heap.size w w') => same_ret (Wi.isWithin a.client 100 105 (by omega) w'))
  have C2 := Lib.hid (fun w' (_ : Below w.heap.size w w') => same_ret (Wi.isWithin a.no 1 1000 (by omega) w'))
  obtain ⟨v, hv⟩ : ∃ v, reqB a = v := ⟨_, rfl⟩
  rw [hv]
  unfold reqB at hv
  generalize inB a.client 100 105 = c1 at *
  generalize inB a.no 1 1000 = c2 at *
  generalize a.client = ae at *
  generalize a.no = sa at *
  by_cases h1 : ae = 0
  · subst h1
    by_cases h2 : sa = 0
    · subst h2
      simp only [beq_self_eq_true, Bool.true_and, Bool.true_or] at hv
      subst hv
      go_enter Tryz.func190, Tryz.ntmps190
      go_wp2
      go_ret
      exact ⟨rfl, BH.out⟩
    · have q2 : (sa == 0) = false := by simpa using h2
      cases c1
      · simp only [q2, beq_self_eq_true, Bool.false_or, Bool.true_or, Bool.false_and, Bool.true_and] at hv
        subst hv
        go_enter Tryz.func190, Tryz.ntmps190
        go_wp2_with fail
        refine (C1.out _ BH.out).mono ?_
        rintro e w2 ⟨rfl, b2⟩
        have XH := Lib.hid (XH.out.later b2)
        have X_0 := XH.out.cells 0 _ rfl
        have X_1 := XH.out.cells 1 _ rfl
        have BH := Lib.hid (chainX w BH.out b2)
        clear b2
        go_wp2
        go_ret
        exact ⟨rfl, BH.out⟩
      · simp only [q2, beq_self_eq_true, Bool.false_or, Bool.true_or, Bool.false_and, Bool.true_and] at hv
        subst hv
        go_enter Tryz.func190, Tryz.ntmps190
        go_wp2_with fail
        refine (C1.out _ BH.out).mono ?_
        rintro e w2 ⟨rfl, b2⟩
        have XH := Lib.hid (XH.out.later b2)
        have X_0 := XH.out.cells 0 _ rfl
        have X_1 := XH.out.cells 1 _ rfl
        have BH := Lib.hid (chainX w BH.out b2)
        clear b2
        go_wp2_with fail
        refine (C2.out _ BH.out).mono ?_
        rintro e w2 ⟨rfl, b2⟩
        have XH := Lib.hid (XH.out.later b2)
        have X_0 := XH.out.cells 0 _ rfl
        have X_1 := XH.out.cells 1 _ rfl
        have BH := Lib.hid (chainX w BH.out b2)
        clear b2
        go_wp2
        go_ret
        exact ⟨rfl, BH.out⟩
  · have q1 : (ae == 0) = false := by simpa using h1
    cases c1
    · simp only [q1, Bool.false_or, Bool.true_or, Bool.false_and, Bool.true_and] at hv
      subst hv
      go_enter Tryz.func190, Tryz.ntmps190
      go_wp2_with fail
      refine (C1.out _ BH.out).mono ?_
      rintro e w2 ⟨rfl, b2⟩
      have XH := Lib.hid (XH.out.later b2)
      have X_0 := XH.out.cells 0 _ rfl
      have X_1 := XH.out.cells 1 _ rfl
      have BH := Lib.hid (chainX w BH.out b2)
      clear b2
      go_wp2
      go_ret
      exact ⟨rfl, BH.out⟩
    · simp only [q1, Bool.false_or, Bool.true_or, Bool.false_and, Bool.true_and] at hv
      subst hv
      go_enter Tryz.func190, Tryz.ntmps190
      go_wp2_with fail
      refine (C1.out _ BH.out).mono ?_
      rintro e w2 ⟨rfl, b2⟩
      have XH := Lib.hid (XH.out.later b2)
      have X_0 := XH.out.cells 0 _ rfl
      have X_1 := XH.out.cells 1 _ rfl
      have BH := Lib.hid (chainX w BH.out b2)
      clear b2
      go_wp2_with fail
      refine (C2.out _ BH.out).mono ?_
      rintro e w2 ⟨rfl, b2⟩
      have XH := Lib.hid (XH.out.later b2)
      have X_0 := XH.out.cells 0 _ rfl
      have X_1 := XH.out.cells 1 _ rfl
      have BH := Lib.hid (chainX w BH.out b2)
      clear b2
      go_wp2
      go_ret
      exact ⟨rfl, BH.out⟩
end Go.Proofs.YtcpljmhcokdhpaaGreatDoor.Rd
