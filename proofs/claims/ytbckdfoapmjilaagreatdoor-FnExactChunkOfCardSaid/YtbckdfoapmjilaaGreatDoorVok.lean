/-
  Valid versions, requests and sums: what the program and the model answer.
-/
import Derived.Test.YtbckdfoapmjilaaGreatDoorVer
import Derived.Test.YtbckdfoapmjilaaGreatDoorDReq
import Derived.Test.YtbckdfoapmjilaaGreatDoorWithin
import Derived.WalkLawsBesides
namespace Go.Proofs.YtbckdfoapmjilaaGreatDoor.Rd
open Go.RowKit Go.ChangeShapes Go.WideShapes Go.Proofs.YtbckdfoapmjilaaGreatDoor.GfI Go.Proofs.YtbckdfoapmjilaaGreatDoor.GfS
open Go.Proofs.YtbckdfoapmjilaaGreatDoor.Sg (BxN)
set_option linter.unusedVariables false
set_option linter.unusedSimpArgs false

def sumB (n : Int) : Bool := inB n 0 4294967295
def verZ (a : DVer) : Bool := (a.epoch == 0) && (a.seq == 0)
def verB (a : DVer) : Bool := verZ a || (inB a.epoch 1 60 && inB a.seq 1 1000)
theorem specSum (n : Int) (w : World) : Calls Tryz.prog 68 #[.int .i64 n] w fun e w' => e = .returned (.bool (sumB n)) ∧ w = w' := by
  have H := Lib.hid (l00In n 0 4294967295)
  unfold sumB
  generalize inB n 0 4294967295 = v at *
  go_enter Tryz.func68, Tryz.ntmps68
  go_wp2_with (go_at_call 29; refine (H.out _).mono ?_; rintro e w2 ⟨rfl, rfl⟩)
  go_ret
  exact ⟨rfl, rfl⟩
theorem implSum (n : Int) (w : World) : Calls Tryz.prog 114 #[.int .i64 n] w fun e w' => e = .returned (.bool (sumB n)) ∧ w = w' := by
  have H := Lib.hid (Wi.isWithin n 0 4294967295 (by omega))
  unfold sumB
  generalize inB n 0 4294967295 = v at *
  go_enter Tryz.func114, Tryz.ntmps114
  go_wp2_with (go_at_call 43; refine (H.out _).mono ?_; rintro e w2 ⟨rfl, rfl⟩)
  go_ret
  exact ⟨rfl, rfl⟩
theorem same_ret {b : Bool} {f : Nat} {args : Array Value} {w' : World} (h : Calls Tryz.prog f args w' fun e w2 => e = .returned (.bool b) ∧ w' = w2) : Calls Tryz.prog f args w' (RetW (.bool b) w') :=
  h.mono fun _ _ q => ⟨q.1, q.2 ▸ Below.refl _ _⟩
def reqB (a : DReq) : Bool := ((a.client == 0) && (a.no == 0)) || (inB a.client 100 105 && inB a.no 1 1000)
theorem specClient (n : Int) (w : World) : Calls Tryz.prog 69 #[.int .i64 n] w fun e w' => e = .returned (.bool (inB n 100 105)) ∧ w = w' := by
  have H := Lib.hid (l00In n 100 105)
  generalize inB n 100 105 = v at *
  go_enter Tryz.func69, Tryz.ntmps69
  go_wp2_with (go_at_call 29; refine (H.out _).mono ?_; rintro e w2 ⟨rfl, rfl⟩)
  go_ret
  exact ⟨rfl, rfl⟩
theorem specZero (a : DVer) (w : World) : Calls Tryz.prog 65 #[.agg #[.int .i64 a.epoch, .int .i64 a.seq]] w (RetW (.bool (verZ a)) w) := by
  have BH := Lib.hid (lay w (.cells #[.int .i64 a.epoch, .int .i64 a.seq] 35))
  unfold verZ
  generalize a.epoch = ae at *
  generalize a.seq = sa at *
  by_cases h1 : ae = 0
  · subst h1
    by_cases h2 : sa = 0
    · subst h2
      go_enter Tryz.func65, Tryz.ntmps65
      go_wp2
      go_ret
      exact ⟨rfl, BH.out⟩
    · rw [show (sa == 0) = false by simpa using h2]
      go_enter Tryz.func65, Tryz.ntmps65
      go_wp2
      go_ret
      exact ⟨rfl, BH.out⟩
  · rw [show (ae == 0) = false by simpa using h1]
    go_enter Tryz.func65, Tryz.ntmps65
    go_wp2
    go_ret
    exact ⟨rfl, BH.out⟩
/-! ## by vok.py -/
set_option maxRecDepth 100000 in
set_option maxHeartbeats 4000000 in
theorem specVerOk (a : DVer) (w : World) : Calls Tryz.prog 30 #[.agg #[.int .i64 a.epoch, .int .i64 a.seq]] w (RetW (.bool (verB a)) w) := by
  have BH := Lib.hid (lay w (.cells #[.int .i64 a.epoch, .int .i64 a.seq] 35))
  have XH := Lib.hid (BxN.new w #[.int .i64 a.epoch, .int .i64 a.seq] 35)
  have Z := Lib.hid (fun w' (_ : Below w.heap.size w w') => specZero a w')
  have C1 := Lib.hid (fun w' (_ : Below w.heap.size w w') => same_ret (l00In a.epoch 1 60 w'))
  have C2 := Lib.hid (fun w' (_ : Below w.heap.size w w') => same_ret (l00In a.seq 1 1000 w'))
  obtain ⟨v, hv⟩ : ∃ v, verB a = v := ⟨_, rfl⟩
  rw [hv]
  unfold verB at hv
  generalize inB a.epoch 1 60 = c1 at *
  generalize inB a.seq 1 1000 = c2 at *
  generalize verZ a = z at *
  generalize a.epoch = ae at *
  generalize a.seq = sa at *
  cases z
  · skip
    cases c1
    · skip
      simp only [Bool.false_or, Bool.true_or, Bool.false_and, Bool.true_and] at hv
      subst hv
      go_enter Tryz.func30, Tryz.ntmps30
      go_wp2_with fail
      refine (Z.out _ BH.out).mono ?_
      rintro e w2 ⟨rfl, b2⟩
      have XH := Lib.hid (XH.out.later b2)
      have X_0 := XH.out.cells 0 _ rfl
      have X_1 := XH.out.cells 1 _ rfl
      have BH := Lib.hid (chainX w BH.out b2)
      clear b2
      go_wp2_with fail
      refine (C1.out _ BH.out).mono ?_
      rintro e w2 ⟨rfl, b2⟩
      have XH := Lib.hid (XH.out.later b2)
      have X_0 := XH.out.cells 0 _ rfl
      have X_1 := XH.out.cells 1 _ rfl
      have BH := Lib.hid (chainX w BH.out b2)
      clear b2
      go_wp2
      go_ret
      exact ⟨rfl, BH.out⟩
    · skip
      simp only [Bool.false_or, Bool.true_or, Bool.false_and, Bool.true_and] at hv
      subst hv
      go_enter Tryz.func30, Tryz.ntmps30
      go_wp2_with fail
      refine (Z.out _ BH.out).mono ?_
      rintro e w2 ⟨rfl, b2⟩
      have XH := Lib.hid (XH.out.later b2)
      have X_0 := XH.out.cells 0 _ rfl
      have X_1 := XH.out.cells 1 _ rfl
      have BH := Lib.hid (chainX w BH.out b2)
      clear b2
      go_wp2_with fail
      refine (C1.out _ BH.out).mono ?_
      rintro e w2 ⟨rfl, b2⟩
      have XH := Lib.hid (XH.out.later b2)
      have X_0 := XH.out.cells 0 _ rfl
      have X_1 := XH.out.cells 1 _ rfl
      have BH := Lib.hid (chainX w BH.out b2)
      clear b2
      go_wp2_with fail
      refine (C2.out _ BH.out).mono ?_
      rintro e w2 ⟨rfl, b2⟩
      have XH := Lib.hid (XH.out.later b2)
      have X_0 := XH.out.cells 0 _ rfl
      have X_1 := XH.out.cells 1 _ rfl
      have BH := Lib.hid (chainX w BH.out b2)
      clear b2
      go_wp2
      go_ret
      exact ⟨rfl, BH.out⟩
  · simp only [Bool.true_or] at hv
    subst hv
    go_enter Tryz.func30, Tryz.ntmps30
    go_wp2_with fail
    refine (Z.out _ BH.out).mono ?_
    rintro e w2 ⟨rfl, b2⟩
    have XH := Lib.hid (XH.out.later b2)
    have X_0 := XH.out.cells 0 _ rfl
    have X_1 := XH.out.cells 1 _ rfl
    have BH := Lib.hid (chainX w BH.out b2)
    clear b2
    go_wp2
    go_ret
    exact ⟨rfl, BH.out⟩
set_option maxRecDepth 100000 in
set_option maxHeartbeats 4000000 in
theorem specFull (a : DVer) (w : World) : Calls Tryz.prog 67 #[.agg #[.int .i64 a.epoch, .int .i64 a.seq]] w (RetW (.bool (verB a && !verZ a)) w) := by
  have BH := Lib.hid (lay w (.cells #[.int .i64 a.epoch, .int .i64 a.seq] 35))
  have XH := Lib.hid (BxN.new w #[.int .i64 a.epoch, .int .i64 a.seq] 35)
  have Z := Lib.hid (fun w' (_ : Below w.heap.size w w') => specZero a w')
  have V := Lib.hid (fun w' (_ : Below w.heap.size w w') => specVerOk a w')
  generalize verZ a = z at *
  generalize verB a = v at *
  generalize a.epoch = ae at *
  generalize a.seq = sa at *
  cases v
  · skip
    go_enter Tryz.func67, Tryz.ntmps67
    go_wp2_with fail
    refine (V.out _ BH.out).mono ?_
    rintro e w2 ⟨rfl, b2⟩
    have XH := Lib.hid (XH.out.later b2)
    have X_0 := XH.out.cells 0 _ rfl
    have X_1 := XH.out.cells 1 _ rfl
    have BH := Lib.hid (chainX w BH.out b2)
    clear b2
    go_wp2
    go_ret
    exact ⟨rfl, BH.out⟩
  · cases z
    · skip
      go_enter Tryz.func67, Tryz.ntmps67
      go_wp2_with fail
      refine (V.out _ BH.out).mono ?_
      rintro e w2 ⟨rfl, b2⟩
      have XH := Lib.hid (XH.out.later b2)
      have X_0 := XH.out.cells 0 _ rfl
      have X_1 := XH.out.cells 1 _ rfl
      have BH := Lib.hid (chainX w BH.out b2)
      clear b2
      go_wp2_with fail
      refine (Z.out _ BH.out).mono ?_
      rintro e w2 ⟨rfl, b2⟩
      have XH := Lib.hid (XH.out.later b2)
      have X_0 := XH.out.cells 0 _ rfl
      have X_1 := XH.out.cells 1 _ rfl
      have BH := Lib.hid (chainX w BH.out b2)
      clear b2
      go_wp2
      go_ret
      exact ⟨rfl, BH.out⟩
    · skip
      go_enter Tryz.func67, Tryz.ntmps67
      go_wp2_with fail
      refine (V.out _ BH.out).mono ?_
      rintro e w2 ⟨rfl, b2⟩
      have XH := Lib.hid (XH.out.later b2)
      have X_0 := XH.out.cells 0 _ rfl
      have X_1 := XH.out.cells 1 _ rfl
      have BH := Lib.hid (chainX w BH.out b2)
      clear b2
      go_wp2_with fail
      refine (Z.out _ BH.out).mono ?_
      rintro e w2 ⟨rfl, b2⟩
      have XH := Lib.hid (XH.out.later b2)
      have X_0 := XH.out.cells 0 _ rfl
      have X_1 := XH.out.cells 1 _ rfl
      have BH := Lib.hid (chainX w BH.out b2)
      clear b2
      go_wp2
      go_ret
      exact ⟨rfl, BH.out⟩
set_option maxRecDepth 100000 in
set_option maxHeartbeats 4000000 in
theorem specReqOk (a : DReq) (w : World) : Calls Tryz.prog 109 #[.agg #[.int .i64 a.client, .int .i64 a.no]] w (RetW (.bool (reqB a)) w) := by
  have BH := Lib.hid (lay w (.cells #[.int .i64 a.client, .int .i64 a.no] 112))
  have XH := Lib.hid (BxN.new w #[.int .i64 a.client, .int .i64 a.no] 112)
  have C1 := Lib.hid (fun w' (_ : Below w.heap.size w w') => same_ret (specClient a.client w'))
  have C2 := Lib.hid (fun w' (_ : Below w.heap.size w w') => same_ret (l00In a.no 1 1000 w'))
  obtain ⟨v, hv⟩ : ∃ v, reqB a = v := ⟨_, rfl⟩
  rw [hv]
  unfold reqB at hv
  generalize inB a.client 100 105 = c1 at *
  generalize inB a.no 1 1000 = c2 at *
  generalize a.client = ae at *
  generalize a.no = sa at *
  by_cases h1 : ae = 0
  · subst h1
    by_cases h2 : sa = 0
    · subst h2
      simp only [beq_self_eq_true, Bool.true_and, Bool.true_or] at hv
      subst hv
      go_enter Tryz.func109, Tryz.ntmps109
      go_wp2
      go_ret
      exact ⟨rfl, BH.out⟩
    · have q2 : (sa == 0) = false := by simpa using h2
      cases c1
      · simp only [q2, beq_self_eq_true, Bool.false_or, Bool.true_or, Bool.false_and, Bool.true_and] at hv
        subst hv
        go_enter Tryz.func109, Tryz.ntmps109
        go_wp2_with fail
        refine (C1.out _ BH.out).mono ?_
        rintro e w2 ⟨rfl, b2⟩
        have XH := Lib.hid (XH.out.later b2)
        have X_0 := XH.out.cells 0 _ rfl
        have X_1 := XH.out.cells 1 _ rfl
        have BH := Lib.hid (chainX w BH.out b2)
        clear b2
        go_wp2
        go_ret
        exact ⟨rfl, BH.out⟩
      · simp only [q2, beq_self_eq_true, Bool.false_or, Bool.true_or, Bool.false_and, Bool.true_and] at hv
        subst hv
        go_enter Tryz.func109, Tryz.ntmps109
        go_wp2_with fail
        refine (C1.out _ BH.out).mono ?_
        rintro e w2 ⟨rfl, b2⟩
        have XH := Lib.hid (XH.out.later b2)
        have X_0 := XH.out.cells 0 _ rfl
        have X_1 := XH.out.cells 1 _ rfl
        have BH := Lib.hid (chainX w BH.out b2)
        clear b2
        go_wp2_with fail
        refine (C2.out _ BH.out).mono ?_
        rintro e w2 ⟨rfl, b2⟩
        have XH := Lib.hid (XH.out.later b2)
        have X_0 := XH.out.cells 0 _ rfl
        have X_1 := XH.out.cells 1 _ rfl
        have BH := Lib.hid (chainX w BH.out b2)
        clear b2
        go_wp2
        go_ret
        exact ⟨rfl, BH.out⟩
  · have q1 : (ae == 0) = false := by simpa using h1
    cases c1
    · simp only [q1, Bool.false_or, Bool.true_or, Bool.false_and, Bool.true_and] at hv
      subst hv
      go_enter Tryz.func109, Tryz.ntmps109
      go_wp2_with fail
      refine (C1.out _ BH.out).mono ?_
      rintro e w2 ⟨rfl, b2⟩
      have XH := Lib.hid (XH.out.later b2)
      have X_0 := XH.out.cells 0 _ rfl
      have X_1 := XH.out.cells 1 _ rfl
      have BH := Lib.hid (chainX w BH.out b2)
      clear b2
      go_wp2
      go_ret
      exact ⟨rfl, BH.out⟩
    · simp only [q1, Bool.false_or, Bool.true_or, Bool.false_and, Bool.true_and] at hv
      subst hv
      go_enter Tryz.func109, Tryz.ntmps109
      go_wp2_with fail
      refine (C1.out _ BH.out).mono ?_
      rintro e w2 ⟨rfl, b2⟩
      have XH := Lib.hid (XH.out.later b2)
      have X_0 := XH.out.cells 0 _ rfl
      have X_1 := XH.out.cells 1 _ rfl
      have BH := Lib.hid (chainX w BH.out b2)
      clear b2
      go_wp2_with fail
      refine (C2.out _ BH.out).mono ?_
      rintro e w2 ⟨rfl, b2⟩
      have XH := Lib.hid (XH.out.later b2)
      have X_0 := XH.out.cells 0 _ rfl
      have X_1 := XH.out.cells 1 _ rfl
      have BH := Lib.hid (chainX w BH.out b2)
      clear b2
      go_wp2
      go_ret
      exact ⟨rfl, BH.out⟩
/-! ## by vok2.py -/
def givB (a : DVer) : Bool := inB a.epoch 1 60 && inB a.seq 1 1000
def reqG (a : DReq) : Bool := inB a.client 100 105 && inB a.no 1 1000
theorem givB_full (a : DVer) : (verB a && !verZ a) = givB a := by
  unfold verB givB verZ
  by_cases h : a.epoch = 0
  · have e : inB a.epoch 1 60 = false := by unfold inB; exact decide_eq_false (by omega)
    rw [e]
    by_cases k : a.seq = 0
    · simp [h, k]
    · simp [h, k]
  · have e : (a.epoch == 0) = false := by simpa using h
    rw [e]
    simp
theorem clientOkX (n : Int) (w : World) : Calls Tryz.prog 130 #[.int .i64 n] w fun e w' => e = .returned (.bool (inB n 100 105)) ∧ w = w' := by
  have H := Lib.hid (Wi.isWithin n 100 105 (by omega))
  generalize inB n 100 105 = v at *
  go_enter Tryz.func130, Tryz.ntmps130
  go_wp2_with (go_at_call 43; refine (H.out _).mono ?_; rintro e w2 ⟨rfl, rfl⟩)
  go_ret
  exact ⟨rfl, rfl⟩
theorem isPosX (n : Int) (w : World) : Calls Tryz.prog 122 #[.int .i64 n] w fun e w' => e = .returned (.bool (inB n 0 6)) ∧ w = w' := by
  have H := Lib.hid (Wi.isWithin n 0 6 (by omega))
  generalize inB n 0 6 = v at *
  go_enter Tryz.func122, Tryz.ntmps122
  go_wp2_with (go_at_call 43; refine (H.out _).mono ?_; rintro e w2 ⟨rfl, rfl⟩)
  go_ret
  exact ⟨rfl, rfl⟩
set_option maxRecDepth 100000 in
set_option maxHeartbeats 4000000 in
theorem implVerGiven (a : DVer) (w : World) : Calls Tryz.prog 92 #[.agg #[.int .i64 a.epoch, .int .i64 a.seq]] w (RetW (.bool (givB a)) w) := by
  have BH := Lib.hid (lay w (.cells #[.int .i64 a.epoch, .int .i64 a.seq] 35))
  have XH := Lib.hid (BxN.new w #[.int .i64 a.epoch, .int .i64 a.seq] 35)
  have C1 := Lib.hid (fun w' (_ : Below w.heap.size w w') => same_ret (Wi.isWithin a.epoch 1 60 (by omega) w'))
  have C2 := Lib.hid (fun w' (_ : Below w.heap.size w w') => same_ret (Wi.isWithin a.seq 1 1000 (by omega) w'))
  unfold givB
  generalize inB a.epoch 1 60 = c1 at *
  generalize inB a.seq 1 1000 = c2 at *
  generalize a.epoch = x0 at *
  generalize a.seq = x1 at *
  cases c1
  · rw [Bool.false_and]
    go_enter Tryz.func92, Tryz.ntmps92
    go_wp2_with fail
    refine (C1.out _ BH.out).mono ?_
    rintro e w2 ⟨rfl, b2⟩
    have XH := Lib.hid (XH.out.later b2)
    have X_0 := XH.out.cells 0 _ rfl
    have X_1 := XH.out.cells 1 _ rfl
    have BH := Lib.hid (chainX w BH.out b2)
    clear b2
    go_wp2
    go_ret
    exact ⟨rfl, BH.out⟩
  · rw [Bool.true_and]
    go_enter Tryz.func92, Tryz.ntmps92
    go_wp2_with fail
    refine (C1.out _ BH.out).mono ?_
    rintro e w2 ⟨rfl, b2⟩
    have XH := Lib.hid (XH.out.later b2)
    have X_0 := XH.out.cells 0 _ rfl
    have X_1 := XH.out.cells 1 _ rfl
    have BH := Lib.hid (chainX w BH.out b2)
    clear b2
    go_wp2_with fail
    refine (C2.out _ BH.out).mono ?_
    rintro e w2 ⟨rfl, b2⟩
    have XH := Lib.hid (XH.out.later b2)
    have X_0 := XH.out.cells 0 _ rfl
    have X_1 := XH.out.cells 1 _ rfl
    have BH := Lib.hid (chainX w BH.out b2)
    clear b2
    go_wp2
    go_ret
    exact ⟨rfl, BH.out⟩
set_option maxRecDepth 100000 in
set_option maxHeartbeats 4000000 in
theorem implReqGiven (a : DReq) (w : World) : Calls Tryz.prog 115 #[.agg #[.int .i64 a.client, .int .i64 a.no]] w (RetW (.bool (reqG a)) w) := by
  have BH := Lib.hid (lay w (.cells #[.int .i64 a.client, .int .i64 a.no] 112))
  have XH := Lib.hid (BxN.new w #[.int .i64 a.client, .int .i64 a.no] 112)
  have C1 := Lib.hid (fun w' (_ : Below w.heap.size w w') => same_ret (clientOkX a.client w'))
  have C2 := Lib.hid (fun w' (_ : Below w.heap.size w w') => same_ret (Wi.isWithin a.no 1 1000 (by omega) w'))
  unfold reqG
  generalize inB a.client 100 105 = c1 at *
  generalize inB a.no 1 1000 = c2 at *
  generalize a.client = x0 at *
  generalize a.no = x1 at *
  cases c1
  · rw [Bool.false_and]
    go_enter Tryz.func115, Tryz.ntmps115
    go_wp2_with fail
    refine (C1.out _ BH.out).mono ?_
    rintro e w2 ⟨rfl, b2⟩
    have XH := Lib.hid (XH.out.later b2)
    have X_0 := XH.out.cells 0 _ rfl
    have X_1 := XH.out.cells 1 _ rfl
    have BH := Lib.hid (chainX w BH.out b2)
    clear b2
    go_wp2
    go_ret
    exact ⟨rfl, BH.out⟩
  · rw [Bool.true_and]
    go_enter Tryz.func115, Tryz.ntmps115
    go_wp2_with fail
    refine (C1.out _ BH.out).mono ?_
    rintro e w2 ⟨rfl, b2⟩
    have XH := Lib.hid (XH.out.later b2)
    have X_0 := XH.out.cells 0 _ rfl
    have X_1 := XH.out.cells 1 _ rfl
    have BH := Lib.hid (chainX w BH.out b2)
    clear b2
    go_wp2_with fail
    refine (C2.out _ BH.out).mono ?_
    rintro e w2 ⟨rfl, b2⟩
    have XH := Lib.hid (XH.out.later b2)
    have X_0 := XH.out.cells 0 _ rfl
    have X_1 := XH.out.cells 1 _ rfl
    have BH := Lib.hid (chainX w BH.out b2)
    clear b2
    go_wp2
    go_ret
    exact ⟨rfl, BH.out⟩
set_option maxRecDepth 100000 in
set_option maxHeartbeats 4000000 in
theorem implVerOk (a : DVer) (w : World) : Calls Tryz.prog 46 #[.agg #[.int .i64 a.epoch, .int .i64 a.seq]] w (RetW (.bool (verB a)) w) := by
  have BH := Lib.hid (lay w (.cells #[.int .i64 a.epoch, .int .i64 a.seq] 35))
  have XH := Lib.hid (BxN.new w #[.int .i64 a.epoch, .int .i64 a.seq] 35)
  have C := Lib.hid (fun w' (_ : Below w.heap.size w w') => implVerGiven a w')
  obtain ⟨v, hv⟩ : ∃ v, verB a = v := ⟨_, rfl⟩
  rw [hv]
  rw [show verB a = (((a.epoch == 0) && (a.seq == 0)) || givB a) from rfl] at hv
  generalize givB a = c at *
  generalize a.epoch = x0 at *
  generalize a.seq = x1 at *
  by_cases h1 : x0 = 0
  · subst h1
    by_cases h2 : x1 = 0
    · subst h2
      simp only [beq_self_eq_true, Bool.true_and, Bool.true_or] at hv
      subst hv
      go_enter Tryz.func46, Tryz.ntmps46
      go_wp2
      go_ret
      exact ⟨rfl, BH.out⟩
    · have q2 : (x1 == 0) = false := by simpa using h2
      simp only [q2, beq_self_eq_true, Bool.false_and, Bool.and_false, Bool.true_and, Bool.and_true, Bool.false_or, Bool.or_false, Bool.true_or, Bool.or_true] at hv
      subst hv
      go_enter Tryz.func46, Tryz.ntmps46
      go_wp2_with fail
      refine (C.out _ BH.out).mono ?_
      rintro e w2 ⟨rfl, b2⟩
      have XH := Lib.hid (XH.out.later b2)
      have X_0 := XH.out.cells 0 _ rfl
      have X_1 := XH.out.cells 1 _ rfl
      have BH := Lib.hid (chainX w BH.out b2)
      clear b2
      go_wp2
      go_ret
      exact ⟨rfl, BH.out⟩
  · have q1 : (x0 == 0) = false := by simpa using h1
    simp only [q1, Bool.false_and, Bool.and_false, Bool.true_and, Bool.and_true, Bool.false_or, Bool.or_false, Bool.true_or, Bool.or_true] at hv
    subst hv
    go_enter Tryz.func46, Tryz.ntmps46
    go_wp2_with fail
    refine (C.out _ BH.out).mono ?_
    rintro e w2 ⟨rfl, b2⟩
    have XH := Lib.hid (XH.out.later b2)
    have X_0 := XH.out.cells 0 _ rfl
    have X_1 := XH.out.cells 1 _ rfl
    have BH := Lib.hid (chainX w BH.out b2)
    clear b2
    go_wp2
    go_ret
    exact ⟨rfl, BH.out⟩
set_option maxRecDepth 100000 in
set_option maxHeartbeats 4000000 in
theorem implReqOk (a : DReq) (w : World) : Calls Tryz.prog 120 #[.agg #[.int .i64 a.client, .int .i64 a.no]] w (RetW (.bool (reqB a)) w) := by
  have BH := Lib.hid (lay w (.cells #[.int .i64 a.client, .int .i64 a.no] 112))
  have XH := Lib.hid (BxN.new w #[.int .i64 a.client, .int .i64 a.no] 112)
  have C := Lib.hid (fun w' (_ : Below w.heap.size w w') => implReqGiven a w')
  obtain ⟨v, hv⟩ : ∃ v, reqB a = v := ⟨_, rfl⟩
  rw [hv]
  rw [show reqB a = (((a.client == 0) && (a.no == 0)) || reqG a) from rfl] at hv
  generalize reqG a = c at *
  generalize a.client = x0 at *
  generalize a.no = x1 at *
  by_cases h1 : x0 = 0
  · subst h1
    by_cases h2 : x1 = 0
    · subst h2
      simp only [beq_self_eq_true, Bool.true_and, Bool.true_or] at hv
      subst hv
      go_enter Tryz.func120, Tryz.ntmps120
      go_wp2
      go_ret
      exact ⟨rfl, BH.out⟩
    · have q2 : (x1 == 0) = false := by simpa using h2
      simp only [q2, beq_self_eq_true, Bool.false_and, Bool.and_false, Bool.true_and, Bool.and_true, Bool.false_or, Bool.or_false, Bool.true_or, Bool.or_true] at hv
      subst hv
      go_enter Tryz.func120, Tryz.ntmps120
      go_wp2_with fail
      refine (C.out _ BH.out).mono ?_
      rintro e w2 ⟨rfl, b2⟩
      have XH := Lib.hid (XH.out.later b2)
      have X_0 := XH.out.cells 0 _ rfl
      have X_1 := XH.out.cells 1 _ rfl
      have BH := Lib.hid (chainX w BH.out b2)
      clear b2
      go_wp2
      go_ret
      exact ⟨rfl, BH.out⟩
  · have q1 : (x0 == 0) = false := by simpa using h1
    simp only [q1, Bool.false_and, Bool.and_false, Bool.true_and, Bool.and_true, Bool.false_or, Bool.or_false, Bool.true_or, Bool.or_true] at hv
    subst hv
    go_enter Tryz.func120, Tryz.ntmps120
    go_wp2_with fail
    refine (C.out _ BH.out).mono ?_
    rintro e w2 ⟨rfl, b2⟩
    have XH := Lib.hid (XH.out.later b2)
    have X_0 := XH.out.cells 0 _ rfl
    have X_1 := XH.out.cells 1 _ rfl
    have BH := Lib.hid (chainX w BH.out b2)
    clear b2
    go_wp2
    go_ret
    exact ⟨rfl, BH.out⟩
end Go.Proofs.YtbckdfoapmjilaaGreatDoor.Rd
