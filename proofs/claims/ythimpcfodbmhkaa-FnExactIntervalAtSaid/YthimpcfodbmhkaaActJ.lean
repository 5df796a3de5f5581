/-
  Acting sets: the exported functions on one list, both sides.
-/
import Derived.Test.YthimpcfodbmhkaaActS
import Derived.Test.YthimpcfodbmhkaaActI
namespace Go.Proofs.Ythimpcfodbmhkaa.Ac
open Go.RowKit Go.Proofs.Ythimpcfodbmhkaa.GfI Go.Proofs.Ythimpcfodbmhkaa.GfS Go.Proofs.Ythimpcfodbmhkaa.MixC
open Go.Proofs.Ythimpcfodbmhkaa.Gf2 (Ib wpList_append_int)
open Go.Proofs.Ythimpcfodbmhkaa.Rd (lay chain chainX RetW Rdb rows_words)
set_option linter.unusedVariables false
set_option linter.unusedSimpArgs false

def takV (l : List Int) : Int := if ActP l then ((nodl l).length : Nat) else 0
def ledV (l : List Int) : Int := if ActP l then leadV l else -1
def plcP (l : List Int) (x : Int) : Int := if 0 ≤ x then placeV l x else -1
def plcV (l : List Int) (x : Int) : Int := if ActP l then plcP l x else -1
theorem IffB.ret {P : Prop} [Decidable P] {w : World} {e : Ending} {w' : World} (h : RetW (.bool (decide P)) w e w') : IffB P w e w' := ⟨_, h.1, by simp, h.2⟩
set_option maxRecDepth 100000 in
set_option maxHeartbeats 2000000 in
theorem implActingOk (a : Option Addr) (cap : Nat) (l : List Int) (w : World) {fr : Bool} {lo : Nat} (hl : l.length ≤ 2097152) (hc : l.length ≤ cap) (h : Rd.Rows fr lo w a l) :
    Calls Try.prog 17 #[.slice a l.length cap] w (RetW (.bool (decide (ActP l))) w) := by
  have OK := Lib.hid (isOk a cap l w hl hc h)
  have D := Lib.hid (fun (r : Bool) (q : r = true ↔ ActP l) => show r = decide (ActP l) from by
    by_cases p : ActP l
    · rw [decide_eq_true p]; exact q.2 p
    · rw [decide_eq_false p]; cases r
      · rfl
      · exact absurd (q.1 rfl) p)
  clear h
  generalize l.length = n at *
  go_enter Try.func17, Try.ntmps17
  go_wp2_with fail
  refine OK.out.mono ?_
  rintro e w1 ⟨r, rfl, hr, b1⟩
  obtain rfl := D.out r hr
  have B1 := Lib.hid b1
  clear hr b1 D
  generalize decide (ActP l) = r at *
  go_wp2
  go_ret
  exact ⟨rfl, B1.out⟩
set_option maxRecDepth 100000 in
set_option maxHeartbeats 2000000 in
theorem specActingOk (a : Option Addr) (cap : Nat) (l : List Int) (w : World) {fr : Bool} {lo : Nat} (hl : l.length ≤ 2097152) (hc : l.length ≤ cap) (h : Rd.Rows fr lo w a l) :
    Calls Try.prog 15 #[.slice a l.length cap] w (RetW (.bool (decide (ActP l))) w) := by
  have OK := Lib.hid (l12Ok a cap l w hl hc (rows_words h))
  have D := Lib.hid (fun (r : Bool) (q : r = true ↔ ActP l) => show r = decide (ActP l) from by
    by_cases p : ActP l
    · rw [decide_eq_true p]; exact q.2 p
    · rw [decide_eq_false p]; cases r
      · rfl
      · exact absurd (q.1 rfl) p)
  clear h
  generalize l.length = n at *
  go_enter Try.func15, Try.ntmps15
  go_wp2_with fail
  refine OK.out.mono ?_
  rintro e w1 ⟨r, rfl, hr, b1⟩
  obtain rfl := D.out r hr
  have B1 := Lib.hid b1
  clear hr b1 D
  generalize decide (ActP l) = r at *
  go_wp2
  go_ret
  exact ⟨rfl, B1.out⟩
set_option maxRecDepth 100000 in
set_option maxHeartbeats 2000000 in
theorem implTakenOf (a : Option Addr) (cap : Nat) (l : List Int) (w : World) {fr : Bool} {lo : Nat} (hl : l.length ≤ 2097152) (hc : l.length ≤ cap) (h : Rd.Rows fr lo w a l) :
    Calls Try.prog 20 #[.slice a l.length cap] w (RetW (.int .i64 (takV l)) w) := by
  have OK := Lib.hid ((implActingOk a cap l w hl hc h).mono fun _ _ q => IffB.ret q)
  by_cases hp : ActP l
  · have CT := Lib.hid (fun w' (b : Below w.heap.size w w') => takenA a cap l w' (by have := hp.1; omega) hc (h.below b))
    rw [show takV l = ((nodl l).length : Nat) from if_pos hp]
    have OK := Lib.hid (OK.out.mono fun e w' q => (show e = .returned (.bool true) ∧ Below w.heap.size w w' from by obtain ⟨r, e1, hr, b⟩ := q; rw [hr.2 hp] at e1; exact ⟨e1, b⟩))
    clear h
    generalize l.length = n at *
    generalize ((nodl l).length : Nat) = v at *
    go_enter Try.func20, Try.ntmps20
    go_wp2_with fail
    refine OK.out.mono ?_
    rintro e w1 ⟨rfl, b1⟩
    have B1 := Lib.hid b1
    clear b1
    go_wp2_with fail
    refine (CT.out _ B1.out).mono ?_
    rintro e w2 ⟨rfl, b2⟩
    have B2 := Lib.hid (chainX w B1.out b2)
    clear b2
    go_wp2
    go_ret
    exact ⟨rfl, B2.out⟩
  · rw [show takV l = 0 from if_neg hp]
    have OK := Lib.hid (OK.out.mono fun e w' q => (show e = .returned (.bool false) ∧ Below w.heap.size w w' from by obtain ⟨r, e1, hr, b⟩ := q; cases r; exact ⟨e1, b⟩; exact absurd (hr.1 rfl) hp))
    clear h hp
    generalize l.length = n at *
    go_enter Try.func20, Try.ntmps20
    go_wp2_with fail
    refine OK.out.mono ?_
    rintro e w1 ⟨rfl, b1⟩
    have B1 := Lib.hid b1
    clear b1
    go_wp2
    go_ret
    exact ⟨rfl, B1.out⟩
set_option maxRecDepth 100000 in
set_option maxHeartbeats 2000000 in
theorem specTakenOf (a : Option Addr) (cap : Nat) (l : List Int) (w : World) {fr : Bool} {lo : Nat} (hl : l.length ≤ 2097152) (hc : l.length ≤ cap) (h : Rd.Rows fr lo w a l) :
    Calls Try.prog 19 #[.slice a l.length cap] w (RetW (.int .i64 (takV l)) w) := by
  have OK := Lib.hid (l12Ok a cap l w hl hc (rows_words h))
  by_cases hp : ActP l
  · have CT := Lib.hid (fun w' (b : Below w.heap.size w w') => l12Taken a cap l w' (by have := hp.1; omega) hp.2.1 (rows_words (h.below b)))
    rw [show takV l = ((nodl l).length : Nat) from if_pos hp]
    have OK := Lib.hid (OK.out.mono fun e w' q => (show e = .returned (.bool true) ∧ Below w.heap.size w w' from by obtain ⟨r, e1, hr, b⟩ := q; rw [hr.2 hp] at e1; exact ⟨e1, b⟩))
    clear h
    generalize l.length = n at *
    generalize ((nodl l).length : Nat) = v at *
    go_enter Try.func19, Try.ntmps19
    go_wp2_with fail
    refine OK.out.mono ?_
    rintro e w1 ⟨rfl, b1⟩
    have B1 := Lib.hid b1
    clear b1
    go_wp2_with fail
    refine (CT.out _ B1.out).mono ?_
    rintro e w2 ⟨rfl, b2⟩
    have B2 := Lib.hid (chainX w B1.out b2)
    clear b2
    go_wp2
    go_ret
    exact ⟨rfl, B2.out⟩
  · rw [show takV l = 0 from if_neg hp]
    have OK := Lib.hid (OK.out.mono fun e w' q => (show e = .returned (.bool false) ∧ Below w.heap.size w w' from by obtain ⟨r, e1, hr, b⟩ := q; cases r; exact ⟨e1, b⟩; exact absurd (hr.1 rfl) hp))
    clear h hp
    generalize l.length = n at *
    go_enter Try.func19, Try.ntmps19
    go_wp2_with fail
    refine OK.out.mono ?_
    rintro e w1 ⟨rfl, b1⟩
    have B1 := Lib.hid b1
    clear b1
    go_wp2
    go_ret
    exact ⟨rfl, B1.out⟩
set_option maxRecDepth 100000 in
set_option maxHeartbeats 2000000 in
theorem implLeaderOf (a : Option Addr) (cap : Nat) (l : List Int) (w : World) {fr : Bool} {lo : Nat} (hl : l.length ≤ 2097152) (hc : l.length ≤ cap) (h : Rd.Rows fr lo w a l) :
    Calls Try.prog 22 #[.slice a l.length cap] w (RetW (.int .i64 (ledV l)) w) := by
  have OK := Lib.hid ((implActingOk a cap l w hl hc h).mono fun _ _ q => IffB.ret q)
  by_cases hp : ActP l
  · have CT := Lib.hid (fun w' (b : Below w.heap.size w w') => leaderA a cap l w' (by have := hp.1; omega) hp.2.1 (rows_words (h.below b)))
    rw [show ledV l = leadV l from if_pos hp]
    have OK := Lib.hid (OK.out.mono fun e w' q => (show e = .returned (.bool true) ∧ Below w.heap.size w w' from by obtain ⟨r, e1, hr, b⟩ := q; rw [hr.2 hp] at e1; exact ⟨e1, b⟩))
    clear h
    generalize l.length = n at *
    generalize leadV l = v at *
    go_enter Try.func22, Try.ntmps22
    go_wp2_with fail
    refine OK.out.mono ?_
    rintro e w1 ⟨rfl, b1⟩
    have B1 := Lib.hid b1
    clear b1
    go_wp2_with fail
    refine (CT.out _ B1.out).mono ?_
    rintro e w2 ⟨rfl, b2⟩
    have B2 := Lib.hid (chainX w B1.out b2)
    clear b2
    go_wp2
    go_ret
    exact ⟨rfl, B2.out⟩
  · rw [show ledV l = -1 from if_neg hp]
    have OK := Lib.hid (OK.out.mono fun e w' q => (show e = .returned (.bool false) ∧ Below w.heap.size w w' from by obtain ⟨r, e1, hr, b⟩ := q; cases r; exact ⟨e1, b⟩; exact absurd (hr.1 rfl) hp))
    clear h hp
    generalize l.length = n at *
    go_enter Try.func22, Try.ntmps22
    go_wp2_with fail
    refine OK.out.mono ?_
    rintro e w1 ⟨rfl, b1⟩
    have B1 := Lib.hid b1
    clear b1
    go_wp2
    go_ret
    exact ⟨rfl, B1.out⟩
set_option maxRecDepth 100000 in
set_option maxHeartbeats 2000000 in
theorem specLeaderOf (a : Option Addr) (cap : Nat) (l : List Int) (w : World) {fr : Bool} {lo : Nat} (hl : l.length ≤ 2097152) (hc : l.length ≤ cap) (h : Rd.Rows fr lo w a l) :
    Calls Try.prog 21 #[.slice a l.length cap] w (RetW (.int .i64 (ledV l)) w) := by
  have OK := Lib.hid (l12Ok a cap l w hl hc (rows_words h))
  by_cases hp : ActP l
  · have CT := Lib.hid (fun w' (b : Below w.heap.size w w') => l12Leader a cap l w' (by have := hp.1; omega) hp.2.1 (rows_words (h.below b)))
    rw [show ledV l = leadV l from if_pos hp]
    have OK := Lib.hid (OK.out.mono fun e w' q => (show e = .returned (.bool true) ∧ Below w.heap.size w w' from by obtain ⟨r, e1, hr, b⟩ := q; rw [hr.2 hp] at e1; exact ⟨e1, b⟩))
    clear h
    generalize l.length = n at *
    generalize leadV l = v at *
    go_enter Try.func21, Try.ntmps21
    go_wp2_with fail
    refine OK.out.mono ?_
    rintro e w1 ⟨rfl, b1⟩
    have B1 := Lib.hid b1
    clear b1
    go_wp2_with fail
    refine (CT.out _ B1.out).mono ?_
    rintro e w2 ⟨rfl, b2⟩
    have B2 := Lib.hid (chainX w B1.out b2)
    clear b2
    go_wp2
    go_ret
    exact ⟨rfl, B2.out⟩
  · rw [show ledV l = -1 from if_neg hp]
    have OK := Lib.hid (OK.out.mono fun e w' q => (show e = .returned (.bool false) ∧ Below w.heap.size w w' from by obtain ⟨r, e1, hr, b⟩ := q; cases r; exact ⟨e1, b⟩; exact absurd (hr.1 rfl) hp))
    clear h hp
    generalize l.length = n at *
    go_enter Try.func21, Try.ntmps21
    go_wp2_with fail
    refine OK.out.mono ?_
    rintro e w1 ⟨rfl, b1⟩
    have B1 := Lib.hid b1
    clear b1
    go_wp2
    go_ret
    exact ⟨rfl, B1.out⟩
/-- A place of any node: below -1 there is none. -/
theorem placeP (a : Option Addr) (cap : Nat) (l : List Int) (x : Int) (w : World) (hl : l.length ≤ 1000000) (hin : ∀ z, z ∈ l → inB z (-1) 15 = true) (h : Words w a l) :
    Calls Try.prog 60 #[.slice a l.length cap, .int .i64 x] w (RetW (.int .i64 (plcP l x)) w) := by
  by_cases e : x = -1
  · subst e; exact placeA_hole a l.length cap w
  · have := placeA a cap l x w hl e h
    by_cases h0 : 0 ≤ x
    · rw [show plcP l x = placeV l x from if_pos h0]; exact this
    · rw [show plcP l x = -1 from if_neg h0]
      rwa [placeV_none (fun m => by have := inB_iff.1 (hin x m); omega)] at this
theorem l12PlaceP (a : Option Addr) (cap : Nat) (l : List Int) (x : Int) (w : World) (hl : l.length ≤ 1000000) (h : Words w a l) :
    Calls Try.prog 59 #[.slice a l.length cap, .int .i64 x] w (RetW (.int .i64 (plcP l x)) w) := by
  by_cases h0 : 0 ≤ x
  · rw [show plcP l x = placeV l x from if_pos h0]; exact l12Place a cap l x w (by omega) h0 h
  · rw [show plcP l x = -1 from if_neg h0]; exact l12PlaceNeg a cap l x w (by omega) (by omega)
set_option maxRecDepth 100000 in
set_option maxHeartbeats 2000000 in
theorem implPlaceOf (a : Option Addr) (cap : Nat) (l : List Int) (x : Int) (w : World) {fr : Bool} {lo : Nat} (hl : l.length ≤ 2097152) (hc : l.length ≤ cap) (h : Rd.Rows fr lo w a l) :
    Calls Try.prog 24 #[.slice a l.length cap, .int .i64 x] w (RetW (.int .i64 (plcV l x)) w) := by
  have OK := Lib.hid ((implActingOk a cap l w hl hc h).mono fun _ _ q => IffB.ret q)
  by_cases hp : ActP l
  · have CT := Lib.hid (fun w' (b : Below w.heap.size w w') => placeP a cap l x w' (by have := hp.1; omega) hp.2.1 (rows_words (h.below b)))
    rw [show plcV l x = plcP l x from if_pos hp]
    have OK := Lib.hid (OK.out.mono fun e w' q => (show e = .returned (.bool true) ∧ Below w.heap.size w w' from by obtain ⟨r, e1, hr, b⟩ := q; rw [hr.2 hp] at e1; exact ⟨e1, b⟩))
    clear h
    generalize l.length = n at *
    generalize plcP l x = v at *
    go_enter Try.func24, Try.ntmps24
    go_wp2_with fail
    refine OK.out.mono ?_
    rintro e w1 ⟨rfl, b1⟩
    have B1 := Lib.hid b1
    clear b1
    go_wp2_with fail
    refine (CT.out _ B1.out).mono ?_
    rintro e w2 ⟨rfl, b2⟩
    have B2 := Lib.hid (chainX w B1.out b2)
    clear b2
    go_wp2
    go_ret
    exact ⟨rfl, B2.out⟩
  · rw [show plcV l x = -1 from if_neg hp]
    have OK := Lib.hid (OK.out.mono fun e w' q => (show e = .returned (.bool false) ∧ Below w.heap.size w w' from by obtain ⟨r, e1, hr, b⟩ := q; cases r; exact ⟨e1, b⟩; exact absurd (hr.1 rfl) hp))
    clear h hp
    generalize l.length = n at *
    go_enter Try.func24, Try.ntmps24
    go_wp2_with fail
    refine OK.out.mono ?_
    rintro e w1 ⟨rfl, b1⟩
    have B1 := Lib.hid b1
    clear b1
    go_wp2
    go_ret
    exact ⟨rfl, B1.out⟩
set_option maxRecDepth 100000 in
set_option maxHeartbeats 2000000 in
theorem specPlaceOf (a : Option Addr) (cap : Nat) (l : List Int) (x : Int) (w : World) {fr : Bool} {lo : Nat} (hl : l.length ≤ 2097152) (hc : l.length ≤ cap) (h : Rd.Rows fr lo w a l) :
    Calls Try.prog 23 #[.slice a l.length cap, .int .i64 x] w (RetW (.int .i64 (plcV l x)) w) := by
  have OK := Lib.hid (l12Ok a cap l w hl hc (rows_words h))
  by_cases hp : ActP l
  · have CT := Lib.hid (fun w' (b : Below w.heap.size w w') => l12PlaceP a cap l x w' (by have := hp.1; omega) (rows_words (h.below b)))
    rw [show plcV l x = plcP l x from if_pos hp]
    have OK := Lib.hid (OK.out.mono fun e w' q => (show e = .returned (.bool true) ∧ Below w.heap.size w w' from by obtain ⟨r, e1, hr, b⟩ := q; rw [hr.2 hp] at e1; exact ⟨e1, b⟩))
    clear h
    generalize l.length = n at *
    generalize plcP l x = v at *
    go_enter Try.func23, Try.ntmps23
    go_wp2_with fail
    refine OK.out.mono ?_
    rintro e w1 ⟨rfl, b1⟩
    have B1 := Lib.hid b1
    clear b1
    go_wp2_with fail
    refine (CT.out _ B1.out).mono ?_
    rintro e w2 ⟨rfl, b2⟩
    have B2 := Lib.hid (chainX w B1.out b2)
    clear b2
    go_wp2
    go_ret
    exact ⟨rfl, B2.out⟩
  · rw [show plcV l x = -1 from if_neg hp]
    have OK := Lib.hid (OK.out.mono fun e w' q => (show e = .returned (.bool false) ∧ Below w.heap.size w w' from by obtain ⟨r, e1, hr, b⟩ := q; cases r; exact ⟨e1, b⟩; exact absurd (hr.1 rfl) hp))
    clear h hp
    generalize l.length = n at *
    go_enter Try.func23, Try.ntmps23
    go_wp2_with fail
    refine OK.out.mono ?_
    rintro e w1 ⟨rfl, b1⟩
    have B1 := Lib.hid b1
    clear b1
    go_wp2
    go_ret
    exact ⟨rfl, B1.out⟩
end Go.Proofs.Ythimpcfodbmhkaa.Ac
