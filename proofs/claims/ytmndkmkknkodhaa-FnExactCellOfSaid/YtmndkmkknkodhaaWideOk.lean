/-
  Whether a striped object is valid: the program's and the model's functions.
-/
import Derived.Test.YtmndkmkknkodhaaColSize
namespace Go.Proofs.Ytmndkmkknkodhaa.Sg
open Go.RowKit Go.Proofs.Ytmndkmkknkodhaa.GfI Go.Proofs.Ytmndkmkknkodhaa.GfS
set_option linter.unusedVariables false

structure OkW (k m u s : Int) (n : Nat) (S : Nat → ByteArray) : Prop where
  k0 : 1 ≤ k
  k1 : k ≤ 4
  m0 : 0 ≤ m
  m1 : m ≤ 3
  u0 : 1 ≤ u
  u1 : u ≤ 8
  s0 : 0 ≤ s
  s1 : s ≤ 256
  len : (n : Int) = k + m
  cols : ∀ i, i < n → ((S i).size : Int) = tall k u s
def okW (k m u s : Int) (n : Nat) (S : Nat → ByteArray) : Bool :=
  decide (1 ≤ k ∧ k ≤ 4 ∧ 0 ≤ m ∧ m ≤ 3 ∧ 1 ≤ u ∧ u ≤ 8 ∧ 0 ≤ s ∧ s ≤ 256 ∧ (n : Int) = k + m ∧ ∀ i, i < n → ((S i).size : Int) = tall k u s)
theorem okW_yes {k m u s : Int} {n : Nat} {S : Nat → ByteArray} (h : OkW k m u s n S) : okW k m u s n S = true := decide_eq_true ⟨h.k0, h.k1, h.m0, h.m1, h.u0, h.u1, h.s0, h.s1, h.len, h.cols⟩
theorem okW_no {k m u s : Int} {n : Nat} {S : Nat → ByteArray} (h : ¬ OkW k m u s n S) : okW k m u s n S = false :=
  decide_eq_false fun ⟨a, b, c, d, e, f, g, i, j, q⟩ => h ⟨a, b, c, d, e, f, g, i, j, q⟩
theorem okW_out {k m u s : Int} {n : Nat} {S : Nat → ByteArray} (h : okW k m u s n S = true) : OkW k m u s n S := by
  obtain ⟨a, b, c, d, e, f, g, i, j, q⟩ := of_decide_eq_true h
  exact ⟨a, b, c, d, e, f, g, i, j, q⟩

/-- The closure that asks of a column's length. -/
theorem colOther (x : ByteArray) (p : Nat) (t : Int) (w : World) (c : w.cell? ⟨p, 0, none⟩ = some (.int .i64 t)) :
    Calls Try.prog 103 #[.string x, .pointer (some ⟨p, 0, none⟩)] w fun e w' => e = .returned (.bool ((x.size : Int) != t)) ∧ w = w' := by
  go_enter Try.func103, Try.ntmps103
  go_wp2
  go_ret
  exact ⟨rfl, rfl⟩
/-- The first column of another length, or -1. -/
def IdxRes (w : World) (n : Nat) (S : Nat → ByteArray) (t : Int) (e : Ending) (w' : World) : Prop :=
  w = w' ∧ ((e = .returned (.int .i64 (-1)) ∧ ∀ i, i < n → ((S i).size : Int) = t) ∨ ∃ k, k < n ∧ ((S k).size : Int) ≠ t ∧ e = .returned (.int .i64 k))

set_option maxRecDepth 100000 in
theorem indexFuncS (a : Option Addr) (cap n : Nat) (S : Nat → ByteArray) (p : Nat) (t : Int) (w : World) (hl : n ≤ 2097152) (ha : Strs w a n S) (c : w.cell? ⟨p, 0, none⟩ = some (.int .i64 t)) :
    Calls Try.prog 132 #[.slice a n cap, .func (.func 103) #[] #[.pointer (some ⟨p, 0, none⟩)]] w (IdxRes w n S t) := by
  have CO := Lib.hid (fun x => colOther x p t w c)
  clear c
  go_enter Try.func132, Try.ntmps132
  go_wp2
  go_loop [8] (fun i => ∃ k : Nat, k ≤ n ∧ i = .int .i64 k ∧ ∀ j, j < k → ((S j).size : Int) = t) (fun i => n - (intOf i).toNat)
  case atStart => exact ⟨0, by omega, rfl, fun j hj => absurd hj (Nat.not_lt_zero _)⟩
  case round =>
    obtain ⟨k, hk, rfl, P⟩ := hrel
    have HP := Lib.hid P
    clear P
    by_cases hlt : k < n
    · obtain ⟨b, off, rfl, _, hc⟩ := ha.resolve_left (by omega)
      have c := hc k hlt
      clear hc ha
      by_cases hq : ((S k).size : Int) = t
      · have P2 : ∀ j, j < k + 1 → ((S j).size : Int) = t := fun j hj => if e : j = k then by rw [e]; exact hq else HP.out j (by omega)
        have P2 := Lib.hid P2
        have Q : (((S k).size : Int) != t) = false := by simp [hq]
        have CC := CO.out (S k)
        rw [Q] at CC
        have CC := Lib.hid CC
        clear hq Q
        generalize S k = x at *
        go_wp2_with fail
        refine CC.out.mono ?_
        rintro e w1 ⟨rfl, rfl⟩
        go_wp2
        go_round
        case rel => exact ⟨k + 1, by omega, by go_num, P2.out⟩
        case measure => simp [intOf]; omega
      · have Q : (((S k).size : Int) != t) = true := by simpa using hq
        have CC := CO.out (S k)
        rw [Q] at CC
        have CC := Lib.hid CC
        have F := Lib.hid (show IdxRes w n S t (.returned (.int .i64 k)) w from ⟨rfl, .inr ⟨k, hlt, hq, rfl⟩⟩)
        clear hq Q
        generalize S k = x at *
        go_wp2_with fail
        refine CC.out.mono ?_
        rintro e w1 ⟨rfl, rfl⟩
        go_wp2
        go_ret
        exact F.out
    · obtain rfl : k = n := by omega
      have F := Lib.hid (show IdxRes w k S t (.returned (.int .i64 (-1))) w from ⟨rfl, .inl ⟨rfl, HP.out⟩⟩)
      go_wp2
      go_ret
      exact F.out
def AnyRes (w : World) (n : Nat) (S : Nat → ByteArray) (t : Int) (e : Ending) (w' : World) : Prop :=
  w = w' ∧ ((e = .returned (.bool false) ∧ ∀ i, i < n → ((S i).size : Int) = t) ∨ ∃ k, k < n ∧ ((S k).size : Int) ≠ t ∧ e = .returned (.bool true))
theorem containsFuncS (a : Option Addr) (cap n : Nat) (S : Nat → ByteArray) (p : Nat) (t : Int) (w : World) (hl : n ≤ 2097152) (ha : Strs w a n S) (c : w.cell? ⟨p, 0, none⟩ = some (.int .i64 t)) :
    Calls Try.prog 102 #[.slice a n cap, .func (.func 103) #[] #[.pointer (some ⟨p, 0, none⟩)]] w (AnyRes w n S t) := by
  have I := Lib.hid (indexFuncS a cap n S p t w hl ha c)
  clear ha c
  go_enter Try.func102, Try.ntmps102
  go_wp2_with fail
  refine I.out.mono ?_
  rintro e w1 ⟨rfl, ⟨rfl, H⟩ | ⟨k, hk, hne, rfl⟩⟩
  · have F := Lib.hid (show AnyRes w n S t (.returned (.bool false)) w from ⟨rfl, .inl ⟨rfl, H⟩⟩)
    clear H
    go_wp2
    go_ret
    exact F.out
  · have F := Lib.hid (show AnyRes w n S t (.returned (.bool true)) w from ⟨rfl, .inr ⟨k, hk, hne, rfl⟩⟩)
    clear hne
    go_wp2
    go_ret
    exact F.out

set_option maxRecDepth 100000 in
set_option maxHeartbeats 1000000 in
theorem implWideOk (k m u s : Int) (a : Option Addr) (cap n : Nat) (S : Nat → ByteArray) (w : World) (hl : n ≤ 2097152) (ha : Strs w a n S) :
    Calls Try.prog 49 #[wval k m u s (.slice a n cap)] w (BoolB (okW k m u s n S) w) := by
  have X := BxN.new w #[.int .i64 k, .int .i64 m, .int .i64 u, .int .i64 s, .slice a n cap] 77
  have XH := Lib.hid X
  have LH := Lib.hid (lay w (.cells #[.int .i64 k, .int .i64 m, .int .i64 u, .int .i64 s, .slice a n cap] 77))
  have HC := Lib.hid (fun w' => Cd.implCodeOk k m w')
  clear X
  by_cases h1 : 1 ≤ k ∧ k ≤ 4 ∧ 0 ≤ m ∧ m ≤ 3
  · rw [Cd.okC_yes h1] at HC
    by_cases h2 : 1 ≤ u ∧ u ≤ 8
    · have I2 := inB_yes h2.1 h2.2
      by_cases h3 : 0 ≤ s ∧ s ≤ 256
      · obtain ⟨s0, s1⟩ := h3
        by_cases h4 : (n : Int) = k + m
        · have CS := Lib.hid (fun w' => columnSize k m u s (.slice a n cap) h1.1 h1.2.1 h2.1 h2.2 s0 s1 w')
          have MK := Lib.hid (fun H => okW_yes (S := S) (n := n) ⟨h1.1, h1.2.1, h1.2.2.1, h1.2.2.2, h2.1, h2.2, s0, s1, h4, H⟩)
          have NO := Lib.hid (fun kk (hk : kk < n) (H : ((S kk).size : Int) ≠ tall k u s) => okW_no (k := k) (m := m) (u := u) (s := s) (n := n) (S := S) fun h => H (h.cols kk hk))
          have CF := Lib.hid (fun w' p (b : Below w.heap.size w w') c => containsFuncS a cap n S p (tall k u s) w' hl (ha.below b) c)
          have q4 : ((n : Int) == k + m) = true := by simpa using h4
          obtain ⟨g1, g2, g3, g4⟩ := h1
          clear h2 h4 ha
          generalize tall k u s = t at *
          go_enter Try.func49, Try.ntmps49
          go_wp2_with fail
          refine (HC.out _).mono ?_
          rintro e w1 ⟨rfl, b1⟩
          have X1 := XH.out.later b1
          have B1 := Lib.hid (chain LH.out b1)
          have x0 := X1.cells 0 _ rfl
          have x1 := X1.cells 1 _ rfl
          have x2 := X1.cells 2 _ rfl
          have x3 := X1.cells 3 _ rfl
          have x4 := X1.cells 4 _ rfl
          have X1H := Lib.hid X1
          clear b1 X1
          go_wp2_with fail
          refine (isUnit u _).mono ?_
          rintro e w2 ⟨rfl, rfl⟩
          rw [I2]
          go_wp2_with fail
          refine (CS.out _).mono ?_
          rintro e w3 ⟨rfl, b3⟩
          have B3 := Lib.hid (chain B1.out b3)
          have y3 := (X1H.out.later b3).cells 4 _ rfl
          have BA := Lib.hid (chain B3.out (lay w3 (.cells #[.int .i64 t] 2)))
          have CT : (w3.alloc (.cells #[.int .i64 t] 2)).cell? ⟨w3.heap.size, 0, none⟩ = some (.int .i64 t) := World.cell?_alloc_new _ _ _ _
          have CTH := Lib.hid CT
          have LT3 : w.heap.size < w3.heap.size := Nat.lt_of_lt_of_le X1H.out.lt b3.size
          clear b3 CT x0 x1 x2 x3 x4
          go_wp2_with fail
          refine (CF.out _ _ BA.out CTH.out).mono ?_
          rintro e w4 ⟨rfl, ⟨rfl, H⟩ | ⟨kk, hkk, hne, rfl⟩⟩
          · have EH := Lib.hid (MK.out H)
            clear H
            go_wp2
            go_ret
            rw [EH.out]
            exact ⟨rfl, BA.out⟩
          · have EH := Lib.hid (NO.out kk hkk hne)
            clear hne
            go_wp2
            go_ret
            rw [EH.out]
            exact ⟨rfl, BA.out⟩
        · have E : okW k m u s n S = false := okW_no fun h => h4 h.len
          have EH := Lib.hid E
          have q4 : ((n : Int) == k + m) = false := by simpa using h4
          obtain ⟨g1, g2, g3, g4⟩ := h1
          clear E h2 h4 ha
          go_enter Try.func49, Try.ntmps49
          go_wp2_with fail
          refine (HC.out _).mono ?_
          rintro e w1 ⟨rfl, b1⟩
          have X1 := XH.out.later b1
          have B1 := Lib.hid (chain LH.out b1)
          have x0 := X1.cells 0 _ rfl
          have x1 := X1.cells 1 _ rfl
          have x2 := X1.cells 2 _ rfl
          have x3 := X1.cells 3 _ rfl
          have x4 := X1.cells 4 _ rfl
          have X1H := Lib.hid X1
          clear b1 X1
          go_wp2_with fail
          refine (isUnit u _).mono ?_
          rintro e w2 ⟨rfl, rfl⟩
          rw [I2]
          go_wp2
          go_ret
          rw [EH.out]
          exact ⟨rfl, B1.out⟩
      · have E : okW k m u s n S = false := okW_no fun h => h3 ⟨h.s0, h.s1⟩
        have EH := Lib.hid E
        by_cases s0 : s < 0
        · clear E h1 h2 h3 ha
          go_enter Try.func49, Try.ntmps49
          go_wp2_with fail
          refine (HC.out _).mono ?_
          rintro e w1 ⟨rfl, b1⟩
          have X1 := XH.out.later b1
          have B1 := Lib.hid (chain LH.out b1)
          have x0 := X1.cells 0 _ rfl
          have x1 := X1.cells 1 _ rfl
          have x2 := X1.cells 2 _ rfl
          have x3 := X1.cells 3 _ rfl
          have x4 := X1.cells 4 _ rfl
          have X1H := Lib.hid X1
          clear b1 X1
          go_wp2_with fail
          refine (isUnit u _).mono ?_
          rintro e w2 ⟨rfl, rfl⟩
          rw [I2]
          go_wp2
          go_ret
          rw [EH.out]
          exact ⟨rfl, B1.out⟩
        · have s1 : 256 < s := by omega
          clear E h1 h2 h3 ha
          go_enter Try.func49, Try.ntmps49
          go_wp2_with fail
          refine (HC.out _).mono ?_
          rintro e w1 ⟨rfl, b1⟩
          have X1 := XH.out.later b1
          have B1 := Lib.hid (chain LH.out b1)
          have x0 := X1.cells 0 _ rfl
          have x1 := X1.cells 1 _ rfl
          have x2 := X1.cells 2 _ rfl
          have x3 := X1.cells 3 _ rfl
          have x4 := X1.cells 4 _ rfl
          have X1H := Lib.hid X1
          clear b1 X1
          go_wp2_with fail
          refine (isUnit u _).mono ?_
          rintro e w2 ⟨rfl, rfl⟩
          rw [I2]
          go_wp2
          go_ret
          rw [EH.out]
          exact ⟨rfl, B1.out⟩
    · have I2 : inB u 1 8 = false := decide_eq_false h2
      have E : okW k m u s n S = false := okW_no fun h => h2 ⟨h.u0, h.u1⟩
      have EH := Lib.hid E
      clear E h1 h2 ha
      go_enter Try.func49, Try.ntmps49
      go_wp2_with fail
      refine (HC.out _).mono ?_
      rintro e w1 ⟨rfl, b1⟩
      have X1 := XH.out.later b1
      have B1 := Lib.hid (chain LH.out b1)
      have x0 := X1.cells 0 _ rfl
      have x1 := X1.cells 1 _ rfl
      have x2 := X1.cells 2 _ rfl
      have x3 := X1.cells 3 _ rfl
      have x4 := X1.cells 4 _ rfl
      have X1H := Lib.hid X1
      clear b1 X1
      go_wp2_with fail
      refine (isUnit u _).mono ?_
      rintro e w2 ⟨rfl, rfl⟩
      rw [I2]
      go_wp2
      go_ret
      rw [EH.out]
      exact ⟨rfl, B1.out⟩
  · have E : okW k m u s n S = false := okW_no fun h => h1 ⟨h.k0, h.k1, h.m0, h.m1⟩
    have EH := Lib.hid E
    rw [Cd.okC_no h1] at HC
    clear E h1 ha
    go_enter Try.func49, Try.ntmps49
    go_wp2_with fail
    refine (HC.out _).mono ?_
    rintro e w1 ⟨rfl, b1⟩
    have B1 := Lib.hid (chain LH.out b1)
    clear b1
    go_wp2
    go_ret
    rw [EH.out]
    exact ⟨rfl, B1.out⟩
end Go.Proofs.Ytmndkmkknkodhaa.Sg
