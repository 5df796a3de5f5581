/-
  Whether shards may be shards of a body: the searches in lists, and the program's function.
-/
import Derived.Test.YtmndkmkknkodhaaHave
namespace Go.Proofs.Ytmndkmkknkodhaa.Sh
open Go.RowKit Go.Proofs.Ytmndkmkknkodhaa.GfI Go.Proofs.Ytmndkmkknkodhaa.GfS Go.Proofs.Ytmndkmkknkodhaa.Sg
set_option linter.unusedVariables false

def FindRes (w : World) (n : Nat) (P : Nat → Bool) (e : Ending) (w' : World) : Prop :=
  Below w.heap.size w w' ∧ ((e = .returned (.int .i64 (-1)) ∧ ∀ i, i < n → P i = false) ∨ ∃ k, k < n ∧ P k = true ∧ e = .returned (.int .i64 k))
def HasRes (w : World) (n : Nat) (P : Nat → Bool) (e : Ending) (w' : World) : Prop :=
  Below w.heap.size w w' ∧ ((e = .returned (.bool false) ∧ ∀ i, i < n → P i = false) ∨ ∃ k, k < n ∧ P k = true ∧ e = .returned (.bool true))

set_option maxRecDepth 100000 in
theorem indexLack (k m : Int) (k0 : 1 ≤ k) (k1 : k ≤ 4) (m0 : 0 ≤ m) (m1 : m ≤ 3) (a : Option Addr) (cap n : Nat) (f : Nat → Int) (w : World) (hl : n ≤ 2097152) (ha : Its w a n f) :
    Calls Try.prog 127 #[.slice a n cap, .func (.func 92) #[Cd.cval k m] #[]] w (FindRes w n (fun i => lackB k m (f i))) := by
  have CO := Lib.hid (fun p w' => lacks k m p k0 k1 m0 m1 w')
  go_enter Try.func127, Try.ntmps127
  go_wp2
  go_loopw [8] (fun i wr => ∃ j : Nat, j ≤ n ∧ i = .int .i64 j ∧ (∀ x, x < j → lackB k m (f x) = false) ∧ Below w.heap.size w wr) (fun i _ => n - (intOf i).toNat)
  case atStart => exact ⟨0, by omega, rfl, fun x hx => absurd hx (Nat.not_lt_zero _), Below.refl _ _⟩
  case round =>
    obtain ⟨j, hj, rfl, P, hw⟩ := hrel
    have HP := Lib.hid P
    have HW := Lib.hid hw
    by_cases hlt : j < n
    · have ha1 := ha.below hw
      obtain ⟨b1, o1, rfl, _, hc⟩ := ha1.resolve_left (by omega)
      have c := hc j hlt
      clear hc ha1 ha P hw
      cases q : lackB k m (f j)
      · have P2 : ∀ x, x < j + 1 → lackB k m (f x) = false := fun x hx => if e : x = j then by rw [e]; exact q else HP.out x (by omega)
        have P2 := Lib.hid P2
        have CC := CO.out (f j)
        rw [q] at CC
        have CC := Lib.hid CC
        clear q
        generalize f j = x at *
        go_wp2_with fail
        refine (CC.out _).mono ?_
        rintro e w1 ⟨rfl, b1⟩
        have B1 := Lib.hid (chain HW.out b1)
        clear b1
        go_wp2
        go_roundw
        case rel => exact ⟨j + 1, by omega, by go_num, P2.out, B1.out⟩
        case measure => simp [intOf]; omega
      · have QH := Lib.hid q
        have CC := CO.out (f j)
        rw [q] at CC
        have CC := Lib.hid CC
        clear q
        generalize hx : f j = x at *
        have HX := Lib.hid hx
        clear hx
        go_wp2_with fail
        refine (CC.out _).mono ?_
        rintro e w1 ⟨rfl, b1⟩
        have B1 := Lib.hid (chain HW.out b1)
        have F := Lib.hid (show FindRes w n (fun i => lackB k m (f i)) (.returned (.int .i64 j)) w1 from ⟨B1.out, .inr ⟨j, hlt, by show lackB k m (f j) = true; rw [HX.out]; exact QH.out, rfl⟩⟩)
        clear b1
        go_wp2
        go_ret
        exact F.out
    · obtain rfl : j = n := by omega
      have F := Lib.hid (show FindRes w j (fun i => lackB k m (f i)) (.returned (.int .i64 (-1))) wr from ⟨hw, .inl ⟨rfl, P⟩⟩)
      clear P hw
      go_wp2
      go_ret
      exact F.out
theorem hasLack (k m : Int) (k0 : 1 ≤ k) (k1 : k ≤ 4) (m0 : 0 ≤ m) (m1 : m ≤ 3) (a : Option Addr) (cap n : Nat) (f : Nat → Int) (w : World) (hl : n ≤ 2097152) (ha : Its w a n f) :
    Calls Try.prog 91 #[.slice a n cap, .func (.func 92) #[Cd.cval k m] #[]] w (HasRes w n (fun i => lackB k m (f i))) := by
  have I := Lib.hid (indexLack k m k0 k1 m0 m1 a cap n f w hl ha)
  clear ha
  go_enter Try.func91, Try.ntmps91
  go_wp2_with fail
  refine I.out.mono ?_
  rintro e w1 ⟨b1, ⟨rfl, H⟩ | ⟨j, hj, hne, rfl⟩⟩
  · have F := Lib.hid (show HasRes w n (fun i => lackB k m (f i)) (.returned (.bool false)) w1 from ⟨b1, .inl ⟨rfl, H⟩⟩)
    clear H b1
    go_wp2
    go_ret
    exact F.out
  · have F := Lib.hid (show HasRes w n (fun i => lackB k m (f i)) (.returned (.bool true)) w1 from ⟨b1, .inr ⟨j, hj, hne, rfl⟩⟩)
    clear hne b1
    go_wp2
    go_ret
    exact F.out

/-- How many bytes a piece has. -/
def piece (k s : Int) : Int := (s + k - 1) / k
theorem piece_bounds {k s : Int} (k0 : 1 ≤ k) (k1 : k ≤ 4) (s0 : 0 ≤ s) (s1 : s ≤ 64) : 0 ≤ piece k s ∧ piece k s ≤ 100 :=
  ⟨Int.ediv_nonneg (by omega) (by omega), Int.le_trans (Int.ediv_le_self _ (by omega)) (by omega)⟩
set_option maxRecDepth 100000 in
theorem pieceSize (k m s : Int) (k0 : 1 ≤ k) (k1 : k ≤ 4) (s0 : 0 ≤ s) (s1 : s ≤ 64) (w : World) :
    Calls Try.prog 93 #[Cd.cval k m, .int .i64 s] w (IntB (piece k s) w) := by
  have DU := Lib.hid (fun w' => dividedUp s k s0 (by omega) k0 (by omega) w')
  unfold piece
  generalize (s + k - 1) / k = x at *
  go_enter Try.func93, Try.ntmps93
  go_wp2_with fail
  refine (DU.out _).mono ?_
  rintro e w1 ⟨rfl, rfl⟩
  go_wp2
  go_ret
  exact ⟨rfl, lay _ _⟩
set_option maxRecDepth 100000 in
theorem l04Size (k m s : Int) (k0 : 1 ≤ k) (k1 : k ≤ 4) (s0 : 0 ≤ s) (s1 : s ≤ 64) (w : World) :
    Calls Try.prog 126 #[Cd.cval k m, .int .i64 s] w (IntB (piece k s) w) := by
  have r2 : (k == 0) = false := by simp; omega
  have r3 : 0 ≤ s + k - 1 := by omega
  unfold piece
  go_enter Try.func126, Try.ntmps126
  go_wp2
  go_ret
  exact ⟨rfl, lay _ _⟩
theorem isBodySize (s : Int) (w : World) : Calls Try.prog 88 #[.int .i64 s] w fun e w' => e = .returned (.bool (inB s 0 64)) ∧ w = w' := by
  by_cases h0 : 0 ≤ s
  · by_cases h1 : s ≤ 64
    · have E := inB_yes h0 h1
      rw [E]
      clear E
      go_enter Try.func88, Try.ntmps88
      go_wp2
      go_ret
      exact ⟨rfl, rfl⟩
    · have E : inB s 0 64 = false := decide_eq_false (by omega)
      rw [E]
      clear E
      go_enter Try.func88, Try.ntmps88
      go_wp2
      go_ret
      exact ⟨ret_bool (by simp), rfl⟩
  · have E : inB s 0 64 = false := decide_eq_false (by omega)
    rw [E]
    clear E
    go_enter Try.func88, Try.ntmps88
    go_wp2
    go_ret
    exact ⟨rfl, rfl⟩

set_option maxRecDepth 100000 in
theorem sizeOther (p : Int) (x : ByteArray) (q : Nat) (t : Int) (w : World) (hq : q < w.heap.size) (c : w.cell? ⟨q, 0, none⟩ = some (.int .i64 t)) :
    Calls Try.prog 95 #[hval p x, .pointer (some ⟨q, 0, none⟩)] w (BoolB ((x.size : Int) != t) w) := by
  go_enter Try.func95, Try.ntmps95
  go_wp2
  go_ret
  exact ⟨rfl, lay _ _⟩
set_option maxRecDepth 100000 in
theorem indexSize (q : Nat) (t : Int) (a : Option Addr) (cap n : Nat) (f : Nat → Int) (S : Nat → ByteArray) (w : World) (hl : n ≤ 2097152) (ha : Shs w a n f S) (hq : q < w.heap.size) (c : w.cell? ⟨q, 0, none⟩ = some (.int .i64 t)) :
    Calls Try.prog 129 #[.slice a n cap, .func (.func 95) #[] #[.pointer (some ⟨q, 0, none⟩)]] w (FindRes w n (fun i => ((S i).size : Int) != t)) := by
  have CO := Lib.hid (fun p x w' (b : Below w.heap.size w w') => sizeOther p x q t w' (Nat.lt_of_lt_of_le hq b.size) ((b.cell (p := ⟨q, 0, none⟩) hq).trans c))
  clear c
  go_enter Try.func129, Try.ntmps129
  go_wp2
  go_loopw [8] (fun i wr => ∃ j : Nat, j ≤ n ∧ i = .int .i64 j ∧ (∀ x, x < j → (((S x).size : Int) != t) = false) ∧ Below w.heap.size w wr) (fun i _ => n - (intOf i).toNat)
  case atStart => exact ⟨0, by omega, rfl, fun x hx => absurd hx (Nat.not_lt_zero _), Below.refl _ _⟩
  case round =>
    obtain ⟨j, hj, rfl, P, hw⟩ := hrel
    have HP := Lib.hid P
    have HW := Lib.hid hw
    by_cases hlt : j < n
    · have ha1 := ha.below hw
      obtain ⟨b1, o1, rfl, hB1, hc⟩ := ha1.resolve_left (by omega)
      obtain ⟨c, d⟩ := hc j hlt
      clear hc ha1 ha P hw
      cases qq : (((S j).size : Int) != t)
      · have P2 : ∀ x, x < j + 1 → (((S x).size : Int) != t) = false := fun x hx => if e : x = j then by rw [e]; exact qq else HP.out x (by omega)
        have P2 := Lib.hid P2
        have CC := CO.out (f j) (S j)
        rw [qq] at CC
        have CC := Lib.hid CC
        clear qq
        generalize f j = x at *
        generalize S j = y at *
        go_wp2_with fail
        refine (CC.out _ HW.out).mono ?_
        rintro e w1 ⟨rfl, b1⟩
        have B1 := Lib.hid (chain HW.out b1)
        clear b1
        go_wp2
        go_roundw
        case rel => exact ⟨j + 1, by omega, by go_num, P2.out, B1.out⟩
        case measure => simp [intOf]; omega
      · have QH := Lib.hid qq
        have CC := CO.out (f j) (S j)
        rw [qq] at CC
        have CC := Lib.hid CC
        clear qq
        generalize hx : S j = y at *
        have HX := Lib.hid hx
        clear hx
        generalize f j = x at *
        go_wp2_with fail
        refine (CC.out _ HW.out).mono ?_
        rintro e w1 ⟨rfl, b1⟩
        have B1 := Lib.hid (chain HW.out b1)
        have F := Lib.hid (show FindRes w n (fun i => ((S i).size : Int) != t) (.returned (.int .i64 j)) w1 from ⟨B1.out, .inr ⟨j, hlt, by show (((S j).size : Int) != t) = true; rw [HX.out]; exact QH.out, rfl⟩⟩)
        clear b1
        go_wp2
        go_ret
        exact F.out
    · obtain rfl : j = n := by omega
      have F := Lib.hid (show FindRes w j (fun i => ((S i).size : Int) != t) (.returned (.int .i64 (-1))) wr from ⟨hw, .inl ⟨rfl, P⟩⟩)
      clear P hw
      go_wp2
      go_ret
      exact F.out
theorem hasSize (q : Nat) (t : Int) (a : Option Addr) (cap n : Nat) (f : Nat → Int) (S : Nat → ByteArray) (w : World) (hl : n ≤ 2097152) (ha : Shs w a n f S) (hq : q < w.heap.size) (c : w.cell? ⟨q, 0, none⟩ = some (.int .i64 t)) :
    Calls Try.prog 94 #[.slice a n cap, .func (.func 95) #[] #[.pointer (some ⟨q, 0, none⟩)]] w (HasRes w n (fun i => ((S i).size : Int) != t)) := by
  have I := Lib.hid (indexSize q t a cap n f S w hl ha hq c)
  clear ha c
  go_enter Try.func94, Try.ntmps94
  go_wp2_with fail
  refine I.out.mono ?_
  rintro e w1 ⟨b1, ⟨rfl, H⟩ | ⟨j, hj, hne, rfl⟩⟩
  · have F := Lib.hid (show HasRes w n (fun i => ((S i).size : Int) != t) (.returned (.bool false)) w1 from ⟨b1, .inl ⟨rfl, H⟩⟩)
    clear H b1
    go_wp2
    go_ret
    exact F.out
  · have F := Lib.hid (show HasRes w n (fun i => ((S i).size : Int) != t) (.returned (.bool true)) w1 from ⟨b1, .inr ⟨j, hj, hne, rfl⟩⟩)
    clear hne b1
    go_wp2
    go_ret
    exact F.out

structure OkH (k m s : Int) (n : Nat) (f : Nat → Int) (S : Nat → ByteArray) : Prop where
  k0 : 1 ≤ k
  k1 : k ≤ 4
  m0 : 0 ≤ m
  m1 : m ≤ 3
  s0 : 0 ≤ s
  s1 : s ≤ 64
  rise : Rise f n
  pos : ∀ i, i < n → lackB k m (f i) = false
  size : ∀ i, i < n → (((S i).size : Int) != piece k s) = false
def BothB (P : Prop) (w : World) (e : Ending) (w' : World) : Prop := Below w.heap.size w w' ∧ ((e = .returned (.bool true) ∧ P) ∨ (e = .returned (.bool false) ∧ ¬ P))

set_option maxRecDepth 100000 in
set_option maxHeartbeats 1000000 in
theorem implHaveOk (k m s : Int) (a : Option Addr) (cap n : Nat) (f : Nat → Int) (S : Nat → ByteArray) (w : World) (hl : n ≤ 2097152) (ha : Shs w a n f S) :
    Calls Try.prog 44 #[Cd.cval k m, .int .i64 s, .slice a n cap] w (BothB (OkH k m s n f S) w) := by
  have X := BxN.new w #[.int .i64 k, .int .i64 m] 65
  have XH := Lib.hid X
  have LH := Lib.hid (lay w (.cells #[.int .i64 k, .int .i64 m] 65))
  have HC := Lib.hid (fun w' => Cd.implCodeOk k m w')
  clear X
  by_cases h1 : 1 ≤ k ∧ k ≤ 4 ∧ 0 ≤ m ∧ m ≤ 3
  · rw [Cd.okC_yes h1] at HC
    by_cases h2 : 0 ≤ s ∧ s ≤ 64
    · have I2 := inB_yes h2.1 h2.2
      have PO := Lib.hid (fun w' (b : Below w.heap.size w w') => positionsOf a cap n f S w' hl (ha.below b))
      have RI := Lib.hid (fun w' p (h : Its w' (some ⟨p, 0, none⟩) n f) => isRising (some ⟨p, 0, none⟩) n n f w' hl h)
      have LA := Lib.hid (fun w' p (h : Its w' (some ⟨p, 0, none⟩) n f) => hasLack k m h1.1 h1.2.1 h1.2.2.1 h1.2.2.2 (some ⟨p, 0, none⟩) n n f w' hl h)
      have PS := Lib.hid (fun w' => pieceSize k m s h1.1 h1.2.1 h2.1 h2.2 w')
      have SI := Lib.hid (fun w' q t (b : Below w.heap.size w w') hq c => hasSize q t a cap n f S w' hl (ha.below b) hq c)
      have MK := Lib.hid (fun R P Z => (⟨h1.1, h1.2.1, h1.2.2.1, h1.2.2.2, h2.1, h2.2, R, P, Z⟩ : OkH k m s n f S))
      have NS := Lib.hid (fun j (hj : j < n) (Z : (((S j).size : Int) != piece k s) = true) => show ¬ OkH k m s n f S from fun h => by have := h.size j hj; rw [Z] at this; cases this)
      clear h1 h2 ha
      go_enter Try.func44, Try.ntmps44
      go_wp2_with fail
      refine (HC.out _).mono ?_
      rintro e w1 ⟨rfl, b1⟩
      have B1 := Lib.hid (chain LH.out b1)
      have X1 := Lib.hid (XH.out.later b1)
      clear b1
      go_wp2_with fail
      refine (isBodySize s _).mono ?_
      rintro e w1' ⟨rfl, rfl⟩
      rw [I2]
      go_wp2_with fail
      refine (PO.out _ B1.out).mono ?_
      rintro e w2 ⟨p, rfl, IT, b2⟩
      have B2 := Lib.hid (chain B1.out b2)
      have X2 := Lib.hid (X1.out.later b2)
      have IT := Lib.hid IT
      clear b2
      go_wp2_with fail
      refine (RI.out _ p IT.out).mono ?_
      rintro e w3 ⟨b3, ⟨rfl, R⟩ | ⟨rfl, R⟩⟩
      · have RH := Lib.hid R
        have B3 := Lib.hid (chain B2.out b3)
        have X3 := X2.out.later b3
        have IT3 := Lib.hid (IT.out.below b3)
        have x0 := X3.cells 0 _ rfl
        have x1 := X3.cells 1 _ rfl
        have X3 := Lib.hid X3
        clear b3 R
        go_wp2_with fail
        refine (LA.out _ p IT3.out).mono ?_
        rintro e w4 ⟨b4, ⟨rfl, P⟩ | ⟨j, hj, P, rfl⟩⟩
        · have PH := Lib.hid P
          have B4 := Lib.hid (chain B3.out b4)
          have X4 := X3.out.later b4
          clear x0 x1
          have x0 := X4.cells 0 _ rfl
          have x1 := X4.cells 1 _ rfl
          clear b4 P X4
          go_wp2_with fail
          refine (PS.out _).mono ?_
          rintro e w5 ⟨rfl, b5⟩
          have B5 := Lib.hid (chain B4.out b5)
          generalize piece k s = t at *
          have BA := Lib.hid (chain B5.out (lay w5 (.cells #[.int .i64 t] 2)))
          have CT : (w5.alloc (.cells #[.int .i64 t] 2)).cell? ⟨w5.heap.size, 0, none⟩ = some (.int .i64 t) := World.cell?_alloc_new _ _ _ _
          have CTH := Lib.hid CT
          clear b5 CT x0 x1
          go_wp2_with fail
          refine (SI.out _ _ _ BA.out (by simp) CTH.out).mono ?_
          rintro e w6 ⟨b6, ⟨rfl, Z⟩ | ⟨j, hj, Z, rfl⟩⟩
          · have F := Lib.hid (MK.out RH.out PH.out Z)
            have B6 := Lib.hid (chain BA.out b6)
            clear b6 Z
            go_wp2
            go_ret
            exact ⟨B6.out, .inl ⟨rfl, F.out⟩⟩
          · have F := Lib.hid (NS.out j hj Z)
            have B6 := Lib.hid (chain BA.out b6)
            clear b6 Z
            go_wp2
            go_ret
            exact ⟨B6.out, .inr ⟨rfl, F.out⟩⟩
        · have F := Lib.hid (show ¬ OkH k m s n f S from fun h => by have := h.pos j hj; rw [show lackB k m (f j) = true from P] at this; cases this)
          have B4 := Lib.hid (chain B3.out b4)
          clear b4 P
          go_wp2
          go_ret
          exact ⟨B4.out, .inr ⟨rfl, F.out⟩⟩
      · have F := Lib.hid (show ¬ OkH k m s n f S from fun h => R h.rise)
        have B3 := Lib.hid (chain B2.out b3)
        clear b3 R
        go_wp2
        go_ret
        exact ⟨B3.out, .inr ⟨rfl, F.out⟩⟩
    · have I2 : inB s 0 64 = false := decide_eq_false h2
      have F := Lib.hid (show ¬ OkH k m s n f S from fun h => h2 ⟨h.s0, h.s1⟩)
      clear h1 h2 ha
      go_enter Try.func44, Try.ntmps44
      go_wp2_with fail
      refine (HC.out _).mono ?_
      rintro e w1 ⟨rfl, b1⟩
      have B1 := Lib.hid (chain LH.out b1)
      clear b1
      go_wp2_with fail
      refine (isBodySize s _).mono ?_
      rintro e w1' ⟨rfl, rfl⟩
      rw [I2]
      go_wp2
      go_ret
      exact ⟨B1.out, .inr ⟨rfl, F.out⟩⟩
  · have F := Lib.hid (show ¬ OkH k m s n f S from fun h => h1 ⟨h.k0, h.k1, h.m0, h.m1⟩)
    rw [Cd.okC_no h1] at HC
    clear h1 ha
    go_enter Try.func44, Try.ntmps44
    go_wp2_with fail
    refine (HC.out _).mono ?_
    rintro e w1 ⟨rfl, b1⟩
    have B1 := Lib.hid (chain LH.out b1)
    clear b1
    go_wp2
    go_ret
    exact ⟨B1.out, .inr ⟨rfl, F.out⟩⟩
end Go.Proofs.Ytmndkmkknkodhaa.Sh
