/-
  What the program's functions on the field GF(256) return, as plain numbers (module Gf): one contract a function, callees first. No condition but that the arguments are field elements.
-/
import Derived.Test.YtjghafefccmafaaProg
import Derived.Test.YtjghafefccmafaaGf
import Derived.Test.YtjghafefccmafaaBits
import Derived.WalkKit
import Derived.Outline
import Derived.BigQuiet
import Derived.Deep.QuietTactic
import Derived.WalkMore
import Derived.ScopeJumps
import Derived.Handy
import Derived.WalkSmall
import Derived.Lib.Hide
namespace Go.Proofs.Ytjghafefccmafaa.GfI
open Go.RowKit

/-- The numbers of Gf at an integer. -/
def dblZ (a : Int) : Int := ((Gf.dbl a.toNat : Nat) : Int)
def mulZ (a b : Int) : Int := ((Gf.mul a.toNat b.toNat : Nat) : Int)
def isElt (a : Int) : Bool := decide (0 ≤ a ∧ a ≤ 255)
theorem ret_int {k : IntKind} {a b : Int} (h : a = b) : Ending.returned (.int k a) = .returned (.int k b) := by rw [h]
theorem ret_bool {a b : Bool} (h : a = b) : Ending.returned (.bool a) = .returned (.bool b) := by rw [h]
theorem dblZ_lt {a : Int} (h0 : 0 ≤ a) (h1 : a ≤ 255) : 0 ≤ dblZ a ∧ dblZ a ≤ 255 := by
  unfold dblZ; have := Gf.dbl_lt (x := a.toNat) (by omega); omega
theorem dbl_low {a : Int} (h0 : 0 ≤ a) (h1 : a < 128) : dblZ a = a * 2 := by
  unfold dblZ Gf.dbl; rw [if_pos (by omega)]; omega
theorem dbl_high {a : Int} (h0 : 128 ≤ a) (h1 : a ≤ 255) : dblZ a = bits .xor .i64 (a * 2) 285 := by
  unfold dblZ Gf.dbl
  rw [if_neg (by omega), Bt.i64_xor _ _ (by omega) (by omega) (by omega) (by omega)]
  rw [show (a * 2).toNat = 2 * a.toNat from by omega]; rfl

theorem isElement (a : Int) (w : World) : Calls Try.prog 86 #[.int .i64 a] w fun e w' => e = .returned (.bool (isElt a)) ∧ w = w' := by
  by_cases h0 : 0 ≤ a
  · by_cases h1 : a ≤ 255
    · go_enter Try.func86, Try.ntmps86
      go_wp2
      go_ret
      exact ⟨ret_bool (by unfold isElt; exact (decide_eq_true (by omega)).symm), rfl⟩
    · go_enter Try.func86, Try.ntmps86
      go_wp2
      go_ret
      exact ⟨ret_bool (by unfold isElt; exact (decide_eq_false (by omega)).symm), rfl⟩
  · go_enter Try.func86, Try.ntmps86
    go_wp2
    go_ret
    exact ⟨ret_bool (by unfold isElt; exact (decide_eq_false (by omega)).symm), rfl⟩

theorem doubleOf (a : Int) (h0 : 0 ≤ a) (h1 : a ≤ 255) (w : World) :
    Calls Try.prog 133 #[.int .i64 a] w fun e w' => e = .returned (.int .i64 (dblZ a)) ∧ w = w' := by
  by_cases h : a < 128
  · go_enter Try.func133, Try.ntmps133
    go_wp2
    go_ret
    exact ⟨ret_int (dbl_low h0 h).symm, rfl⟩
  · go_enter Try.func133, Try.ntmps133
    go_wp2
    go_ret
    exact ⟨ret_int (dbl_high (by omega) h1).symm, rfl⟩

/-- The i-th doubling of a. -/
def pwZ (a : Int) (i : Nat) : Int := ((Gf.pw a.toNat i : Nat) : Int)
theorem pwZ_lt {a : Int} (h0 : 0 ≤ a) (h1 : a ≤ 255) (i : Nat) : 0 ≤ pwZ a i ∧ pwZ a i ≤ 255 := by
  unfold pwZ; have := Gf.pw_lt (a := a.toNat) (by omega) i; omega
theorem pwZ_succ {a : Int} (i : Nat) : dblZ (pwZ a i) = pwZ a (i + 1) := by unfold pwZ dblZ; rw [Int.toNat_natCast]; rfl
theorem pwZ_zero {a : Int} (h0 : 0 ≤ a) : pwZ a 0 = a := by unfold pwZ Gf.pw; omega
/-- The array of powers with its first k elements filled. -/
def cellAt (a : Int) (k i : Nat) : Value := .int .i64 (if i < k then pwZ a i else 0)
def rowAt (a : Int) (k : Nat) : Array Value := #[cellAt a k 0, cellAt a k 1, cellAt a k 2, cellAt a k 3, cellAt a k 4, cellAt a k 5, cellAt a k 6, cellAt a k 7]
def powers (a : Int) : Array Value := rowAt a 8
theorem row0 (a : Int) : rowAt a 0 = #[.int .i64 0, .int .i64 0, .int .i64 0, .int .i64 0, .int .i64 0, .int .i64 0, .int .i64 0, .int .i64 0] := by simp [rowAt, cellAt]
theorem row1 (a : Int) : rowAt a 1 = #[.int .i64 (pwZ a 0), .int .i64 0, .int .i64 0, .int .i64 0, .int .i64 0, .int .i64 0, .int .i64 0, .int .i64 0] := by simp [rowAt, cellAt]
theorem row2 (a : Int) : rowAt a 2 = #[.int .i64 (pwZ a 0), .int .i64 (pwZ a 1), .int .i64 0, .int .i64 0, .int .i64 0, .int .i64 0, .int .i64 0, .int .i64 0] := by simp [rowAt, cellAt]
theorem row3 (a : Int) : rowAt a 3 = #[.int .i64 (pwZ a 0), .int .i64 (pwZ a 1), .int .i64 (pwZ a 2), .int .i64 0, .int .i64 0, .int .i64 0, .int .i64 0, .int .i64 0] := by simp [rowAt, cellAt]
theorem row4 (a : Int) : rowAt a 4 = #[.int .i64 (pwZ a 0), .int .i64 (pwZ a 1), .int .i64 (pwZ a 2), .int .i64 (pwZ a 3), .int .i64 0, .int .i64 0, .int .i64 0, .int .i64 0] := by simp [rowAt, cellAt]
theorem row5 (a : Int) : rowAt a 5 = #[.int .i64 (pwZ a 0), .int .i64 (pwZ a 1), .int .i64 (pwZ a 2), .int .i64 (pwZ a 3), .int .i64 (pwZ a 4), .int .i64 0, .int .i64 0, .int .i64 0] := by simp [rowAt, cellAt]
theorem row6 (a : Int) : rowAt a 6 = #[.int .i64 (pwZ a 0), .int .i64 (pwZ a 1), .int .i64 (pwZ a 2), .int .i64 (pwZ a 3), .int .i64 (pwZ a 4), .int .i64 (pwZ a 5), .int .i64 0, .int .i64 0] := by simp [rowAt, cellAt]
theorem row7 (a : Int) : rowAt a 7 = #[.int .i64 (pwZ a 0), .int .i64 (pwZ a 1), .int .i64 (pwZ a 2), .int .i64 (pwZ a 3), .int .i64 (pwZ a 4), .int .i64 (pwZ a 5), .int .i64 (pwZ a 6), .int .i64 0] := by simp [rowAt, cellAt]
theorem row8 (a : Int) : powers a = #[.int .i64 (pwZ a 0), .int .i64 (pwZ a 1), .int .i64 (pwZ a 2), .int .i64 (pwZ a 3), .int .i64 (pwZ a 4), .int .i64 (pwZ a 5), .int .i64 (pwZ a 6), .int .i64 (pwZ a 7)] := by simp [powers, rowAt, cellAt]

theorem powersOf (a : Int) (h0 : 0 ≤ a) (h1 : a ≤ 255) (w : World) :
    Calls Try.prog 130 #[.int .i64 a] w fun e w' => e = .returned (.agg (powers a)) ∧ Below w.heap.size w w' := by
  have P := fun i => pwZ_lt h0 h1 i
  go_enter Try.func130, Try.ntmps130
  go_wp2
  refine wp_scope_jumps 0 (fun a' w' => ∃ (k : Nat) (u5 u6 u7 u8 u9 u10 u11 u12 u13 : Value), k < 8 ∧
    a' = { tmps := #[.int .i64 (pwZ a k), undef, .pointer (some ⟨w.heap.size, 0, none⟩), .pointer (some ⟨w.heap.size + 1, 0, none⟩), .int .i64 k, u5, u6, u7, u8, u9, u10, u11, u12, u13, undef], defers := [] } ∧
    w' = (w.alloc (.cells (rowAt a 0) 149)).alloc (.cells (rowAt a k) 149)) (fun a' w' => 8 - (intOf (a'.tmps.getD 4 undef)).toNat) rfl ?_ ?_
  · go_wp2
    go_step3
    go_wp2_with (go_at_call 133; refine (doubleOf _ (by omega) (by omega) _).mono ?_; rintro e w' ⟨rfl, rfl⟩)
    go_step3
    rw [show dblZ a = pwZ a 1 from by rw [← pwZ_succ, pwZ_zero h0]]
    refine ⟨rfl, 1, _, _, _, _, _, _, _, _, _, by omega, rfl, by rw [row0, row1, pwZ_zero h0]⟩
  · rintro a' w' ⟨k, u5, u6, u7, u8, u9, u10, u11, u12, u13, hk, rfl, rfl⟩
    have hk8 : k = 0 ∨ k = 1 ∨ k = 2 ∨ k = 3 ∨ k = 4 ∨ k = 5 ∨ k = 6 ∨ k = 7 := by omega
    rcases hk8 with rfl | rfl | rfl | rfl | rfl | rfl | rfl | rfl
    · have P0 := P 0
      rw [row0, show ((0 : Nat) : Int) = 0 from rfl]
      go_wp2_with (go_at_call 133; refine (doubleOf _ (by omega) (by omega) _).mono ?_; rintro e w' ⟨rfl, rfl⟩)
      go_step3
      rw [pwZ_succ 0]
      refine ⟨rfl, ⟨1, _, _, _, _, _, _, _, _, _, by omega, rfl, by rw [row1]⟩, by simp [intOf]⟩
    · have P1 := P 1
      rw [row1, row0, show ((1 : Nat) : Int) = 1 from rfl]
      go_wp2_with (go_at_call 133; refine (doubleOf _ (by omega) (by omega) _).mono ?_; rintro e w' ⟨rfl, rfl⟩)
      go_step3
      rw [pwZ_succ 1]
      refine ⟨rfl, ⟨2, _, _, _, _, _, _, _, _, _, by omega, rfl, by rw [row2]⟩, by simp [intOf]⟩
    · have P2 := P 2
      rw [row2, row0, show ((2 : Nat) : Int) = 2 from rfl]
      go_wp2_with (go_at_call 133; refine (doubleOf _ (by omega) (by omega) _).mono ?_; rintro e w' ⟨rfl, rfl⟩)
      go_step3
      rw [pwZ_succ 2]
      refine ⟨rfl, ⟨3, _, _, _, _, _, _, _, _, _, by omega, rfl, by rw [row3]⟩, by simp [intOf]⟩
    · have P3 := P 3
      rw [row3, row0, show ((3 : Nat) : Int) = 3 from rfl]
      go_wp2_with (go_at_call 133; refine (doubleOf _ (by omega) (by omega) _).mono ?_; rintro e w' ⟨rfl, rfl⟩)
      go_step3
      rw [pwZ_succ 3]
      refine ⟨rfl, ⟨4, _, _, _, _, _, _, _, _, _, by omega, rfl, by rw [row4]⟩, by simp [intOf]⟩
    · have P4 := P 4
      rw [row4, row0, show ((4 : Nat) : Int) = 4 from rfl]
      go_wp2_with (go_at_call 133; refine (doubleOf _ (by omega) (by omega) _).mono ?_; rintro e w' ⟨rfl, rfl⟩)
      go_step3
      rw [pwZ_succ 4]
      refine ⟨rfl, ⟨5, _, _, _, _, _, _, _, _, _, by omega, rfl, by rw [row5]⟩, by simp [intOf]⟩
    · have P5 := P 5
      rw [row5, row0, show ((5 : Nat) : Int) = 5 from rfl]
      go_wp2_with (go_at_call 133; refine (doubleOf _ (by omega) (by omega) _).mono ?_; rintro e w' ⟨rfl, rfl⟩)
      go_step3
      rw [pwZ_succ 5]
      refine ⟨rfl, ⟨6, _, _, _, _, _, _, _, _, _, by omega, rfl, by rw [row6]⟩, by simp [intOf]⟩
    · have P6 := P 6
      rw [row6, row0, show ((6 : Nat) : Int) = 6 from rfl]
      go_wp2_with (go_at_call 133; refine (doubleOf _ (by omega) (by omega) _).mono ?_; rintro e w' ⟨rfl, rfl⟩)
      go_step3
      rw [pwZ_succ 6]
      refine ⟨rfl, ⟨7, _, _, _, _, _, _, _, _, _, by omega, rfl, by rw [row7]⟩, by simp [intOf]⟩
    · have P7 := P 7
      rw [row7, row0, show ((7 : Nat) : Int) = 7 from rfl]
      go_wp2
      simp only [Exit.jump]
      refine bodyPost_ret (v := .agg (powers a)) ?_ rfl ⟨rfl, ?_⟩
      · rw [row8]; simp [results, Try.results130, go_sem]
      · go_grown

/-- The product so far, over the lowest k bits. -/
def accZ (a b : Int) (k : Nat) : Int := ((Gf.acc a.toNat b.toNat k : Nat) : Int)
theorem accZ_lt {a : Int} (h0 : 0 ≤ a) (h1 : a ≤ 255) (b : Int) (k : Nat) : 0 ≤ accZ a b k ∧ accZ a b k ≤ 255 := by
  unfold accZ; have := Gf.acc_lt (a := a.toNat) (b := b.toNat) (by omega) k; omega
theorem mulZ_lt {a : Int} (h0 : 0 ≤ a) (h1 : a ≤ 255) (b : Int) : 0 ≤ mulZ a b ∧ mulZ a b ≤ 255 := accZ_lt h0 h1 b 8
theorem mulZ_comm {a b : Int} (h0 : 0 ≤ a) (h1 : a ≤ 255) (g0 : 0 ≤ b) (g1 : b ≤ 255) : mulZ a b = mulZ b a := by
  unfold mulZ; rw [Gf.mul_comm (by omega) (by omega)]
theorem bitZ {b : Int} (h0 : 0 ≤ b) (k : Nat) : b / 2 ^ k % 2 = ((Gf.bit b.toNat k : Nat) : Int) := by
  unfold Gf.bit
  obtain ⟨n, rfl⟩ := Int.eq_ofNat_of_zero_le h0
  rw [Int.toNat_natCast, Int.natCast_emod, Int.natCast_ediv]; simp
theorem test_on {b : Int} (h0 : 0 ≤ b) (k : Nat) (hb : Gf.bit b.toNat k = 1) : ((b / 2 ^ k).tmod 2 == 1) = true := by
  have hq : 0 ≤ b / 2 ^ k := Int.ediv_nonneg h0 (Int.le_of_lt (Int.pow_pos (by omega)))
  rw [Int.tmod_eq_emod_of_nonneg hq, bitZ h0, hb]; rfl
theorem test_off {b : Int} (h0 : 0 ≤ b) (k : Nat) (hb : ¬ Gf.bit b.toNat k = 1) : ((b / 2 ^ k).tmod 2 == 1) = false := by
  have hq : 0 ≤ b / 2 ^ k := Int.ediv_nonneg h0 (Int.le_of_lt (Int.pow_pos (by omega)))
  rw [Int.tmod_eq_emod_of_nonneg hq, bitZ h0, beq_eq_false_iff_ne]
  intro h; exact hb (by exact_mod_cast h)
theorem accZ_one {a b : Int} (h0 : 0 ≤ a) (h1 : a ≤ 255) (k : Nat) (hb : Gf.bit b.toNat k = 1) : accZ a b (k + 1) = bits .xor .i64 (accZ a b k) (pwZ a k) := by
  have := accZ_lt h0 h1 b k
  have := pwZ_lt h0 h1 k
  rw [Bt.i64_xor _ _ (by omega) (by omega) (by omega) (by omega)]
  unfold accZ pwZ
  rw [Int.toNat_natCast, Int.toNat_natCast]
  show ((Gf.acc _ _ (k + 1) : Nat) : Int) = _
  conv => lhs; unfold Gf.acc
  rw [if_pos hb]
theorem accZ_nil {a b : Int} (k : Nat) (hb : ¬ Gf.bit b.toNat k = 1) : accZ a b (k + 1) = accZ a b k := by
  unfold accZ
  show ((Gf.acc _ _ (k + 1) : Nat) : Int) = _
  conv => lhs; unfold Gf.acc
  rw [if_neg hb]

theorem times (a b : Int) (h0 : 0 ≤ a) (h1 : a ≤ 255) (g0 : 0 ≤ b) (B : Nat) (w : World) (hp : ∀ i, i < 8 → w.cell? ⟨B, i, none⟩ = some (.int .i64 (pwZ a i))) :
    Calls Try.prog 131 #[.pointer (some ⟨B, 0, none⟩), .int .i64 b] w fun e w' => e = .returned (.int .i64 (mulZ a b)) ∧ ∃ n, w' = w.drewN n := by
  go_enter Try.func131, Try.ntmps131
  go_wp2
  go_loopw [5, 9] (fun p i wr => ∃ k n : Nat, k ≤ 8 ∧ i = .int .i64 k ∧ p = .int .i64 (accZ a b k) ∧ wr = w.drewN n) (fun _ i _ => 8 - (intOf i).toNat)
  case atStart => exact ⟨0, 0, by omega, rfl, rfl, rfl⟩
  case round =>
    obtain ⟨k, n, hk, rfl, rfl, hw⟩ := hrel
    have hA := accZ_lt h0 h1 b k
    have hP := pwZ_lt h0 h1 k
    by_cases hlt : k < 8
    · have hc : wr.cell? ⟨B, k, none⟩ = some (.int .i64 (pwZ a k)) := by rw [hw]; exact hp k hlt
      have HW : Hid (wr = w.drewN n) := hw
      clear hw hp
      by_cases hb : Gf.bit b.toNat k = 1
      · have ht := test_on g0 k hb
        have HB := Lib.hid (accZ_one h0 h1 k hb)
        clear hb
        go_wp2
        go_quiet (fail)
        go_wp2
        go_roundw
        case rel => exact ⟨k + 1, n + nq, by omega, by go_num, by rw [HB.out], by rw [HW.out, World.drewN_drewN]⟩
        case measure => simp [intOf]; omega
      · have ht := test_off g0 k hb
        have HB := Lib.hid (accZ_nil (a := a) k hb)
        clear hb
        go_wp2
        go_quiet (fail)
        go_wp2
        go_roundw
        case rel => exact ⟨k + 1, n + nq, by omega, by go_num, by rw [HB.out], by rw [HW.out, World.drewN_drewN]⟩
        case measure => simp [intOf]; omega
    · obtain rfl : k = 8 := by omega
      go_wp2
      go_ret
      exact ⟨rfl, n, rfl⟩

theorem cells8 {a : Int} (w : World) (T : TypeId) : ∀ i, i < 8 → (w.alloc (.cells #[.int .i64 (pwZ a 0), .int .i64 (pwZ a 1), .int .i64 (pwZ a 2), .int .i64 (pwZ a 3), .int .i64 (pwZ a 4), .int .i64 (pwZ a 5), .int .i64 (pwZ a 6), .int .i64 (pwZ a 7)] T)).cell? ⟨w.heap.size, i, none⟩ = some (.int .i64 (pwZ a i)) := by
  intro i hi
  rw [World.cell?_alloc_new]
  have h8 : i = 0 ∨ i = 1 ∨ i = 2 ∨ i = 3 ∨ i = 4 ∨ i = 5 ∨ i = 6 ∨ i = 7 := by omega
  rcases h8 with rfl | rfl | rfl | rfl | rfl | rfl | rfl | rfl <;> rfl

/-- The product of two field elements: the program lays the powers of one in a box of its own. -/
theorem productOf (a b : Int) (h0 : 0 ≤ a) (h1 : a ≤ 255) (g0 : 0 ≤ b) (w : World) :
    Calls Try.prog 127 #[.int .i64 a, .int .i64 b] w fun e w' => e = .returned (.int .i64 (mulZ a b)) ∧ Below w.heap.size w w' := by
  go_enter Try.func127, Try.ntmps127
  go_wp2_with fail
  refine (powersOf a h0 h1 _).mono ?_
  rintro e w1 ⟨rfl, hb⟩
  rw [row8]
  go_wp2_with fail
  refine (times a b h0 h1 g0 _ _ (cells8 _ _)).mono ?_
  rintro e w2 ⟨rfl, n, rfl⟩
  go_wp2
  go_ret
  exact ⟨rfl, below_drewN (hb.alloc hb.size _) n⟩

/-- The n-th power. -/
def powZ (a n : Int) : Int := ((Gf.npow a.toNat n.toNat : Nat) : Int)
def invZ (a : Int) : Int := powZ a 254
theorem powZ_lt {a : Int} (h0 : 0 ≤ a) (h1 : a ≤ 255) (n : Int) : 0 ≤ powZ a n ∧ powZ a n ≤ 255 := by
  unfold powZ; have := Gf.npow_lt (a := a.toNat) (by omega) n.toNat; omega
theorem invZ_lt {a : Int} (h0 : 0 ≤ a) (h1 : a ≤ 255) : 0 ≤ invZ a ∧ invZ a ≤ 255 := powZ_lt h0 h1 254
/-- What is kept from round to round of squaring: power so far times base to the exponent left. -/
def keep (p a n : Int) : Int := ((Gf.mul p.toNat (Gf.npow a.toNat n.toNat) : Nat) : Int)
theorem keep_start {a n : Int} (h0 : 0 ≤ a) (h1 : a ≤ 255) : keep 1 a n = powZ a n := by
  unfold keep powZ; rw [show (1 : Int).toNat = 1 from rfl, Gf.one_mul (Gf.npow_lt (by omega) _)]
theorem keep_end {p a : Int} (h0 : 0 ≤ p) (h1 : p ≤ 255) : keep p a 0 = p := by
  unfold keep; show ((Gf.mul p.toNat 1 : Nat) : Int) = p; rw [Gf.mul_one (by omega)]; omega
theorem keep_odd {p a n : Int} (h0 : 0 ≤ a) (h1 : a ≤ 255) (p0 : 0 ≤ p) (p1 : p ≤ 255) (n0 : 0 ≤ n) (h : n % 2 = 1) : keep (mulZ a p) (mulZ a a) (n / 2) = keep p a n := by
  unfold keep mulZ
  rw [Int.toNat_natCast, Int.toNat_natCast, show (n / 2).toNat = n.toNat / 2 from by omega, Gf.sq_odd (by omega) (by omega) (by omega)]
theorem keep_even {p a n : Int} (h0 : 0 ≤ a) (h1 : a ≤ 255) (n0 : 0 ≤ n) (h : n % 2 = 0) : keep p (mulZ a a) (n / 2) = keep p a n := by
  unfold keep mulZ
  rw [Int.toNat_natCast, show (n / 2).toNat = n.toNat / 2 from by omega, Gf.sq_even (by omega) (by omega)]

theorem powerOf (a n : Int) (h0 : 0 ≤ a) (h1 : a ≤ 255) (n0 : 0 ≤ n) (n1 : n ≤ 9223372036854775807) (w : World) :
    Calls Try.prog 132 #[.int .i64 a, .int .i64 n] w fun e w' => e = .returned (.int .i64 (powZ a n)) ∧ Below w.heap.size w w' := by
  go_enter Try.func132, Try.ntmps132
  go_wp2
  go_loopw [0, 1, 5] (fun x m p wr => ∃ x' m' p' : Int, x = .int .i64 x' ∧ m = .int .i64 m' ∧ p = .int .i64 p' ∧ 0 ≤ x' ∧ x' ≤ 255 ∧ 0 ≤ m' ∧ m' ≤ 9223372036854775807 ∧ 0 ≤ p' ∧ p' ≤ 255 ∧ keep p' x' m' = powZ a n ∧ Below w.heap.size w wr) (fun _ m _ _ => (intOf m).toNat)
  case atStart => exact ⟨a, n, 1, rfl, rfl, rfl, h0, h1, n0, n1, by omega, by omega, keep_start h0 h1, Below.refl _ _⟩
  case round =>
    obtain ⟨x, m, p, rfl, rfl, rfl, x0, x1, m0, m1, p0, p1, hk, hb⟩ := hrel
    have K := Lib.hid hk
    clear hk
    by_cases hm : m = 0
    · subst hm
      have E := Lib.hid (keep_end (a := x) p0 p1)
      go_wp2
      go_ret
      exact ⟨ret_int (E.out.symm.trans K.out), hb⟩
    · have hpos : 0 < m := by omega
      clear hm
      have q := mulZ_lt x0 x1
      by_cases ho : m % 2 = 1
      · have E := Lib.hid (keep_odd x0 x1 p0 p1 m0 ho)
        go_wp2_with fail
        refine (powersOf x x0 x1 _).mono ?_
        rintro e w1 ⟨rfl, hb1⟩
        rw [row8]
        go_wp2_with fail
        refine (times x p x0 x1 p0 _ _ (cells8 _ _)).mono ?_
        rintro e w2 ⟨rfl, n2, rfl⟩
        go_wp2_with fail
        refine (times x x x0 x1 x0 _ _ (by intro i hi; exact cells8 w1 _ i hi)).mono ?_
        rintro e w2 ⟨rfl, n3, rfl⟩
        go_wp2
        go_roundw
        case rel => exact ⟨_, _, _, rfl, rfl, rfl, (q x).1, (q x).2, by omega, by omega, (q p).1, (q p).2, E.out.trans K.out, below_drewN ((hb.trans (hb1.mono hb.size)).alloc (Nat.le_trans hb.size hb1.size) _) _⟩
        case measure => simp [intOf]; omega
      · have E := Lib.hid (keep_even (p := p) x0 x1 m0 (by omega : m % 2 = 0))
        go_wp2_with fail
        refine (powersOf x x0 x1 _).mono ?_
        rintro e w1 ⟨rfl, hb1⟩
        rw [row8]
        go_wp2_with fail
        refine (times x x x0 x1 x0 _ _ (cells8 _ _)).mono ?_
        rintro e w2 ⟨rfl, n3, rfl⟩
        go_wp2
        go_roundw
        case rel => exact ⟨_, _, _, rfl, rfl, rfl, (q x).1, (q x).2, by omega, by omega, p0, p1, E.out.trans K.out, below_drewN ((hb.trans (hb1.mono hb.size)).alloc (Nat.le_trans hb.size hb1.size) _) _⟩
        case measure => simp [intOf]; omega

theorem inverseOf (a : Int) (h0 : 0 ≤ a) (h1 : a ≤ 255) (w : World) :
    Calls Try.prog 128 #[.int .i64 a] w fun e w' => e = .returned (.int .i64 (invZ a)) ∧ Below w.heap.size w w' := by
  go_enter Try.func128, Try.ntmps128
  go_wp2_with fail
  refine (powerOf a 254 h0 h1 (by omega) (by omega) _).mono ?_
  rintro e w1 ⟨rfl, hb1⟩
  go_wp2
  go_ret
  exact ⟨rfl, hb1⟩

theorem elt_yes {a : Int} (h0 : 0 ≤ a) (h1 : a ≤ 255) : isElt a = true := decide_eq_true ⟨h0, h1⟩
theorem elt_of {a : Int} (h : isElt a = true) : 0 ≤ a ∧ a ≤ 255 := of_decide_eq_true h

end Go.Proofs.Ytjghafefccmafaa.GfI
