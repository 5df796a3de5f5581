/-
  What the model's functions on the field GF(256) return, as plain numbers (module Gf): one contract a function, callees first.
-/
import Derived.Test.YtjghafefccmafaaGfCore
namespace Go.Proofs.Ytjghafefccmafaa.GfS
open Go.RowKit Go.Proofs.Ytjghafefccmafaa.GfI

def inB (n low high : Int) : Bool := decide (low ≤ n ∧ n ≤ high)
theorem inB_yes {n low high : Int} (h0 : low ≤ n) (h1 : n ≤ high) : inB n low high = true := decide_eq_true ⟨h0, h1⟩

theorem l00In (n low high : Int) (w : World) : Calls Try.prog 59 #[.int .i64 n, .int .i64 low, .int .i64 high] w fun e w' => e = .returned (.bool (inB n low high)) ∧ w = w' := by
  by_cases h0 : low ≤ n
  · by_cases h1 : n ≤ high
    · go_enter Try.func59, Try.ntmps59
      go_wp2
      go_ret
      exact ⟨ret_bool (by unfold inB; exact (decide_eq_true (by omega)).symm), rfl⟩
    · go_enter Try.func59, Try.ntmps59
      go_wp2
      go_ret
      exact ⟨ret_bool (by unfold inB; exact (decide_eq_false (by omega)).symm), rfl⟩
  · go_enter Try.func59, Try.ntmps59
    go_wp2
    go_ret
    exact ⟨ret_bool (by unfold inB; exact (decide_eq_false (by omega)).symm), rfl⟩

theorem l02Byte (n : Int) (w : World) : Calls Try.prog 85 #[.int .i64 n] w fun e w' => e = .returned (.bool (isElt n)) ∧ w = w' := by
  go_enter Try.func85, Try.ntmps85
  go_wp2_with fail
  refine (l00In n 0 255 _).mono ?_
  rintro e w1 ⟨rfl, rfl⟩
  go_wp2
  go_ret
  exact ⟨rfl, rfl⟩

/-- The multiplier's higher bits after k rounds. -/
theorem half {b : Int} (k : Nat) : b / 2 ^ k / 2 = b / 2 ^ (k + 1) := by
  rw [Int.pow_succ, Int.ediv_ediv_of_nonneg (Int.le_of_lt (Int.pow_pos (by omega)))]
theorem one_on {b : Int} (h0 : 0 ≤ b) (k : Nat) (hb : Gf.bit b.toNat k = 1) : (bits .and .i64 (b / 2 ^ k) 1 != 0) = true := by
  rw [Bt.i64_one, bitZ h0, hb]; rfl
theorem one_off {b : Int} (h0 : 0 ≤ b) (k : Nat) (hb : ¬ Gf.bit b.toNat k = 1) : (bits .and .i64 (b / 2 ^ k) 1 != 0) = false := by
  rw [Bt.i64_one, bitZ h0]
  have : Gf.bit b.toNat k = 0 := by unfold Gf.bit at hb ⊢; omega
  rw [this]; rfl

set_option maxRecDepth 100000 in
theorem l02Times (a b : Int) (h0 : 0 ≤ a) (h1 : a ≤ 255) (g0 : 0 ≤ b) (w : World) :
    Calls Try.prog 111 #[.int .i64 a, .int .i64 b] w fun e w' => e = .returned (.int .i64 (mulZ a b)) ∧ w = w' := by
  go_enter Try.func111, Try.ntmps111
  go_wp2
  go_loop [0, 1, 5, 6] (fun x y p i => ∃ k : Nat, k ≤ 8 ∧ i = .int .i64 k ∧ x = .int .i64 (pwZ a k) ∧ y = .int .i64 (b / 2 ^ k) ∧ p = .int .i64 (accZ a b k)) (fun _ _ _ i => 8 - (intOf i).toNat)
  case atStart => exact ⟨0, by omega, rfl, by rw [pwZ_zero h0], by simp, rfl⟩
  case round =>
    obtain ⟨k, hk, rfl, rfl, rfl, rfl⟩ := hrel
    have hA := accZ_lt h0 h1 b k
    have hP := pwZ_lt h0 h1 k
    by_cases hlt : k < 8
    · have T1 := one_on g0 k
      have T0 := one_off g0 k
      obtain ⟨y, hy⟩ : ∃ y, y = b / 2 ^ k := ⟨_, rfl⟩
      have H0 : y / 2 = b / 2 ^ (k + 1) := by rw [hy, half]
      have y0 : 0 ≤ y := by rw [hy]; exact Int.ediv_nonneg g0 (Int.le_of_lt (Int.pow_pos (by omega)))
      rw [← hy] at T1 T0 ⊢
      clear hy
      have H := Lib.hid H0
      clear H0
      have D := Lib.hid (pwZ_succ (a := a) k)
      by_cases hb : Gf.bit b.toNat k = 1
      · have ht := T1 hb
        clear T1 T0
        have HB := Lib.hid (accZ_one h0 h1 k hb)
        clear hb
        by_cases hs : pwZ a k < 128
        · have L := Lib.hid (dbl_low hP.1 hs)
          go_wp2
          go_round
          case rel => exact ⟨k + 1, by omega, by go_num, by rw [← D.out, L.out], by rw [H.out], by rw [HB.out]⟩
          case measure => simp [intOf]; omega
        · have L := Lib.hid (dbl_high (by omega) hP.2)
          go_wp2
          go_round
          case rel => exact ⟨k + 1, by omega, by go_num, by rw [← D.out, L.out], by rw [H.out], by rw [HB.out]⟩
          case measure => simp [intOf]; omega
      · have ht := T0 hb
        clear T1 T0
        have HB := Lib.hid (accZ_nil (a := a) k hb)
        clear hb
        by_cases hs : pwZ a k < 128
        · have L := Lib.hid (dbl_low hP.1 hs)
          go_wp2
          go_round
          case rel => exact ⟨k + 1, by omega, by go_num, by rw [← D.out, L.out], by rw [H.out], by rw [HB.out]⟩
          case measure => simp [intOf]; omega
        · have L := Lib.hid (dbl_high (by omega) hP.2)
          go_wp2
          go_round
          case rel => exact ⟨k + 1, by omega, by go_num, by rw [← D.out, L.out], by rw [H.out], by rw [HB.out]⟩
          case measure => simp [intOf]; omega
    · obtain rfl : k = 8 := by omega
      go_wp2
      go_ret
      exact ⟨rfl, rfl⟩

set_option maxRecDepth 100000 in
theorem l02Pow (a n : Int) (h0 : 0 ≤ a) (h1 : a ≤ 255) (n0 : 0 ≤ n) (n1 : n ≤ 9223372036854775807) (w : World) :
    Calls Try.prog 123 #[.int .i64 a, .int .i64 n] w fun e w' => e = .returned (.int .i64 (powZ a n)) ∧ w = w' := by
  go_enter Try.func123, Try.ntmps123
  go_wp2
  go_loop [0, 1, 5] (fun x m p => ∃ x' m' p' : Int, x = .int .i64 x' ∧ m = .int .i64 m' ∧ p = .int .i64 p' ∧ 0 ≤ x' ∧ x' ≤ 255 ∧ 0 ≤ m' ∧ m' ≤ 9223372036854775807 ∧ 0 ≤ p' ∧ p' ≤ 255 ∧ keep p' x' m' = powZ a n) (fun _ m _ => (intOf m).toNat)
  case atStart => exact ⟨a, n, 1, rfl, rfl, rfl, h0, h1, n0, n1, by omega, by omega, keep_start h0 h1⟩
  case round =>
    obtain ⟨x, m, p, rfl, rfl, rfl, x0, x1, m0, m1, p0, p1, hk⟩ := hrel
    have K := Lib.hid hk
    clear hk
    by_cases hm : m = 0
    · subst hm
      have E := Lib.hid (keep_end (a := x) p0 p1)
      go_wp2
      go_ret
      exact ⟨ret_int (E.out.symm.trans K.out), rfl⟩
    · have hpos : 0 < m := by omega
      clear hm
      have q := mulZ_lt x0 x1 x
      have C := Lib.hid (mulZ_comm p0 p1 x0 x1)
      by_cases ho : m % 2 = 1
      · have r := mulZ_lt p0 p1 x
        have E := Lib.hid (keep_odd x0 x1 p0 p1 m0 ho)
        go_wp2_with fail
        refine (l02Times p x p0 p1 x0 _).mono ?_
        rintro e w1 ⟨rfl, rfl⟩
        go_wp2_with fail
        refine (l02Times x x x0 x1 x0 _).mono ?_
        rintro e w1 ⟨rfl, rfl⟩
        go_wp2
        go_round
        case rel => exact ⟨_, _, _, rfl, rfl, rfl, q.1, q.2, by omega, by omega, r.1, r.2, by rw [C.out]; exact E.out.trans K.out⟩
        case measure => simp [intOf]; omega
      · have E := Lib.hid (keep_even (p := p) x0 x1 m0 (by omega : m % 2 = 0))
        go_wp2_with fail
        refine (l02Times x x x0 x1 x0 _).mono ?_
        rintro e w1 ⟨rfl, rfl⟩
        go_wp2
        go_round
        case rel => exact ⟨_, _, _, rfl, rfl, rfl, q.1, q.2, by omega, by omega, p0, p1, E.out.trans K.out⟩
        case measure => simp [intOf]; omega

theorem l02Inv (a : Int) (h0 : 0 ≤ a) (h1 : a ≤ 255) (w : World) :
    Calls Try.prog 112 #[.int .i64 a] w fun e w' => e = .returned (.int .i64 (invZ a)) ∧ w = w' := by
  go_enter Try.func112, Try.ntmps112
  go_wp2_with fail
  refine (l02Pow a 254 h0 h1 (by omega) (by omega) _).mono ?_
  rintro e w1 ⟨rfl, rfl⟩
  go_wp2
  go_ret
  exact ⟨rfl, rfl⟩
end Go.Proofs.Ytjghafefccmafaa.GfS
