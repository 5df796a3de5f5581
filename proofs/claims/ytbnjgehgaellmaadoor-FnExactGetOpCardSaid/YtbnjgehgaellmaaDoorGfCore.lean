/-
  What the program's functions on the field GF(256) return, as plain numbers (module Gf): one contract a function, callees first. No condition but that the arguments are field elements.
-/
import Derived.Test.YtbnjgehgaellmaaDoorProg
import Derived.Test.YtbnjgehgaellmaaDoorGf
import Derived.Test.YtbnjgehgaellmaaDoorBits
import Derived.WalkKit
import Derived.Outline
import Derived.BigQuiet
import Derived.Deep.QuietTactic
import Derived.WalkMore
import Derived.ScopeJumps
import Derived.Handy
import Derived.WalkSmall
import Derived.Lib.Hide
namespace Go.Proofs.YtbnjgehgaellmaaDoor.GfI
open Go.RowKit

/-- The numbers of Gf at an integer. -/
def dblZ (a : Int) : Int := ((Gf.dbl a.toNat : Nat) : Int)
def mulZ (a b : Int) : Int := ((Gf.mul a.toNat b.toNat : Nat) : Int)
def isElt (a : Int) : Bool := decide (0 ≤ a ∧ a ≤ 255)
theorem ret_int {k : IntKind} {a b : Int} (h : a = b) : Ending.returned (.int k a) = .returned (.int k b) := by rw [h]
theorem ret_bool {a b : Bool} (h : a = b) : Ending.returned (.bool a) = .returned (.bool b) := by rw [h]
theorem dblZ_lt {a : Int} (h0 : 0 ≤ a) (h1 : a ≤ 255) : 0 ≤ dblZ a ∧ dblZ a ≤ 255 := by
  unfold dblZ; have := Gf.dbl_lt (x := a.toNat) (by omega); omega
theorem dbl_low {a : Int} (h0 : 0 ≤ a) (h1 : a < 128) : dblZ a = a * 2 := by
  unfold dblZ Gf.dbl; rw [if_pos (by omega)]; omega
theorem dbl_high {a : Int} (h0 : 128 ≤ a) (h1 : a ≤ 255) : dblZ a = bits .xor .i64 (a * 2) 285 := by
  unfold dblZ Gf.dbl
  rw [if_neg (by omega), Bt.i64_xor _ _ (by omega) (by omega) (by omega) (by omega)]
  rw [show (a * 2).toNat = 2 * a.toNat from by omega]; rfl

/-- The i-th doubling of a. -/
def pwZ (a : Int) (i : Nat) : Int := ((Gf.pw a.toNat i : Nat) : Int)
theorem pwZ_lt {a : Int} (h0 : 0 ≤ a) (h1 : a ≤ 255) (i : Nat) : 0 ≤ pwZ a i ∧ pwZ a i ≤ 255 := by
  unfold pwZ; have := Gf.pw_lt (a := a.toNat) (by omega) i; omega
theorem pwZ_succ {a : Int} (i : Nat) : dblZ (pwZ a i) = pwZ a (i + 1) := by unfold pwZ dblZ; rw [Int.toNat_natCast]; rfl
theorem pwZ_zero {a : Int} (h0 : 0 ≤ a) : pwZ a 0 = a := by unfold pwZ Gf.pw; omega
/-- The array of powers with its first k elements filled. -/
def cellAt (a : Int) (k i : Nat) : Value := .int .i64 (if i < k then pwZ a i else 0)
def rowAt (a : Int) (k : Nat) : Array Value := #[cellAt a k 0, cellAt a k 1, cellAt a k 2, cellAt a k 3, cellAt a k 4, cellAt a k 5, cellAt a k 6, cellAt a k 7]
def powers (a : Int) : Array Value := rowAt a 8
theorem row0 (a : Int) : rowAt a 0 = #[.int .i64 0, .int .i64 0, .int .i64 0, .int .i64 0, .int .i64 0, .int .i64 0, .int .i64 0, .int .i64 0] := by simp [rowAt, cellAt]
theorem row1 (a : Int) : rowAt a 1 = #[.int .i64 (pwZ a 0), .int .i64 0, .int .i64 0, .int .i64 0, .int .i64 0, .int .i64 0, .int .i64 0, .int .i64 0] := by simp [rowAt, cellAt]
theorem row2 (a : Int) : rowAt a 2 = #[.int .i64 (pwZ a 0), .int .i64 (pwZ a 1), .int .i64 0, .int .i64 0, .int .i64 0, .int .i64 0, .int .i64 0, .int .i64 0] := by simp [rowAt, cellAt]
theorem row3 (a : Int) : rowAt a 3 = #[.int .i64 (pwZ a 0), .int .i64 (pwZ a 1), .int .i64 (pwZ a 2), .int .i64 0, .int .i64 0, .int .i64 0, .int .i64 0, .int .i64 0] := by simp [rowAt, cellAt]
theorem row4 (a : Int) : rowAt a 4 = #[.int .i64 (pwZ a 0), .int .i64 (pwZ a 1), .int .i64 (pwZ a 2), .int .i64 (pwZ a 3), .int .i64 0, .int .i64 0, .int .i64 0, .int .i64 0] := by simp [rowAt, cellAt]
theorem row5 (a : Int) : rowAt a 5 = #[.int .i64 (pwZ a 0), .int .i64 (pwZ a 1), .int .i64 (pwZ a 2), .int .i64 (pwZ a 3), .int .i64 (pwZ a 4), .int .i64 0, .int .i64 0, .int .i64 0] := by simp [rowAt, cellAt]
theorem row6 (a : Int) : rowAt a 6 = #[.int .i64 (pwZ a 0), .int .i64 (pwZ a 1), .int .i64 (pwZ a 2), .int .i64 (pwZ a 3), .int .i64 (pwZ a 4), .int .i64 (pwZ a 5), .int .i64 0, .int .i64 0] := by simp [rowAt, cellAt]
theorem row7 (a : Int) : rowAt a 7 = #[.int .i64 (pwZ a 0), .int .i64 (pwZ a 1), .int .i64 (pwZ a 2), .int .i64 (pwZ a 3), .int .i64 (pwZ a 4), .int .i64 (pwZ a 5), .int .i64 (pwZ a 6), .int .i64 0] := by simp [rowAt, cellAt]
theorem row8 (a : Int) : powers a = #[.int .i64 (pwZ a 0), .int .i64 (pwZ a 1), .int .i64 (pwZ a 2), .int .i64 (pwZ a 3), .int .i64 (pwZ a 4), .int .i64 (pwZ a 5), .int .i64 (pwZ a 6), .int .i64 (pwZ a 7)] := by simp [powers, rowAt, cellAt]

/-- The product so far, over the lowest k bits. -/
def accZ (a b : Int) (k : Nat) : Int := ((Gf.acc a.toNat b.toNat k : Nat) : Int)
theorem accZ_lt {a : Int} (h0 : 0 ≤ a) (h1 : a ≤ 255) (b : Int) (k : Nat) : 0 ≤ accZ a b k ∧ accZ a b k ≤ 255 := by
  unfold accZ; have := Gf.acc_lt (a := a.toNat) (b := b.toNat) (by omega) k; omega
theorem mulZ_lt {a : Int} (h0 : 0 ≤ a) (h1 : a ≤ 255) (b : Int) : 0 ≤ mulZ a b ∧ mulZ a b ≤ 255 := accZ_lt h0 h1 b 8
theorem mulZ_comm {a b : Int} (h0 : 0 ≤ a) (h1 : a ≤ 255) (g0 : 0 ≤ b) (g1 : b ≤ 255) : mulZ a b = mulZ b a := by
  unfold mulZ; rw [Gf.mul_comm (by omega) (by omega)]
theorem bitZ {b : Int} (h0 : 0 ≤ b) (k : Nat) : b / 2 ^ k % 2 = ((Gf.bit b.toNat k : Nat) : Int) := by
  unfold Gf.bit
  obtain ⟨n, rfl⟩ := Int.eq_ofNat_of_zero_le h0
  rw [Int.toNat_natCast, Int.natCast_emod, Int.natCast_ediv]; simp
theorem test_on {b : Int} (h0 : 0 ≤ b) (k : Nat) (hb : Gf.bit b.toNat k = 1) : ((b / 2 ^ k).tmod 2 == 1) = true := by
  have hq : 0 ≤ b / 2 ^ k := Int.ediv_nonneg h0 (Int.le_of_lt (Int.pow_pos (by omega)))
  rw [Int.tmod_eq_emod_of_nonneg hq, bitZ h0, hb]; rfl
theorem test_off {b : Int} (h0 : 0 ≤ b) (k : Nat) (hb : ¬ Gf.bit b.toNat k = 1) : ((b / 2 ^ k).tmod 2 == 1) = false := by
  have hq : 0 ≤ b / 2 ^ k := Int.ediv_nonneg h0 (Int.le_of_lt (Int.pow_pos (by omega)))
  rw [Int.tmod_eq_emod_of_nonneg hq, bitZ h0, beq_eq_false_iff_ne]
  intro h; exact hb (by exact_mod_cast h)
theorem accZ_one {a b : Int} (h0 : 0 ≤ a) (h1 : a ≤ 255) (k : Nat) (hb : Gf.bit b.toNat k = 1) : accZ a b (k + 1) = bits .xor .i64 (accZ a b k) (pwZ a k) := by
  have := accZ_lt h0 h1 b k
  have := pwZ_lt h0 h1 k
  rw [Bt.i64_xor _ _ (by omega) (by omega) (by omega) (by omega)]
  unfold accZ pwZ
  rw [Int.toNat_natCast, Int.toNat_natCast]
  show ((Gf.acc _ _ (k + 1) : Nat) : Int) = _
  conv => lhs; unfold Gf.acc
  rw [if_pos hb]
theorem accZ_nil {a b : Int} (k : Nat) (hb : ¬ Gf.bit b.toNat k = 1) : accZ a b (k + 1) = accZ a b k := by
  unfold accZ
  show ((Gf.acc _ _ (k + 1) : Nat) : Int) = _
  conv => lhs; unfold Gf.acc
  rw [if_neg hb]

theorem cells8 {a : Int} (w : World) (T : TypeId) : ∀ i, i < 8 → (w.alloc (.cells #[.int .i64 (pwZ a 0), .int .i64 (pwZ a 1), .int .i64 (pwZ a 2), .int .i64 (pwZ a 3), .int .i64 (pwZ a 4), .int .i64 (pwZ a 5), .int .i64 (pwZ a 6), .int .i64 (pwZ a 7)] T)).cell? ⟨w.heap.size, i, none⟩ = some (.int .i64 (pwZ a i)) := by
  intro i hi
  rw [World.cell?_alloc_new]
  have h8 : i = 0 ∨ i = 1 ∨ i = 2 ∨ i = 3 ∨ i = 4 ∨ i = 5 ∨ i = 6 ∨ i = 7 := by omega
  rcases h8 with rfl | rfl | rfl | rfl | rfl | rfl | rfl | rfl <;> rfl

/-- The n-th power. -/
def powZ (a n : Int) : Int := ((Gf.npow a.toNat n.toNat : Nat) : Int)
def invZ (a : Int) : Int := powZ a 254
theorem powZ_lt {a : Int} (h0 : 0 ≤ a) (h1 : a ≤ 255) (n : Int) : 0 ≤ powZ a n ∧ powZ a n ≤ 255 := by
  unfold powZ; have := Gf.npow_lt (a := a.toNat) (by omega) n.toNat; omega
theorem invZ_lt {a : Int} (h0 : 0 ≤ a) (h1 : a ≤ 255) : 0 ≤ invZ a ∧ invZ a ≤ 255 := powZ_lt h0 h1 254
theorem elt_yes {a : Int} (h0 : 0 ≤ a) (h1 : a ≤ 255) : isElt a = true := decide_eq_true ⟨h0, h1⟩
theorem elt_of {a : Int} (h : isElt a = true) : 0 ≤ a ∧ a ≤ 255 := of_decide_eq_true h

end Go.Proofs.YtbnjgehgaellmaaDoor.GfI
