/-
  What the model's functions on the field GF(256) return, as plain numbers (module Gf): one contract a function, callees first.
-/
import Derived.Test.YtbnjgehgaellmaaDoorGfCore
namespace Go.Proofs.YtbnjgehgaellmaaDoor.GfS
open Go.RowKit Go.Proofs.YtbnjgehgaellmaaDoor.GfI

def inB (n low high : Int) : Bool := decide (low ≤ n ∧ n ≤ high)
theorem inB_yes {n low high : Int} (h0 : low ≤ n) (h1 : n ≤ high) : inB n low high = true := decide_eq_true ⟨h0, h1⟩

theorem l00In (n low high : Int) (w : World) : Calls Tryd.prog 17 #[.int .i64 n, .int .i64 low, .int .i64 high] w fun e w' => e = .returned (.bool (inB n low high)) ∧ w = w' := by
  by_cases h0 : low ≤ n
  · by_cases h1 : n ≤ high
    · go_enter Tryd.func17, Tryd.ntmps17
      go_wp2
      go_ret
      exact ⟨ret_bool (by unfold inB; exact (decide_eq_true (by omega)).symm), rfl⟩
    · go_enter Tryd.func17, Tryd.ntmps17
      go_wp2
      go_ret
      exact ⟨ret_bool (by unfold inB; exact (decide_eq_false (by omega)).symm), rfl⟩
  · go_enter Tryd.func17, Tryd.ntmps17
    go_wp2
    go_ret
    exact ⟨ret_bool (by unfold inB; exact (decide_eq_false (by omega)).symm), rfl⟩


/-- The multiplier's higher bits after k rounds. -/
theorem half {b : Int} (k : Nat) : b / 2 ^ k / 2 = b / 2 ^ (k + 1) := by
  rw [Int.pow_succ, Int.ediv_ediv_of_nonneg (Int.le_of_lt (Int.pow_pos (by omega)))]
theorem one_on {b : Int} (h0 : 0 ≤ b) (k : Nat) (hb : Gf.bit b.toNat k = 1) : (bits .and .i64 (b / 2 ^ k) 1 != 0) = true := by
  rw [Bt.i64_one, bitZ h0, hb]; rfl
theorem one_off {b : Int} (h0 : 0 ≤ b) (k : Nat) (hb : ¬ Gf.bit b.toNat k = 1) : (bits .and .i64 (b / 2 ^ k) 1 != 0) = false := by
  rw [Bt.i64_one, bitZ h0]
  have : Gf.bit b.toNat k = 0 := by unfold Gf.bit at hb ⊢; omega
  rw [this]; rfl

end Go.Proofs.YtbnjgehgaellmaaDoor.GfS
