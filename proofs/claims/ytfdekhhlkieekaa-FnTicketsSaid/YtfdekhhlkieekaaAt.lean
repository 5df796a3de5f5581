/-
  The number that the laws draw from a slice of bytes at a place.
-/
import Derived.Test.YtfdekhhlkieekaaRow
namespace Go.Proofs.Ytfdekhhlkieekaa.At
open Go.RowKit

set_option maxRecDepth 100000 in
theorem a8At (a : Option Addr) (len cap : Nat) (f : Nat → Int) (i n : Int) (w : World) (hf : Byts w a len f) (i0 : 0 ≤ i) (i1 : i ≤ 1000000000) (n0 : 1 ≤ n) (n1 : n ≤ 1000000000) :
    Calls Try.prog 14 #[.slice a len cap, .int .i64 i, .int .i64 n] w fun e w' => Under n e ∧ ∃ q, w' = w.drewN q := by
  by_cases hn : n ≤ 1
  · go_enter Try.func14, Try.ntmps14
    go_wp2
    go_ret
    exact ⟨⟨0, by omega, by omega, rfl⟩, 0, rfl⟩
  · by_cases hl : len = 0
    · subst hl
      clear hf
      have h1 : 0 ≤ i * 7 % n := Int.emod_nonneg _ (by omega)
      have h2 : i * 7 % n < n := Int.emod_lt_of_pos _ (by omega)
      have R := Lib.hid (show Under n (.returned (.int .i64 (i * 7 % n))) from ⟨_, h1, h2, rfl⟩)
      clear h1 h2
      go_enter Try.func14, Try.ntmps14
      go_wp2
      go_ret
      exact ⟨R.out, 0, rfl⟩
    · rcases hf with h | ⟨b, off, rfl, hlen, hB, hc⟩
      · exact absurd h hl
      · obtain ⟨j, rfl⟩ := Int.eq_ofNat_of_zero_le i0
        have m1 : j % len < len := Nat.mod_lt _ (by omega)
        have m2 : (j + 1) % len < len := Nat.mod_lt _ (by omega)
        obtain ⟨c1, v0, v1⟩ := hc _ m1
        obtain ⟨c2, u0, u1⟩ := hc _ m2
        generalize f (j % len) = v at *
        generalize f ((j + 1) % len) = u at *
        have hl0 : ((len : Int) == 0) = false := by simp; omega
        have q1 : (0 : Int) ≤ (j : Int) % len := Int.emod_nonneg _ (by omega)
        have q2 : (j : Int) % len < len := Int.emod_lt_of_pos _ (by omega)
        have q3 : (0 : Int) ≤ ((j : Int) + 1) % len := Int.emod_nonneg _ (by omega)
        have q4 : ((j : Int) + 1) % len < len := Int.emod_lt_of_pos _ (by omega)
        have q5 : (0 : Int) ≤ (j : Int) / len := Int.ediv_nonneg (by omega) (by omega)
        have q6 : (j : Int) / len ≤ 1000000000 := Int.le_trans (Int.ediv_le_self _ (by omega)) i1
        clear hc
        go_enter Try.func14, Try.ntmps14
        go_wp2
        go_quiet (fail)
        go_wp2
        go_ret
        exact ⟨Under.mod n0, nq, rfl⟩
end Go.Proofs.Ytfdekhhlkieekaa.At
