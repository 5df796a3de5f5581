/-
  The laws' own measure of slices of shards.
-/
import Derived.Test.YtmndkmkknkodhaaShardS
namespace Go.Proofs.Ytmndkmkknkodhaa.Sh
open Go.RowKit Go.Proofs.Ytmndkmkknkodhaa.Sg
set_option linter.unusedVariables false

set_option maxRecDepth 100000 in
theorem szShard (p : Int) (b : ByteArray) (left : Int) (l0 : 0 ≤ left) (l1 : left ≤ 2097152) (hz : b.size ≤ 9223372036854775807) (w : World) :
    Calls Try.prog 84 #[hval p b, .int .i64 left] w fun e w' => e = .returned (.int .i64 (if (b.size : Int) ≤ left then left - b.size else -1)) ∧ Below w.heap.size w w' := by
  by_cases h : (b.size : Int) ≤ left
  · rw [if_pos h]
    go_enter Try.func84, Try.ntmps84
    go_wp2
    go_ret
    exact ⟨rfl, lay _ _⟩
  · rw [if_neg h]
    go_enter Try.func84, Try.ntmps84
    go_wp2
    go_ret
    exact ⟨rfl, lay _ _⟩

set_option maxRecDepth 100000 in
theorem szShardS (a : Option Addr) (n cap : Nat) (f : Nat → Int) (S : Nat → ByteArray) (left : Int) (l0 : 0 ≤ left) (l1 : left ≤ 2097152) (w : World) (h : ShArg w a n f S) :
    Calls Try.prog 40 #[.slice a n cap, .int .i64 left] w fun e w' => e = .returned (.int .i64 (if (tot n S n : Int) ≤ left then left - tot n S n else -1)) ∧ Below w.heap.size w w' := by
  obtain ⟨hl, hs, hz⟩ := h
  have T0 : tot n S 0 = n := rfl
  by_cases h0 : (n : Int) ≤ left
  · have T0 := Lib.hid T0
    go_enter Try.func40, Try.ntmps40
    go_wp2
    go_loopw [1, 5] (fun x i wr => ∃ k : Nat, k ≤ n ∧ i = .int .i64 k ∧ (tot n S k : Int) ≤ left ∧ x = .int .i64 (left - tot n S k) ∧ Below w.heap.size w wr) (fun _ i _ => n - (intOf i).toNat)
    case atStart => exact ⟨0, by omega, rfl, by rw [T0.out]; exact h0, by rw [T0.out], Below.refl _ _⟩
    case round =>
      obtain ⟨k, hk, rfl, hle, rfl, hw⟩ := hrel
      have HW := Lib.hid hw
      by_cases hlt : k < n
      · have hs1 := hs.below hw
        obtain ⟨b, off, rfl, hB, hc⟩ := hs1.resolve_left (by omega)
        obtain ⟨c0, c1⟩ := hc k hlt
        have z := (hz k hlt).2
        have TS : tot n S (k + 1) = tot n S k + (S k).size := rfl
        have TS := Lib.hid TS
        have TM := Lib.hid (tot_mono n S (show k + 1 ≤ n by omega))
        have lk : left - (tot n S k : Int) ≤ 2097152 := by omega
        have lk0 : 0 ≤ left - (tot n S k : Int) := by omega
        have Z := szShard (f k) (S k) (left - tot n S k) lk0 lk z wr
        generalize f k = y at *
        generalize S k = s at *
        clear hc hs1 hw
        by_cases hq : ((tot n S k + s.size : Nat) : Int) ≤ left
        · rw [if_pos (by omega)] at Z
          have Z := Lib.hid Z
          go_wp2_with fail
          refine Z.out.mono ?_
          rintro e w2 ⟨rfl, b2⟩
          have B2 := Lib.hid (chain HW.out b2)
          clear b2
          go_wp2
          go_roundw
          case rel => exact ⟨k + 1, by omega, by go_num, by rw [TS.out]; exact hq, by rw [TS.out]; go_num, B2.out⟩
          case measure => simp [intOf]; omega
        · rw [if_neg (by omega)] at Z
          have Z := Lib.hid Z
          have R : (if (tot n S n : Int) ≤ left then left - tot n S n else -1) = -1 := by rw [if_neg]; have := TM.out; have := TS.out; omega
          have R := Lib.hid R
          go_wp2_with fail
          refine Z.out.mono ?_
          rintro e w2 ⟨rfl, b2⟩
          have B2 := Lib.hid (chain HW.out b2)
          clear b2
          go_wp2
          go_ret
          exact ⟨rfl, B2.out⟩
      · obtain rfl : k = n := by omega
        have R : (if (tot k S k : Int) ≤ left then left - tot k S k else -1) = left - tot k S k := if_pos hle
        have R := Lib.hid R
        clear hs hz hw
        go_wp2
        go_ret
        exact ⟨rfl, HW.out⟩
  · have R : (if (tot n S n : Int) ≤ left then left - tot n S n else -1) = -1 := by rw [if_neg]; have := tot_mono n S (Nat.zero_le n); omega
    rw [R]
    clear R hs hz
    go_enter Try.func40, Try.ntmps40
    go_wp2
    go_ret
    exact ⟨rfl, Below.refl _ _⟩
end Go.Proofs.Ytmndkmkknkodhaa.Sh
