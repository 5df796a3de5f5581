/-
  Hexadecimal digits of a string: what the program's and the model's encoders return.
-/
import Derived.Test.YtbbenadihfhfmabFill
import Derived.Deep.RegionLaw
import Derived.Deep.AppendLies
namespace Go.Proofs.Ytbbenadihfhfmab.Hx
open Go.RowKit Go.Proofs.Ytbbenadihfhfmab.Bf
set_option linter.unusedVariables false

def hexd (d : Int) : Int := if d < 10 then 48 + d else 87 + d
def digits : ByteArray := ⟨#[48, 49, 50, 51, 52, 53, 54, 55, 56, 57, 97, 98, 99, 100, 101, 102]⟩
theorem digit_at (n : Nat) (hn : n < 16) (h : n < digits.size) : ((digits[n]'h).toNat : Int) = hexd (n : Int) := by
  have h16 : n = 0 ∨ n = 1 ∨ n = 2 ∨ n = 3 ∨ n = 4 ∨ n = 5 ∨ n = 6 ∨ n = 7 ∨ n = 8 ∨ n = 9 ∨ n = 10 ∨ n = 11 ∨ n = 12 ∨ n = 13 ∨ n = 14 ∨ n = 15 := by omega
  rcases h16 with rfl | rfl | rfl | rfl | rfl | rfl | rfl | rfl | rfl | rfl | rfl | rfl | rfl | rfl | rfl | rfl <;> rfl

theorem digit_of (d : Int) (h0 : 0 ≤ d) (h1 : d < 16) : ∀ h, ((((⟨#[48, 49, 50, 51, 52, 53, 54, 55, 56, 57, 97, 98, 99, 100, 101, 102]⟩ : ByteArray)[d.toNat]'h).toNat : Nat) : Int) = hexd d := by
  intro h
  have := digit_at d.toNat (by omega) h
  rw [Int.toNat_of_nonneg h0] at this
  exact this
def hexL (s : ByteArray) : Nat → List Int
  | 0 => []
  | k + 1 => hexL s k ++ [hexd (byteAt s k / 16), hexd (byteAt s k % 16)]
theorem hexL_len (s : ByteArray) : ∀ k, (hexL s k).length = 2 * k
  | 0 => rfl
  | k + 1 => by unfold hexL; rw [List.length_append, hexL_len s k]; simp; omega
def hexText (s : ByteArray) : ByteArray := strOfNums (hexL s s.size)
def Text (W0 : World) (s : ByteArray) (e : Ending) (w : World) : Prop := e = .returned (.string s) ∧ Below W0.heap.size W0 w

/-- The buffer after k rounds. -/
def Got (W0 wr : World) (v : Value) (s : ByteArray) (k : Nat) : Prop :=
  wr.ownsRow W0.heap.size 5 1 v (2 * k) ((hexL s k).map (Value.int .u8)) ∧ Below W0.heap.size W0 wr
theorem Got.buf {W0 wr : World} {v : Value} {s : ByteArray} {k : Nat} (h : Got W0 wr v s k) : Buf W0 wr v (hexL s k) := by
  refine ⟨?_, h.2, h.2.size⟩
  rw [hexL_len]
  exact World.ownsRowF_of h.1
theorem Got.next {W0 wr w1 : World} {v v' : Value} {s : ByteArray} {k : Nat} (h : Got W0 wr v s k) (o : Obj)
    (ho : w1.ownsRow W0.heap.size 5 1 v' (2 * k + 2) ((hexL s k).map (Value.int .u8) ++ [.int .u8 (hexd (byteAt s k / 16)), .int .u8 (hexd (byteAt s k % 16))]))
    (hg : (wr.alloc o).grownBy w1 v.ownBlock) : Got W0 w1 v' s (k + 1) := by
  refine ⟨by unfold hexL; rw [List.map_append]; exact ho, (h.2.alloc h.2.size o).grown hg (Nat.le_trans h.2.size (by simp)) (fun k hk => (h.1.lt k hk).1)⟩

set_option maxRecDepth 100000 in
set_option maxHeartbeats 2000000 in
theorem l01Hex (s : ByteArray) (hs : s.size ≤ 2097152) (w : World) :
    Calls Try.prog 37 #[.string s] w (Text w (hexText s)) := by
  obtain ⟨i0, hi, hz0, hz1, hz2⟩ := info_parts info1
  have B0 : Got w (w.alloc (.cells #[] 5)) (.slice (some ⟨w.heap.size, 0, none⟩) 0 0) s 0 := ⟨World.ownsRow_made _ _ _ (Nat.le_refl _) (by unfold maxLen; omega) (by simp), (Below.refl _ _).alloc (Nat.le_refl _) _⟩
  go_enter Try.func37, Try.ntmps37
  go_wp2
  go_loopw [3, 4] (fun v i wr => ∃ k : Nat, k ≤ s.size ∧ i = .int .i64 k ∧ Got w wr v s k) (fun _ i _ => s.size - (intOf i).toNat)
  case atStart => exact ⟨0, by omega, rfl, B0⟩
  case round =>
    obtain ⟨k, hk, rfl, hb⟩ := hrel
    clear B0
    by_cases hlt : k < s.size
    · have X := byteAt_at hlt
      have L := byteAt_lt s k
      rw [X] at L
      have X := Lib.hid X
      have b0 : (0 : Int) ≤ (k : Int) := by omega
      have b1 : (k : Int) < (s.size : Int) := by omega
      have v1 : IntKind.u8.wrap (((s[k]'hlt).toNat : Int) / 16) = ((s[k]'hlt).toNat : Int) / 16 := by rw [IntKind.wrap_u8]; omega
      have v2 : ((s[k]'hlt).toNat : Int) / 16 < 16 := by omega
      have v3 : (0 : Int) ≤ ((s[k]'hlt).toNat : Int) / 16 := by omega
      have v4 : ((s[k]'hlt).toNat : Int) % 16 < 16 := by omega
      have v5 : (0 : Int) ≤ ((s[k]'hlt).toNat : Int) % 16 := by omega
      have vm : ((s[k]'hlt).toNat : Int).tmod 16 = ((s[k]'hlt).toNat : Int) % 16 := Int.tmod_eq_emod_of_nonneg (by omega)
      have d1 := digit_of (((s[k]'hlt).toNat : Int) / 16) v3 v2
      have d2 := digit_of (((s[k]'hlt).toNat : Int) % 16) v5 v4
      have hown := hb.1
      have hsz := hb.2.size
      go_wp2
      go_region_law (refine step_append_lies _ rfl (.tmp 12) (.tmp 23) 40 rfl w.heap.size 5 i0 (.int .u8 0) 1 1 Try.underlying40 hi hz0 hz1 hz2 rfl (by decide) u3 (2 * k) ((hexL s k).map (Value.int .u8)) rfl (hown.alloc _) ⟨wr.heap.size, 0, none⟩ 2 2 [.int .u8 (hexd (((s[k]'hlt).toNat : Int) / 16)), .int .u8 (hexd (((s[k]'hlt).toNat : Int) % 16))] rfl rfl (by intro j u hu; match j, hu with | 0, hu => (simp at hu; subst hu; simp [Addr.add]) | 1, hu => (simp at hu; subst hu; simp [Addr.add]) | (j + 2), hu => simp at hu) (by intro u hu; simp at hu; rcases hu with rfl | rfl <;> rfl) (by omega) (by unfold maxLen; omega) (by omega) (by simp; omega) _ rfl ?_; intro g cap w1 ho1 hg1 _ _)
      all_goals
        rw [← X.out] at ho1 hg1
        have N := hb.next (.cells #[.int .u8 (hexd (byteAt s k / 16)), .int .u8 (hexd (byteAt s k % 16))] 5) ho1 ⟨hg1.os, hg1.tape, hg1.output, hg1.size, hg1.block⟩
        clear ho1 hg1 hown hb
        go_wp2
        go_roundw
        case rel => exact ⟨k + 1, by omega, by go_num, N⟩
        case measure => simp [intOf]; omega
    · obtain rfl : k = s.size := by omega
      have hcv := hb.buf.conv
      have F : Text w (hexText s) (.returned (.string (strOfNums (hexL s s.size)))) wr := ⟨rfl, hb.2⟩
      have F := Lib.hid F
      clear hb
      go_wp2
      go_ret
      exact F.out
set_option maxRecDepth 100000 in
set_option maxHeartbeats 2000000 in
theorem implPutHex (s : ByteArray) (hs : s.size ≤ 2097152) (w : World) :
    Calls Try.prog 17 #[.string s] w (Text w (hexText s)) := by
  obtain ⟨i0, hi, hz0, hz1, hz2⟩ := info_parts info1
  go_enter Try.func17, Try.ntmps17
  go_wp2_with (at_make; refine wpList_make_own _ rfl _ _ 40 rfl w.heap.size 5 i0 (.int .u8 0) 1 Try.underlying40 hi hz0 hz1 .i64 .i64 (2 * (s.size : Int)) (2 * s.size) rfl rfl (by omega) (by rw [hz2]; omega) (by unfold maxLen; omega) (Nat.le_refl _) ?_; intro w1 hown1 hgrow1)
  have B0 : Got w w1 (.slice (some ⟨w.heap.size, 0, none⟩) 0 (2 * s.size)) s 0 := ⟨hown1, (Below.refl _ _).grown hgrow1 (Nat.le_refl _) (by intro k hk; cases hk)⟩
  clear hown1 hgrow1
  go_loopw [3, 11] (fun v i wr => ∃ k : Nat, k ≤ s.size ∧ i = .int .i64 k ∧ Got w wr v s k) (fun _ i _ => s.size - (intOf i).toNat)
  case atStart => exact ⟨0, by omega, rfl, B0⟩
  case round =>
    obtain ⟨k, hk, rfl, hb⟩ := hrel
    clear B0
    by_cases hlt : k < s.size
    · have X := byteAt_at hlt
      have L := byteAt_lt s k
      rw [X] at L
      have X := Lib.hid X
      have b0 : (0 : Int) ≤ (k : Int) := by omega
      have b1 : (k : Int) < (s.size : Int) := by omega
      have v1 : IntKind.u8.wrap (((s[k]'hlt).toNat : Int) / 16) = ((s[k]'hlt).toNat : Int) / 16 := by rw [IntKind.wrap_u8]; omega
      have v2 : ((s[k]'hlt).toNat : Int) / 16 < 16 := by omega
      have v3 : (0 : Int) ≤ ((s[k]'hlt).toNat : Int) / 16 := by omega
      have v4 : ((s[k]'hlt).toNat : Int) % 16 < 16 := by omega
      have v5 : (0 : Int) ≤ ((s[k]'hlt).toNat : Int) % 16 := by omega
      have vm : ((s[k]'hlt).toNat : Int).tmod 16 = ((s[k]'hlt).toNat : Int) % 16 := Int.tmod_eq_emod_of_nonneg (by omega)
      have d1 := digit_of (((s[k]'hlt).toNat : Int) / 16) v3 v2
      have d2 := digit_of (((s[k]'hlt).toNat : Int) % 16) v5 v4
      have hown := hb.1
      have hsz := hb.2.size
      go_wp2
      go_region_law (refine step_append_lies _ rfl (.tmp 14) (.tmp 25) 40 rfl w.heap.size 5 i0 (.int .u8 0) 1 1 Try.underlying40 hi hz0 hz1 hz2 rfl (by decide) u3 (2 * k) ((hexL s k).map (Value.int .u8)) rfl (hown.alloc _) ⟨wr.heap.size, 0, none⟩ 2 2 [.int .u8 (hexd (((s[k]'hlt).toNat : Int) / 16)), .int .u8 (hexd (((s[k]'hlt).toNat : Int) % 16))] rfl rfl (by intro j u hu; match j, hu with | 0, hu => (simp at hu; subst hu; simp [Addr.add]) | 1, hu => (simp at hu; subst hu; simp [Addr.add]) | (j + 2), hu => simp at hu) (by intro u hu; simp at hu; rcases hu with rfl | rfl <;> rfl) (by omega) (by unfold maxLen; omega) (by omega) (by simp; omega) _ rfl ?_; intro g cap w1 ho1 hg1 _ _)
      all_goals
        rw [← X.out] at ho1 hg1
        have N := hb.next (.cells #[.int .u8 (hexd (byteAt s k / 16)), .int .u8 (hexd (byteAt s k % 16))] 5) ho1 ⟨hg1.os, hg1.tape, hg1.output, hg1.size, hg1.block⟩
        clear ho1 hg1 hown hb
        go_wp2
        go_roundw
        case rel => exact ⟨k + 1, by omega, by go_num, N⟩
        case measure => simp [intOf]; omega
    · obtain rfl : k = s.size := by omega
      have hcv := hb.buf.conv
      have F : Text w (hexText s) (.returned (.string (strOfNums (hexL s s.size)))) wr := ⟨rfl, hb.2⟩
      have F := Lib.hid F
      clear hb
      go_wp2
      go_ret
      exact F.out
end Go.Proofs.Ytbbenadihfhfmab.Hx
