/-
  The bytewise sum of two strings: what the program's and the model's functions return.
-/
import Derived.Test.YtbbenadihfhfmabFill
import Derived.StillTailTactics
import Derived.Deep.RegionLaw
import Derived.Deep.AppendLies
namespace Go.Proofs.Ytbbenadihfhfmab.Sm
open Go.RowKit Go.Proofs.Ytbbenadihfhfmab.Bf
set_option linter.unusedVariables false

def xo (s t : ByteArray) (i : Nat) : Int := bits .xor .u8 (byteAt s i) (byteAt t i)
def sumText (s t : ByteArray) : ByteArray := strOfNums ((List.range s.size).map (xo s t))
def Text (W0 : World) (s : ByteArray) (e : Ending) (w : World) : Prop := e = .returned (.string s) ∧ Below W0.heap.size W0 w
theorem snoc {W0 w' : World} {v' : Value} {acc : List Int} {c : Int} (h : Lib.OwnBuf W0.heap.size 5 v' (acc.length + 1) (acc.map (Value.int .u8) ++ [.int .u8 c]) W0 w') : Buf W0 w' v' (acc ++ [c]) := by
  unfold Buf; rw [List.length_append, List.map_append]; exact h

/-- The model's buffer after k rounds. -/
def Got (W0 wr : World) (v : Value) (s t : ByteArray) (k : Nat) : Prop :=
  wr.ownsRow W0.heap.size 5 1 v k (((List.range k).map (xo s t)).map (Value.int .u8)) ∧ Below W0.heap.size W0 wr
theorem Got.buf {W0 wr : World} {v : Value} {s t : ByteArray} {k : Nat} (h : Got W0 wr v s t k) : Buf W0 wr v ((List.range k).map (xo s t)) := by
  refine ⟨?_, h.2, h.2.size⟩
  rw [show ((List.range k).map (xo s t)).length = k from by simp]
  exact World.ownsRowF_of h.1
theorem Got.next {W0 wr w1 : World} {v v' : Value} {s t : ByteArray} {k : Nat} (h : Got W0 wr v s t k) (o : Obj) (ho : w1.ownsRow W0.heap.size 5 1 v' (k + 1) (((List.range k).map (xo s t)).map (Value.int .u8) ++ [.int .u8 (xo s t k)]))
    (hg : (wr.alloc o).grownBy w1 v.ownBlock) : Got W0 w1 v' s t (k + 1) := by
  refine ⟨by rw [range_snoc, List.map_append]; exact ho, (h.2.alloc h.2.size o).grown hg (Nat.le_trans h.2.size (by simp)) (fun k hk => (h.1.lt k hk).1)⟩

set_option maxRecDepth 100000 in
set_option maxHeartbeats 1000000 in
theorem l02Sum (s t : ByteArray) (hs : s.size ≤ 2097152) (ht : t.size = s.size) (w : World) :
    Calls Try.prog 51 #[.string s, .string t] w (Text w (sumText s t)) := by
  obtain ⟨i0, hi, hz0, hz1, hz2⟩ := info_parts info1
  have B0 : Got w (w.alloc (.cells #[] 5)) (.slice (some ⟨w.heap.size, 0, none⟩) 0 0) s t 0 := ⟨World.ownsRow_made _ _ _ (Nat.le_refl _) (by unfold maxLen; omega) (by simp), (Below.refl _ _).alloc (Nat.le_refl _) _⟩
  have HT := Lib.hid ht
  clear ht
  go_enter Try.func51, Try.ntmps51
  go_wp2
  go_loopw [5, 6] (fun v i wr => ∃ k : Nat, k ≤ s.size ∧ i = .int .i64 k ∧ Got w wr v s t k) (fun _ i _ => s.size - (intOf i).toNat)
  case atStart => exact ⟨0, by omega, rfl, B0⟩
  case round =>
    obtain ⟨k, hk, rfl, hb⟩ := hrel
    clear B0
    by_cases hlt : k < s.size
    · have hlt2 : k < t.size := by rw [HT.out]; exact hlt
      have X : bits .xor .u8 ((s[k]'hlt).toNat : Int) ((t[k]'hlt2).toNat : Int) = xo s t k := by unfold xo; rw [byteAt_at hlt, byteAt_at hlt2]
      have b0 : (0 : Int) ≤ (k : Int) := by omega
      have b1 : (k : Int) < (s.size : Int) := by omega
      have b2 : (k : Int) < (t.size : Int) := by omega
      have hown := hb.1
      have hsz := hb.2.size
      go_wp2
      go_region_law (refine step_append_lies _ rfl (.tmp 14) (.tmp 22) 40 rfl w.heap.size 5 i0 (.int .u8 0) 1 1 Try.underlying40 hi hz0 hz1 hz2 rfl (by decide) u5 k (((List.range k).map (xo s t)).map (Value.int .u8)) rfl (hown.alloc _) ⟨wr.heap.size, 0, none⟩ 1 1 [.int .u8 (xo s t k)] rfl rfl (cell_one_new _ _ _) (by intro u hu; simp at hu; subst hu; rfl) (by omega) (by unfold maxLen; omega) (by omega) (by simp; omega) _ rfl ?_; intro g cap w1 ho1 hg1 _ _)
      all_goals
        have N := hb.next (.cells #[.int .u8 (xo s t k)] 5) ho1 ⟨hg1.os, hg1.tape, hg1.output, hg1.size, hg1.block⟩
        clear ho1 hg1 hown hb
        go_wp2
        go_roundw
        case rel => exact ⟨k + 1, by omega, by go_num, N⟩
        case measure => simp [intOf]; omega
    · obtain rfl : k = s.size := by omega
      have hcv := hb.buf.conv
      have F : Text w (sumText s t) (.returned (.string (strOfNums ((List.range s.size).map (xo s t))))) wr := ⟨rfl, hb.2⟩
      have F := Lib.hid F
      clear hb
      go_wp2
      go_ret
      exact F.out

set_option maxRecDepth 100000 in
theorem implGfSum (s t : ByteArray) (hs : s.size ≤ 2097152) (ht : t.size = s.size) (w : World) :
    Calls Try.prog 35 #[.string s, .string t] w fun e w' => e = .returned (.tuple #[.string (sumText s t), .int .i64 0]) ∧ Below w.heap.size w w' := by
  obtain ⟨i0, hi, hz0, hz1, hz2⟩ := info_parts info1
  have q : ((s.size : Int) != (t.size : Int)) = false := by rw [ht]; simp
  have HT := Lib.hid ht
  clear ht
  go_enter Try.func35, Try.ntmps35
  go_wp2_with (at_make; refine wpList_make_full _ rfl _ _ 40 rfl w.heap.size 5 i0 (.int .u8 0) 1 Try.underlying40 hi hz0 hz1 .i64 .i64 s.size s.size s.size rfl rfl rfl rfl (by rw [hz2]; omega) (by unfold maxLen; omega) (Nat.le_refl _) ?_; intro w1 hown1 hgrow1)
  have R1 : Fill w w1 w.heap.size s.size (xo s t) 0 := ⟨_, hown1, fun j hj => absurd hj (Nat.not_lt_zero _), (Below.refl _ _).grown hgrow1 (Nat.le_refl _) (by intro k hk; cases hk), Nat.le_refl _⟩
  clear hown1 hgrow1
  go_loopw [18] (fun i wr => ∃ k : Nat, k ≤ s.size ∧ i = .int .i64 k ∧ Fill w wr w.heap.size s.size (xo s t) k) (fun i _ => s.size - (intOf i).toNat)
  case atStart => exact ⟨0, by omega, rfl, R1⟩
  case round =>
    obtain ⟨k, hk, rfl, R⟩ := hrel
    clear R1
    by_cases hlt : k < s.size
    · have hlt2 : k < t.size := by rw [HT.out]; exact hlt
      have X : bits .xor .u8 ((s[k]'hlt).toNat : Int) ((t[k]'hlt2).toNat : Int) = xo s t k := by unfold xo; rw [byteAt_at hlt, byteAt_at hlt2]
      have b0 : (0 : Int) ≤ (k : Int) := by omega
      have b1 : (k : Int) < (s.size : Int) := by omega
      have b2 : (k : Int) < (t.size : Int) := by omega
      have R' : Fill w (wr.drewN 1) w.heap.size s.size (xo s t) k := by obtain ⟨xs, h1, h2, h3, h4⟩ := R; exact ⟨xs, h1, h2, below_drewN h3 1, h4⟩
      obtain ⟨u, d⟩ := R'.cell hlt
      have f := R'.free k
      have R2 := R'.put hlt
      clear R R'
      go_wp2
      go_still_tail 10, (by kernel_rfl)
      change wpList _ _ _ _ _ (wr.drewN 1)
      generalize wr.drewN 1 = w2 at *
      go_wp2
      go_roundw
      case rel => exact ⟨k + 1, by omega, by go_num, R2⟩
      case measure => simp [intOf]; omega
    · obtain rfl : k = s.size := by omega
      have hd := R.done
      have hcv := hd.conv
      have F := Lib.hid hd.below
      have E := Lib.hid (show sumText s t = strOfNums ((List.range s.size).map (xo s t)) from rfl)
      clear hd R
      go_wp2
      go_ret2
      exact ⟨by rw [E.out]; rfl, F.out⟩
end Go.Proofs.Ytbbenadihfhfmab.Sm
