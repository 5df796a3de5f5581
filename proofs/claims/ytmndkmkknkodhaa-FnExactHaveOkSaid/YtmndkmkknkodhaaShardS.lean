/-
  The laws' own helpers on slices of shards.
-/
import Derived.Test.YtmndkmkknkodhaaShards
import Derived.Deep.RegionWith
import Derived.OwnWalk
import Derived.Laws.MakeOwn
namespace Go.Proofs.Ytmndkmkknkodhaa.Sh
open Go.RowKit Go.Proofs.Ytmndkmkknkodhaa.Sg
set_option linter.unusedVariables false

theorem infoH : (Try.prog.info? 117).map (fun i => (i.zero, i.size, i.bytes)) = some (some (.agg #[.int .i64 0, .string ⟨#[]⟩]), 2, 24) := by kernel_rfl

abbrev hval (p : Int) (b : ByteArray) : Value := .agg #[.int .i64 p, .string b]
def ValB (v : Value) (w : World) (e : Ending) (w' : World) : Prop := e = .returned v ∧ Below w.heap.size w w'
set_option maxRecDepth 100000 in
theorem toShard (p : Int) (b : ByteArray) (w : World) :
    Calls Try.prog 86 #[hval p b] w (ValB (hval p b) w) := by
  go_enter Try.func86, Try.ntmps86
  go_wp2
  exact bodyPost_ret (v := hval p b) (by simp [results, Try.results86, go_sem]) rfl ⟨rfl, (((Below.refl _ _).alloc (Nat.le_refl _) _).alloc (by simp) _).alloc (by simp; omega) _⟩

def SliceOfH (n : Nat) (f : Nat → Int) (S : Nat → ByteArray) (w : World) (e : Ending) (w' : World) : Prop := ∃ q, e = .returned (.slice (some ⟨q, 0, none⟩) n n) ∧ CopyH w w' q n f S

set_option maxRecDepth 100000 in
theorem toShardS (a : Option Addr) (cap n : Nat) (f : Nat → Int) (S : Nat → ByteArray) (w : World) (hl : n ≤ 2097152) (hc : Shs w a n f S) :
    Calls Try.prog 43 #[.slice a n cap] w (SliceOfH n f S w) := by
  obtain ⟨i0, hi, hz0, hz1, hz2⟩ := info_parts infoH
  go_enter Try.func43, Try.ntmps43
  go_wp2_with (at_make; refine wpList_make_full _ rfl _ _ 67 rfl w.heap.size 117 i0 (.agg #[.int .i64 0, .string ⟨#[]⟩]) 2 Try.underlying67 hi hz0 hz1 .i64 .i64 n n n rfl rfl rfl rfl (by rw [hz2]; omega) (by unfold maxLen; omega) (Nat.le_refl _) ?_; intro w1 hown1 hgrow1)
  have R1 := Rnd.made hown1 f S ((Below.refl _ _).grown hgrow1 (Nat.le_refl _) (by intro k hk; cases hk))
  clear hown1 hgrow1
  go_loopw [4] (fun i wr => ∃ k : Nat, k ≤ n ∧ i = .int .i64 k ∧ Rnd w wr w.heap.size n k f S) (fun i _ => n - (intOf i).toNat)
  case atStart => exact ⟨0, by omega, rfl, R1⟩
  case round =>
    obtain ⟨k, hk, rfl, R⟩ := hrel
    clear R1
    by_cases hlt : k < n
    · have hc1 := hc.below R.below
      obtain ⟨b, off, rfl, hB, hcc⟩ := hc1.resolve_left (by omega)
      obtain ⟨c0, c1⟩ := hcc k hlt
      have RH := Lib.hid R
      clear hcc hc hc1 R
      go_wp2_with fail
      refine (toShard _ _ _).mono ?_
      rintro e w2 ⟨rfl, b2⟩
      have R2 := RH.out.later b2
      obtain ⟨u0, d0⟩ := R2.there (k * 2) (by omega)
      obtain ⟨u1, d1⟩ := R2.there (k * 2 + 1) (by omega)
      have f0 := R2.free (k * 2)
      have f1 := R2.free (k * 2 + 1)
      have R3 := Lib.hid (R2.put hlt)
      clear R2 RH b2 c0 c1
      go_wp2
      go_roundw
      case rel => exact ⟨k + 1, by omega, by go_num, R3.out⟩
      case measure => simp [intOf]; omega
    · obtain rfl : k = n := by omega
      have F := Lib.hid (show SliceOfH k f S w (.returned (.slice (some ⟨w.heap.size, 0, none⟩) k k)) wr from ⟨_, rfl, R.done⟩)
      clear R
      go_wp2
      go_ret
      exact F.out


set_option maxRecDepth 100000 in
theorem eqShard (x : Int) (y : ByteArray) (w : World) :
    Calls Try.prog 96 #[hval x y, hval x y] w (TrueB w) := by
  go_enter Try.func96, Try.ntmps96
  go_wp2
  go_ret
  exact ⟨rfl, ((Below.refl _ _).alloc (Nat.le_refl _) _).alloc (by simp) _⟩


set_option maxRecDepth 100000 in
set_option maxHeartbeats 1000000 in
theorem eqShardS (a b : Option Addr) (cap1 cap2 n : Nat) (f : Nat → Int) (S : Nat → ByteArray) (w : World) (hl : n ≤ 2097152) (ha : Shs w a n f S) (hb : Shs w b n f S) :
    Calls Try.prog 45 #[.slice a n cap1, .slice b n cap2] w (TrueB w) := by
  go_enter Try.func45, Try.ntmps45
  go_wp2
  go_loopw [5] (fun i wr => ∃ k : Nat, k ≤ n ∧ i = .int .i64 k ∧ Below w.heap.size w wr) (fun i _ => n - (intOf i).toNat)
  case atStart => exact ⟨0, by omega, rfl, Below.refl _ _⟩
  case round =>
    obtain ⟨k, hk, rfl, hw⟩ := hrel
    by_cases hlt : k < n
    · have ha1 := ha.below hw
      have hb1 := hb.below hw
      obtain ⟨b1, o1, rfl, _, c1⟩ := ha1.resolve_left (by omega)
      obtain ⟨b2, o2, rfl, _, c2⟩ := hb1.resolve_left (by omega)
      obtain ⟨d0, d1⟩ := c1 k hlt
      obtain ⟨e0, e1⟩ := c2 k hlt
      have HW := Lib.hid hw
      generalize f k = x at *
      generalize S k = y at *
      clear hw c1 c2 ha hb ha1 hb1
      go_wp2
      go_region_with (go_at_call 96; refine (eqShard x y _).mono ?_; rintro e w2 ⟨rfl, b2⟩; have B2 := Lib.hid (HW.out.trans ((undrew b2).mono HW.out.size)))
      all_goals
        go_wp2
        go_roundw
        case rel => exact ⟨k + 1, by omega, by go_num, B2.out⟩
        case measure => simp [intOf]; omega
    · obtain rfl : k = n := by omega
      have HW := Lib.hid hw
      clear hw
      go_wp2
      go_ret
      exact ⟨rfl, HW.out⟩
end Go.Proofs.Ytmndkmkknkodhaa.Sh
