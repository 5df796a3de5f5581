/-
  The laws' own helpers on slices of devices.
-/
import Derived.Test.YtigaoimnhebegaaItemS
namespace Go.Proofs.Ytigaoimnhebegaa.Rc
open Go.RowKit Go.Proofs.Ytigaoimnhebegaa.It
set_option linter.unusedVariables false

theorem infoD : (Try.prog.info? 106).map (fun i => (i.zero, i.size, i.bytes)) = some (some (.agg #[.int .i64 0, .int .i64 0]), 2, 16) := by kernel_rfl

set_option maxRecDepth 100000 in
theorem toDevice (id wt : Int) (w : World) :
    Calls Try.prog 123 #[ival id wt] w (ValB (ival id wt) w) := by
  go_enter Try.func123, Try.ntmps123
  go_wp2
  exact bodyPost_ret (v := ival id wt) (by simp [results, Try.results123, go_sem]) rfl ⟨rfl, (((Below.refl _ _).alloc (Nat.le_refl _) _).alloc (by simp) _).alloc (by simp; omega) _⟩

theorem szDeviceS (a : Option Addr) (len cap : Nat) (left : Int) (hl : len ≤ 9223372036854775807) (l0 : 0 ≤ left) (l1 : left ≤ 2097152) (w : World) :
    Calls Try.prog 52 #[.slice a len cap, .int .i64 left] w fun e w' => e = .returned (.int .i64 (if (len : Int) ≤ left then left - len else -1)) ∧ w = w' := by
  by_cases h : (len : Int) ≤ left
  · rw [if_pos h]
    go_enter Try.func52, Try.ntmps52
    go_wp2
    go_ret
    exact ⟨rfl, rfl⟩
  · rw [if_neg h]
    go_enter Try.func52, Try.ntmps52
    go_wp2
    go_ret
    exact ⟨rfl, rfl⟩


set_option maxRecDepth 100000 in
theorem toDeviceS (a : Option Addr) (cap n : Nat) (f g : Nat → Int) (w : World) (hl : n ≤ 2097152) (hc : Recs w a n f g) :
    Calls Try.prog 56 #[.slice a n cap] w (SliceOf2 n f g w) := by
  obtain ⟨i0, hi, hz0, hz1, hz2⟩ := info_parts infoD
  go_enter Try.func56, Try.ntmps56
  go_wp2_with (at_make; refine wpList_make_full _ rfl _ _ 30 rfl w.heap.size 106 i0 (.agg #[.int .i64 0, .int .i64 0]) 2 Try.underlying30 hi hz0 hz1 .i64 .i64 n n n rfl rfl rfl rfl (by rw [hz2]; omega) (by unfold maxLen; omega) (Nat.le_refl _) ?_; intro w1 hown1 hgrow1)
  have R1 := Rnd.made hown1 f g ((Below.refl _ _).grown hgrow1 (Nat.le_refl _) (by intro k hk; cases hk))
  clear hown1 hgrow1
  go_loopw [4] (fun i wr => ∃ k : Nat, k ≤ n ∧ i = .int .i64 k ∧ Rnd w wr w.heap.size n k f g) (fun i _ => n - (intOf i).toNat)
  case atStart => exact ⟨0, by omega, rfl, R1⟩
  case round =>
    obtain ⟨k, hk, rfl, R⟩ := hrel
    clear R1
    by_cases hlt : k < n
    · have hc1 := hc.below R.below
      obtain ⟨b, off, rfl, hB, hcc⟩ := hc1.resolve_left (by omega)
      obtain ⟨c0, c1⟩ := hcc k hlt
      have RH := Lib.hid R
      clear hcc hc hc1 R
      go_wp2_with fail
      refine (toDevice _ _ _).mono ?_
      rintro e w2 ⟨rfl, b2⟩
      have R2 := RH.out.later b2
      obtain ⟨u0, d0⟩ := R2.there (k * 2) (by omega)
      obtain ⟨u1, d1⟩ := R2.there (k * 2 + 1) (by omega)
      have f0 := R2.free (k * 2)
      have f1 := R2.free (k * 2 + 1)
      have R3 := Lib.hid (R2.put hlt)
      clear R2 RH b2 c0 c1
      go_wp2
      go_roundw
      case rel => exact ⟨k + 1, by omega, by go_num, R3.out⟩
      case measure => simp [intOf]; omega
    · obtain rfl : k = n := by omega
      have F := Lib.hid (show SliceOf2 k f g w (.returned (.slice (some ⟨w.heap.size, 0, none⟩) k k)) wr from ⟨_, rfl, R.done⟩)
      clear R
      go_wp2
      go_ret
      exact F.out


set_option maxRecDepth 100000 in
theorem eqDevice (x y : Int) (w : World) :
    Calls Try.prog 127 #[ival x y, ival x y] w (TrueB w) := by
  go_enter Try.func127, Try.ntmps127
  go_wp2
  go_ret
  exact ⟨rfl, ((Below.refl _ _).alloc (Nat.le_refl _) _).alloc (by simp) _⟩


set_option maxRecDepth 100000 in
set_option maxHeartbeats 1000000 in
theorem eqDeviceS (a b : Option Addr) (cap1 cap2 n : Nat) (f g : Nat → Int) (w : World) (hl : n ≤ 2097152) (ha : Recs w a n f g) (hb : Recs w b n f g) :
    Calls Try.prog 59 #[.slice a n cap1, .slice b n cap2] w (TrueB w) := by
  go_enter Try.func59, Try.ntmps59
  go_wp2
  go_loopw [5] (fun i wr => ∃ k : Nat, k ≤ n ∧ i = .int .i64 k ∧ Below w.heap.size w wr) (fun i _ => n - (intOf i).toNat)
  case atStart => exact ⟨0, by omega, rfl, Below.refl _ _⟩
  case round =>
    obtain ⟨k, hk, rfl, hw⟩ := hrel
    by_cases hlt : k < n
    · have ha1 := ha.below hw
      have hb1 := hb.below hw
      obtain ⟨b1, o1, rfl, _, c1⟩ := ha1.resolve_left (by omega)
      obtain ⟨b2, o2, rfl, _, c2⟩ := hb1.resolve_left (by omega)
      obtain ⟨d0, d1⟩ := c1 k hlt
      obtain ⟨e0, e1⟩ := c2 k hlt
      have HW := Lib.hid hw
      generalize f k = x at *
      generalize g k = y at *
      clear hw c1 c2 ha hb ha1 hb1
      go_wp2
      go_region_with (go_at_call 127; refine (eqDevice x y _).mono ?_; rintro e w2 ⟨rfl, b2⟩; have B2 := Lib.hid (HW.out.trans ((undrew b2).mono HW.out.size)))
      all_goals
        go_wp2
        go_roundw
        case rel => exact ⟨k + 1, by omega, by go_num, B2.out⟩
        case measure => simp [intOf]; omega
    · obtain rfl : k = n := by omega
      have HW := Lib.hid hw
      clear hw
      go_wp2
      go_ret
      exact ⟨rfl, HW.out⟩
end Go.Proofs.Ytigaoimnhebegaa.Rc
