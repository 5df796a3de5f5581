/-
  Slices of buckets compared by the laws' own helper.
-/
import Derived.Test.YtgfpngjfhmiphaaBkt4
namespace Go.Proofs.Ytgfpngjfhmiphaa.Bk
open Go.RowKit Go.Proofs.Ytgfpngjfhmiphaa.At Go.Proofs.Ytgfpngjfhmiphaa.MixC Go.Proofs.Ytgfpngjfhmiphaa.Ml
open Go.Proofs.Ytgfpngjfhmiphaa.It (lay)
set_option linter.unusedVariables false

theorem drewB {V w1 : World} (h : Below V.drew.heap.size V.drew w1) : Below V.heap.size V w1 := ⟨h.os, h.tape, h.output, h.size, h.block⟩
set_option maxRecDepth 100000 in
set_option maxHeartbeats 2000000 in
theorem eqBucketS (a b : Option Addr) (cap1 cap2 n : Nat) (f g : Nat → Int) (I1 I2 : Nat → Option Addr) (L : Nat → List Int) (C1 C2 : Nat → Nat) (w : World) (hl : n ≤ 2097152) (hL : ∀ i, i < n → (L i).length ≤ 2097152) (ha : Bks w a n f g I1 L C1) (hb : Bks w b n f g I2 L C2) :
    Calls Try.prog 52 #[.slice a n cap1, .slice b n cap2] w (TrueB w) := by
  go_enter Try.func52, Try.ntmps52
  go_wp2
  go_loopw [5] (fun i wr => ∃ k : Nat, k ≤ n ∧ i = .int .i64 k ∧ Below w.heap.size w wr) (fun i _ => n - (intOf i).toNat)
  case atStart => exact ⟨0, by omega, rfl, Below.refl _ _⟩
  case round =>
    obtain ⟨k, hk, rfl, hw⟩ := hrel
    by_cases hlt : k < n
    · have ha1 := ha.below hw
      have hb1 := hb.below hw
      obtain ⟨b1, o1, rfl, _, c1⟩ := ha1.resolve_left (by omega)
      obtain ⟨b2, o2, rfl, _, c2⟩ := hb1.resolve_left (by omega)
      obtain ⟨d0, d1, d2, wd⟩ := c1 k hlt
      obtain ⟨e0, e1, e2, we⟩ := c2 k hlt
      have T := Lib.hid (fun w' (x : Below wr.heap.size wr w') => eqBucket (f k) (g k) (I1 k) (I2 k) (C1 k) (C2 k) (L k) w' (hL k hlt) (wd.below x) (we.below x))
      have HW := Lib.hid hw
      generalize f k = x at *
      generalize g k = y at *
      generalize I1 k = i1 at *
      generalize I2 k = i2 at *
      generalize C1 k = k1 at *
      generalize C2 k = k2 at *
      generalize (L k).length = zs at *
      clear hw c1 c2 ha hb ha1 hb1 wd we
      go_wp2
      go_region_with (go_at_call 104; refine (T.out _ (drewB (Below.refl _ _))).mono ?_; rintro e w2 ⟨rfl, b2⟩; have B2 := Lib.hid (HW.out.trans ((drewB b2).mono HW.out.size)))
      all_goals
        go_wp2
        go_roundw
        case rel => exact ⟨k + 1, by omega, by go_num, B2.out⟩
        case measure => simp [intOf]; omega
    · obtain rfl : k = n := by omega
      have HW := Lib.hid hw
      clear hw
      go_wp2
      go_ret
      exact ⟨rfl, HW.out⟩
end Go.Proofs.Ytgfpngjfhmiphaa.Bk
