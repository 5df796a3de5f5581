/-
  Slices of buckets copied by the laws' own helper: the walk.
-/
import Derived.Test.YtgfpngjfhmiphaaBkt3
namespace Go.Proofs.Ytgfpngjfhmiphaa.Bk
open Go.RowKit Go.Proofs.Ytgfpngjfhmiphaa.At Go.Proofs.Ytgfpngjfhmiphaa.MixC Go.Proofs.Ytgfpngjfhmiphaa.Ml
open Go.Proofs.Ytgfpngjfhmiphaa.It (lay)
set_option linter.unusedVariables false

set_option maxRecDepth 100000 in
theorem toBucketS (a : Option Addr) (cap n : Nat) (f g : Nat → Int) (I : Nat → Option Addr) (L : Nat → List Int) (C : Nat → Nat) (w : World) (hl : n ≤ 2097152) (hL : ∀ i, i < n → (L i).length ≤ 2097152) (hc : Bks w a n f g I L C) :
    Calls Try.prog 47 #[.slice a n cap] w (SliceOfB n f g L w) := by
  obtain ⟨i0, hi, hz0, hz1, hz2⟩ := info_parts infoB
  go_enter Try.func47, Try.ntmps47
  go_wp2_with (at_make; refine wpList_make_full _ rfl _ _ 31 rfl w.heap.size 133 i0 (.agg #[.int .i64 0, .int .i64 0, .slice none 0 0]) 3 Try.underlying31 hi hz0 hz1 .i64 .i64 n n n rfl rfl rfl rfl (by rw [hz2]; omega) (by unfold maxLen; omega) (Nat.le_refl _) ?_; intro w1 hown1 hgrow1)
  have R1 := RndB.made hown1 f g L ((Below.refl _ _).grown hgrow1 (Nat.le_refl _) (by intro k hk; cases hk))
  clear hown1 hgrow1
  go_loopw [4] (fun i wr => ∃ (k : Nat) (J : Nat → Nat), k ≤ n ∧ i = .int .i64 k ∧ RndB w wr w.heap.size n k f g L J) (fun i _ => n - (intOf i).toNat)
  case atStart => exact ⟨0, _, by omega, rfl, R1⟩
  case round =>
    obtain ⟨k, J, hk, rfl, R⟩ := hrel
    clear R1
    by_cases hlt : k < n
    · have hc1 := hc.below R.below
      obtain ⟨b, off, rfl, hB, hcc⟩ := hc1.resolve_left (by omega)
      obtain ⟨c0, c1, c2, wd⟩ := hcc k hlt
      have T := Lib.hid (toBucket (f k) (g k) (I k) (C k) (L k) wr (hL k hlt) wd)
      have RH := Lib.hid R
      have PUT := Lib.hid (fun w2 j (b2 : Below wr.heap.size wr w2) (x : wr.heap.size ≤ j) (y : j < w2.heap.size) (z : Words w2 (some ⟨j, 0, none⟩) (L k)) (fz : ∀ o, w2.frozen? ⟨j, o, none⟩ = false) => (RH.out.later b2).put hlt (fun i hi => Nat.lt_of_lt_of_le (RH.out.cells i hi).2.2.2.2.1 x) (Nat.lt_of_lt_of_le RH.out.lt x) y z fz)
      clear hcc hc hc1 R wd
      generalize f k = x at *
      generalize g k = y at *
      generalize L k = zs at *
      generalize I k = ik at *
      generalize C k = ck at *
      go_wp2_with fail
      refine T.out.mono ?_
      rintro e w2 ⟨j, rfl, K⟩
      have R2 := RH.out.later K.below
      obtain ⟨u0, d0⟩ := R2.there (k * 3) (by omega)
      obtain ⟨u1, d1⟩ := R2.there (k * 3 + 1) (by omega)
      obtain ⟨u2, d2⟩ := R2.there (k * 3 + 2) (by omega)
      have f0 := R2.free (k * 3)
      have f1 := R2.free (k * 3 + 1)
      have f2 := R2.free (k * 3 + 2)
      have R3 := Lib.hid (PUT.out w2 j K.below K.new K.lt K.words K.free)
      clear R2 RH K c0 c1 c2 PUT
      go_wp2
      go_roundw
      case rel => exact ⟨k + 1, _, by omega, by go_num, R3.out⟩
      case measure => simp [intOf]; omega
    · obtain rfl : k = n := by omega
      have F := Lib.hid (show SliceOfB k f g L w (.returned (.slice (some ⟨w.heap.size, 0, none⟩) k k)) wr from ⟨_, _, rfl, R⟩)
      clear R
      go_wp2
      go_ret
      exact F.out
end Go.Proofs.Ytgfpngjfhmiphaa.Bk
