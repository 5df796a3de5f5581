/-
  The hash of a list of words: what the program's and the model's functions return, as plain numbers.
-/
import Derived.Test.YtpmmcoggpijgmaaDoorBits
import Derived.Test.YtpmmcoggpijgmaaDoorMixMath
import Derived.Test.YtpmmcoggpijgmaaDoorNums
import Derived.Test.YtpmmcoggpijgmaaDoorProg
import Derived.WalkKit
import Derived.Outline
import Derived.BigQuiet
import Derived.Deep.QuietTactic
import Derived.Handy
import Derived.WalkSmall
import Derived.Lib.Hide
namespace Go.Proofs.YtpmmcoggpijgmaaDoor.MixC
open Go.RowKit
theorem ret_int {k : IntKind} {a b : Int} (h : a = b) : Ending.returned (.int k a) = .returned (.int k b) := by rw [h]


def mixAt (zs : List Int) (k : Nat) : Int := ((Mx.mix (zs.take k) : Nat) : Int)
theorem mixAt_lt (zs : List Int) (k : Nat) : 0 ≤ mixAt zs k ∧ mixAt zs k ≤ 4294967295 := by
  unfold mixAt; have := Mx.mix_lt (zs.take k); omega
theorem mixAt_succ {zs : List Int} {k : Nat} (hk : k < zs.length) : mixAt zs (k + 1) = ((Mx.step (mixAt zs k).toNat (Mx.low (zs.getD k 0)) : Nat) : Int) := by
  unfold mixAt
  rw [Int.toNat_natCast, List.take_succ_eq_append_getElem hk, Mx.mix_snoc, List.getD_eq_getElem?_getD, List.getElem?_eq_getElem hk]; rfl

def uA (h x : Int) : Int := bits .xor .u32 h (x % 4294967296)
def uB (a : Int) : Int := a * 16777619 % 4294967296
def uC (b : Int) : Int := bits .xor .u32 b (b / 32768)
def uD (c : Int) : Int := c * 1540483477 % 4294967296
def uE (d : Int) : Int := bits .xor .u32 d (d / 8192)
theorem uA_eq {h x : Int} (h0 : 0 ≤ h) (h1 : h ≤ 4294967295) : uA h x = ((h.toNat ^^^ Mx.low x : Nat) : Int) := by
  unfold uA Mx.low; rw [u32_xor h _ h0 (by omega) (by omega) (by omega)]
theorem uB_eq (a : Nat) : uB (a : Int) = ((a * 16777619 % 4294967296 : Nat) : Int) := by unfold uB; omega
theorem uC_eq {b : Nat} (h : b < 4294967296) : uC (b : Int) = ((Mx.b1 b : Nat) : Int) := by
  unfold uC Mx.b1; rw [show ((b : Int) / 32768) = ((b / 32768 : Nat) : Int) from by omega, u32_xor_nat b _ h (by omega)]
theorem uD_eq (c : Nat) : uD (c : Int) = ((Mx.c1 c : Nat) : Int) := by unfold uD Mx.c1; omega
theorem uE_eq {d : Nat} (h : d < 4294967296) : uE (d : Int) = ((Mx.d1 d : Nat) : Int) := by
  unfold uE Mx.d1; rw [show ((d : Int) / 8192) = ((d / 8192 : Nat) : Int) from by omega, u32_xor_nat d _ h (by omega)]
theorem stepU_eq {h x : Int} (h0 : 0 ≤ h) (h1 : h ≤ 4294967295) : uE (uD (uC (uB (uA h x)))) = ((Mx.step h.toNat (Mx.low x) : Nat) : Int) := by
  rw [uA_eq h0 h1, uB_eq, uC_eq (Nat.mod_lt _ (by decide)), uD_eq, uE_eq (Mx.c1_lt _)]; unfold Mx.step Mx.a1; rfl
theorem val_int {k : IntKind} {a b : Int} (h : a = b) : Value.int k a = .int k b := by rw [h]

set_option maxRecDepth 100000 in
theorem implMix (b off cap : Nat) (zs : List Int) (w : World) (hl : zs.length ≤ 2097152) (hc : Nums w b off zs) :
    Calls Tryd.prog 23 #[.slice (some ⟨b, off, none⟩) zs.length cap] w fun e w' => e = .returned (.int .i64 ((Mx.mix zs : Nat) : Int)) ∧ w = w' := by
  obtain ⟨n, hn⟩ : ∃ n, n = zs.length := ⟨_, rfl⟩
  rw [← hn] at hl ⊢
  have HN := Lib.hid hn
  clear hn
  go_enter Tryd.func23, Tryd.ntmps23
  go_wp2
  go_loop [3, 8] (fun h i => ∃ k : Nat, k ≤ n ∧ i = .int .i64 k ∧ h = .int .u32 (mixAt zs k)) (fun _ i => n - (intOf i).toNat)
  case atStart => exact ⟨0, by omega, rfl, rfl⟩
  case round =>
    obtain ⟨k, hk, rfl, rfl⟩ := hrel
    have M := mixAt_lt zs k
    by_cases hlt : k < n
    · have c := hc k (by rw [← HN.out]; exact hlt)
      have S := Lib.hid (mixAt_succ (zs := zs) (k := k) (by rw [← HN.out]; exact hlt))
      generalize mixAt zs k = h at *
      generalize zs.getD k 0 = x at *
      clear hc
      have E := Lib.hid ((stepU_eq (x := x) M.1 M.2).trans S.out.symm)
      unfold uA uB uC uD uE at E
      go_wp2
      go_round
      case rel => exact ⟨k + 1, by omega, by go_num, val_int E.out⟩
      case measure => simp [intOf]; omega
    · obtain rfl : k = n := by omega
      have E : mixAt zs k = ((Mx.mix zs : Nat) : Int) := by unfold mixAt; rw [HN.out, List.take_length]
      go_wp2
      go_ret
      exact ⟨rfl, rfl⟩

theorem l01Low (n : Int) (w : World) : Calls Tryd.prog 24 #[.int .i64 n] w fun e w' => e = .returned (.int .i64 (n % 4294967296)) ∧ w = w' := by
  have L := Lib.hid (Bt.i64_low n)
  go_enter Tryd.func24, Tryd.ntmps24
  go_wp2
  go_ret
  exact ⟨ret_int L.out, rfl⟩
theorem x64_eq {a b : Int} (h0 : 0 ≤ a) (h1 : a ≤ 4294967295) (g0 : 0 ≤ b) (g1 : b ≤ 4294967295) : bits .xor .i64 a b = ((a.toNat ^^^ b.toNat : Nat) : Int) := Bt.i64_xor a b h0 (by omega) g0 (by omega)
theorem x64_lt {a b : Int} (h0 : 0 ≤ a) (h1 : a ≤ 4294967295) (g0 : 0 ≤ b) (g1 : b ≤ 4294967295) : 0 ≤ bits .xor .i64 a b ∧ bits .xor .i64 a b ≤ 4294967295 := by
  rw [x64_eq h0 h1 g0 g1]
  have : a.toNat ^^^ b.toNat < 2 ^ 32 := Nat.xor_lt_two_pow (by omega) (by omega)
  omega
theorem sA_eq {h x : Int} (h0 : 0 ≤ h) (h1 : h ≤ 4294967295) : bits .xor .i64 h (x % 4294967296) * 16777619 % 4294967296 = ((Mx.a1 h.toNat (Mx.low x) : Nat) : Int) := by
  rw [x64_eq h0 h1 (by omega) (by omega)]
  rw [show (x % 4294967296).toNat = Mx.low x from rfl]
  unfold Mx.a1
  generalize h.toNat ^^^ Mx.low x = y
  rw [Int.natCast_emod, Int.natCast_mul]; rfl
theorem sC_eq {b : Int} (h0 : 0 ≤ b) (h1 : b ≤ 4294967295) : bits .xor .i64 b (b / 32768) = ((Mx.b1 b.toNat : Nat) : Int) := by
  rw [x64_eq h0 h1 (by omega) (by omega)]; unfold Mx.b1; rw [show (b / 32768).toNat = b.toNat / 32768 from by omega]
theorem sE_eq {b : Int} (h0 : 0 ≤ b) (h1 : b ≤ 4294967295) : bits .xor .i64 b (b / 8192) = ((Mx.d1 b.toNat : Nat) : Int) := by
  rw [x64_eq h0 h1 (by omega) (by omega)]; unfold Mx.d1; rw [show (b / 8192).toNat = b.toNat / 8192 from by omega]

theorem sD_eq {s : Int} (h0 : 0 ≤ s) : s * 1540483477 % 4294967296 = ((Mx.c1 s.toNat : Nat) : Int) := by
  obtain ⟨n, rfl⟩ := Int.eq_ofNat_of_zero_le h0
  rw [Int.toNat_natCast]; exact uD_eq n

set_option maxRecDepth 100000 in
theorem l01Mix (b off cap : Nat) (zs : List Int) (w : World) (hl : zs.length ≤ 2097152) (hc : Nums w b off zs) :
    Calls Tryd.prog 17 #[.slice (some ⟨b, off, none⟩) zs.length cap] w fun e w' => e = .returned (.int .i64 ((Mx.mix zs : Nat) : Int)) ∧ w = w' := by
  obtain ⟨n, hn⟩ : ∃ n, n = zs.length := ⟨_, rfl⟩
  rw [← hn] at hl ⊢
  have HN := Lib.hid hn
  clear hn
  go_enter Tryd.func17, Tryd.ntmps17
  go_wp2
  go_loop [3, 4] (fun h i => ∃ k : Nat, k ≤ n ∧ i = .int .i64 k ∧ h = .int .i64 (mixAt zs k)) (fun _ i => n - (intOf i).toNat)
  case atStart => exact ⟨0, by omega, rfl, rfl⟩
  case round =>
    obtain ⟨k, hk, rfl, rfl⟩ := hrel
    have M := mixAt_lt zs k
    by_cases hlt : k < n
    · have c := hc k (by rw [← HN.out]; exact hlt)
      have S := Lib.hid (mixAt_succ (zs := zs) (k := k) (by rw [← HN.out]; exact hlt))
      generalize mixAt zs k = h at *
      generalize zs.getD k 0 = x at *
      clear hc
      have X := x64_lt (b := x % 4294967296) M.1 M.2 (by omega) (by omega)
      have E1 := Lib.hid (sA_eq (x := x) M.1 M.2)
      go_wp2_with fail
      refine (l01Low x _).mono ?_
      rintro e w1 ⟨rfl, rfl⟩
      go_wp2_with fail
      refine (l01Low _ _).mono ?_
      rintro e w1 ⟨rfl, rfl⟩
      have r0 : 0 ≤ bits .xor .i64 h (x % 4294967296) * 16777619 % 4294967296 := by omega
      have r1 : bits .xor .i64 h (x % 4294967296) * 16777619 % 4294967296 ≤ 4294967295 := by omega
      generalize bits .xor .i64 h (x % 4294967296) * 16777619 % 4294967296 = r at *
      have Y := x64_lt (b := r / 32768) r0 r1 (by omega) (by omega)
      have E2 := Lib.hid (sC_eq r0 r1)
      go_wp2_with fail
      refine (l01Low _ _).mono ?_
      rintro e w1 ⟨rfl, rfl⟩
      generalize bits .xor .i64 r (r / 32768) = s at *
      have t0 : 0 ≤ s * 1540483477 % 4294967296 := by omega
      have t1 : s * 1540483477 % 4294967296 ≤ 4294967295 := by omega
      have E3 := Lib.hid (sD_eq Y.1)
      generalize s * 1540483477 % 4294967296 = t at *
      have E4 := Lib.hid (sE_eq t0 t1)
      have F : Hid (bits .xor .i64 t (t / 8192) = mixAt zs (k + 1)) := by
        show _ = _
        rw [E4.out, S.out, E3.out, Int.toNat_natCast, E2.out, Int.toNat_natCast, E1.out, Int.toNat_natCast]
        unfold Mx.step
        rfl
      clear E1 E2 E3 E4 S X Y r0 r1
      go_wp2
      go_round
      case rel => exact ⟨k + 1, by omega, by go_num, val_int F.out⟩
      case measure => simp [intOf]; omega
    · obtain rfl : k = n := by omega
      have E : mixAt zs k = ((Mx.mix zs : Nat) : Int) := by unfold mixAt; rw [HN.out, List.take_length]
      go_wp2
      go_ret
      exact ⟨rfl, rfl⟩
end Go.Proofs.YtpmmcoggpijgmaaDoor.MixC
