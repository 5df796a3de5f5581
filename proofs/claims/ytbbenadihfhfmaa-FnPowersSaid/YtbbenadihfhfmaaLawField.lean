/-
  The laws of the field: sums and products in any order, products spread over sums, division undoes multiplication; every element but 0 is a power of 2.
-/
import Derived.Test.YtbbenadihfhfmaaAt
import Derived.Test.YtbbenadihfhfmaaGfLog
namespace Go.Proofs.Ytbbenadihfhfmaa.LawField
open Go.RowKit Go.Proofs.Ytbbenadihfhfmaa.GfI Go.Proofs.Ytbbenadihfhfmaa.At
set_option linter.unusedVariables false

def xorZ (a b : Int) : Int := bits .xor .i64 a b
theorem xorZ_eq {a b : Int} (h0 : 0 ≤ a) (h1 : a ≤ 255) (g0 : 0 ≤ b) (g1 : b ≤ 255) : xorZ a b = ((a.toNat ^^^ b.toNat : Nat) : Int) :=
  Bt.i64_xor a b h0 (by omega) g0 (by omega)
theorem xorZ_lt {a b : Int} (h0 : 0 ≤ a) (h1 : a ≤ 255) (g0 : 0 ≤ b) (g1 : b ≤ 255) : 0 ≤ xorZ a b ∧ xorZ a b ≤ 255 := by
  rw [xorZ_eq h0 h1 g0 g1]
  have := Gf.xor_lt (a := a.toNat) (b := b.toNat) (by omega) (by omega)
  omega
theorem mulZ_assoc {a b c : Int} (h0 : 0 ≤ a) (h1 : a ≤ 255) (g0 : 0 ≤ b) (g1 : b ≤ 255) (k0 : 0 ≤ c) (k1 : c ≤ 255) : mulZ (mulZ a b) c = mulZ a (mulZ b c) := by
  unfold mulZ
  rw [Int.toNat_natCast, Int.toNat_natCast, Gf.mul_assoc (by omega) (by omega) (by omega)]
theorem mulZ_xor {a b c : Int} (h0 : 0 ≤ a) (h1 : a ≤ 255) (g0 : 0 ≤ b) (g1 : b ≤ 255) : mulZ (xorZ a b) c = xorZ (mulZ a c) (mulZ b c) := by
  have p := mulZ_lt h0 h1 c
  have q := mulZ_lt g0 g1 c
  rw [xorZ_eq p.1 p.2 q.1 q.2, xorZ_eq h0 h1 g0 g1]
  unfold mulZ
  rw [Int.toNat_natCast, Int.toNat_natCast, Int.toNat_natCast, Gf.mul_xor (by omega) (by omega)]
theorem mulZ_one {a : Int} (h0 : 0 ≤ a) (h1 : a ≤ 255) : mulZ a 1 = a := by
  unfold mulZ; rw [Int.toNat_one, Gf.mul_one (by omega)]; omega
theorem mulZ_zero {a : Int} : mulZ a 0 = 0 := by
  unfold mulZ; rw [Int.toNat_zero, Gf.mul_zero]; rfl
theorem invZ_eq {a : Int} (h0 : 0 ≤ a) (h1 : a ≤ 255) : invZ a = ((Gf.inv a.toNat : Nat) : Int) := by
  unfold invZ powZ Gf.inv; rw [Gf.pow_eq (by omega)]; rfl
theorem mulZ_inv {a : Int} (h0 : 1 ≤ a) (h1 : a ≤ 255) : mulZ a (invZ a) = 1 := by
  rw [invZ_eq (by omega) h1]; unfold mulZ; rw [Int.toNat_natCast, Gf.mul_inv (by omega) (by omega)]; rfl
theorem mulZ_div {a b : Int} (h0 : 0 ≤ a) (h1 : a ≤ 255) (g0 : 1 ≤ b) (g1 : b ≤ 255) : mulZ (mulZ a b) (invZ b) = a := by
  have i := invZ_lt (a := b) (by omega) g1
  rw [mulZ_assoc h0 h1 (by omega) g1 i.1 i.2, mulZ_inv g0 g1, mulZ_one h0 h1]
theorem ne_no {a b : Int} (h : a = b) : (a != b) = false := by rw [h]; simp
theorem eq_yes {a b : Int} (h : a = b) : (a == b) = true := by rw [h]; simp

theorem chainB {w a b : World} (h : Below w.heap.size w a) (k : Below a.heap.size a b) : Below w.heap.size w b := h.trans (k.mono h.size)
theorem GfAdd_x (a b : Int) (h0 : 0 ≤ a) (h1 : a ≤ 255) (g0 : 0 ≤ b) (g1 : b ≤ 255) (w : World) :
    Calls Try.prog 25 #[.int .i64 a, .int .i64 b] w fun e w' => e = .returned (.tuple #[.int .i64 (xorZ a b), .int .i64 0]) ∧ w = w' := GfAdd_ok a b h0 h1 g0 g1 w

set_option maxRecDepth 100000 in
set_option maxHeartbeats 1000000 in
theorem fnField (a : Option Addr) (len cap : Nat) (z : List Int) (w : World) (w0 : IsRow .u8 w a len cap z) :
    Calls Try.prog 5 #[.slice a len cap] w fun e w' => e = .returned (.bool true) ∧ Below w.heap.size w w' := by
  have hf := w0.byts
  generalize (fun i => z.getD i 0) = f at hf
  clear w0
  by_cases hl : len ≤ 1048576
  · go_enter Try.func5, Try.ntmps5
    go_wp2_with fail
    refine (a8At a len cap f 0 256 _ hf (by omega) (by omega) (by omega) (by omega)).mono ?_
    rintro e w1 ⟨⟨x, x0, x1, rfl⟩, q1, rfl⟩
    have x1 : x ≤ 255 := by omega
    go_wp2_with fail
    refine (a8At a len cap f 1 256 _ (hf.below (below_drewN (Below.refl _ _) _)) (by omega) (by omega) (by omega) (by omega)).mono ?_
    rintro e w1 ⟨⟨y, y0, y1, rfl⟩, q2, rfl⟩
    have y1 : y ≤ 255 := by omega
    go_wp2_with fail
    refine (a8At a len cap f 2 256 _ (hf.below (below_drewN (Below.refl _ _) _)) (by omega) (by omega) (by omega) (by omega)).mono ?_
    rintro e w1 ⟨⟨c, c0, c1, rfl⟩, q3, rfl⟩
    have c1 : c ≤ 255 := by omega
    clear hf
    have P := mulZ_lt x0 x1 y
    have BC := mulZ_lt y0 y1 c
    have AC := mulZ_lt x0 x1 c
    have SS := xorZ_lt x0 x1 y0 y1
    have t1 := ne_no (mulZ_comm x0 x1 y0 y1)
    have t2 := ne_no (mulZ_assoc x0 x1 y0 y1 c0 c1)
    have t3 := ne_no (mulZ_xor (c := c) x0 x1 y0 y1)
    have t4 := ne_no (mulZ_one x0 x1)
    have t5 : (xorZ x y != bits .xor .i64 x y) = false := ne_no rfl
    go_wp2_with fail
    refine (GfAdd_x x y x0 x1 y0 y1 _).mono ?_
    rintro e w1 ⟨rfl, rfl⟩
    go_wp2_with fail
    refine (GfMul_ok x y x0 x1 y0 y1 _).mono ?_
    rintro e w1 ⟨rfl, hb1⟩
    go_wp2_with fail
    refine (GfMul_ok y x y0 y1 x0 x1 _).mono ?_
    rintro e w2 ⟨rfl, hb2⟩
    go_wp2_with fail
    refine (GfMul_ok _ c P.1 P.2 c0 c1 _).mono ?_
    rintro e w3 ⟨rfl, hb3⟩
    go_wp2_with fail
    refine (GfMul_ok y c y0 y1 c0 c1 _).mono ?_
    rintro e w4 ⟨rfl, hb4⟩
    go_wp2_with fail
    refine (GfMul_ok x _ x0 x1 BC.1 BC.2 _).mono ?_
    rintro e w5 ⟨rfl, hb5⟩
    go_wp2_with fail
    refine (GfMul_ok _ c SS.1 SS.2 c0 c1 _).mono ?_
    rintro e w6 ⟨rfl, hb6⟩
    go_wp2_with fail
    refine (GfMul_ok x c x0 x1 c0 c1 _).mono ?_
    rintro e w7 ⟨rfl, hb7⟩
    go_wp2_with fail
    refine (GfAdd_x _ _ AC.1 AC.2 BC.1 BC.2 _).mono ?_
    rintro e w8 ⟨rfl, rfl⟩
    go_wp2_with fail
    refine (GfMul_ok x 1 x0 x1 (by omega) (by omega) _).mono ?_
    rintro e w8 ⟨rfl, hb8⟩
    have BB := chainB (chainB (chainB (chainB (chainB (chainB (chainB (chainB (below_drewN (Below.refl w.heap.size w) _) hb1) hb2) hb3) hb4) hb5) hb6) hb7) hb8
    clear hb1 hb2 hb3 hb4 hb5 hb6 hb7 hb8 BC AC SS
    by_cases hy : y = 0
    · subst hy
      have t6 := eq_yes (mulZ_zero (a := x))
      go_wp2_with fail
      refine (GfDiv_zero _ P.1 P.2 _).mono ?_
      rintro e w9 ⟨rfl, rfl⟩
      go_wp2
      go_ret
      exact ⟨rfl, BB⟩
    · have y2 : 1 ≤ y := by omega
      have I := invZ_lt y0 y1
      have t6 := eq_yes (mulZ_div x0 x1 y2 y1)
      have t7 := eq_yes (mulZ_inv y2 y1)
      have t8 : (y == 0) = false := by simpa using hy
      clear hy
      go_wp2_with fail
      refine (GfDiv_ok _ y P.1 P.2 y2 y1 _).mono ?_
      rintro e w9 ⟨rfl, hb9⟩
      go_wp2_with fail
      refine (GfInv_ok y y2 y1 _).mono ?_
      rintro e w10 ⟨rfl, hb10⟩
      go_wp2_with fail
      refine (GfMul_ok y _ y0 y1 I.1 I.2 _).mono ?_
      rintro e w11 ⟨rfl, hb11⟩
      go_wp2
      go_ret
      exact ⟨rfl, chainB (chainB (chainB BB hb9) hb10) hb11⟩
  · go_enter Try.func5, Try.ntmps5
    go_wp2
    go_ret
    exact ⟨rfl, Below.refl _ _⟩

theorem powZ_add {a : Int} (h0 : 0 ≤ a) (h1 : a ≤ 255) {m n : Int} (m0 : 0 ≤ m) (n0 : 0 ≤ n) : powZ a (m + n) = mulZ (powZ a m) (powZ a n) := by
  unfold powZ mulZ
  rw [Int.toNat_natCast, Int.toNat_natCast, Int.toNat_add m0 n0, Gf.npow_add (by omega)]
theorem powZ_log {a : Int} (h0 : 1 ≤ a) (h1 : a ≤ 255) : powZ 2 (logN a) = a := by
  have := logN_at h0 h1
  unfold pwZ at this
  rw [Int.toNat_one, Gf.pw_npow] at this
  unfold powZ
  rw [Int.toNat_natCast]; exact this
theorem powZ_255 {a : Int} (h0 : 1 ≤ a) (h1 : a ≤ 255) : powZ a 255 = 1 := by
  unfold powZ; rw [show (255 : Int).toNat = 255 from rfl, Gf.pow_255 (by omega) (by omega)]; rfl
theorem powZ_255m {m : Int} (m0 : 0 ≤ m) : powZ 2 (255 * m) = 1 := by
  unfold powZ
  rw [show (255 * m).toNat = 255 * m.toNat from by omega, show (2 : Int).toNat = 2 from rfl, Gf.npow_mul (by omega), Gf.two_255, Gf.npow_one]; rfl
theorem powZ_far {a m : Int} (h0 : 1 ≤ a) (h1 : a ≤ 255) (m0 : 0 ≤ m) : powZ 2 (logN a + 255 * m) = a := by
  rw [powZ_add (by omega) (by omega) (by omega) (by omega), powZ_log h0 h1, powZ_255m m0, mulZ_one (by omega) h1]

set_option maxRecDepth 100000 in
set_option maxHeartbeats 1000000 in
theorem fnPowers (a : Option Addr) (len cap : Nat) (z : List Int) (w : World) (w0 : IsRow .u8 w a len cap z) :
    Calls Try.prog 6 #[.slice a len cap] w fun e w' => e = .returned (.bool true) ∧ Below w.heap.size w w' := by
  have hf := w0.byts
  generalize (fun i => z.getD i 0) = f at hf
  clear w0
  by_cases hl : len ≤ 1048576
  · go_enter Try.func6, Try.ntmps6
    go_wp2_with fail
    refine (a8At a len cap f 0 255 _ hf (by omega) (by omega) (by omega) (by omega)).mono ?_
    rintro e w1 ⟨⟨x, x0, x1, rfl⟩, q1, rfl⟩
    obtain ⟨y, hy⟩ : ∃ y, y = 1 + x := ⟨_, rfl⟩
    have y0 : 1 ≤ y := by omega
    have y1 : y ≤ 255 := by omega
    obtain rfl : x = y - 1 := by omega
    clear hy
    have L := logN_lt y0 y1
    have T1 := eq_yes (powZ_log y0 y1)
    have T2 := eq_yes (powZ_255 y0 y1)
    have T3 := fun m m0 => eq_yes (powZ_far (m := m) y0 y1 m0)
    go_wp2_with fail
    rw [show 1 + (y - 1) = y from by omega]
    refine (GfLog_ok y y0 y1 _).mono ?_
    rintro e w2 ⟨rfl, hb2⟩
    go_wp2_with fail
    refine (GfPow_ok 2 (logN y) (by omega) (by omega) (by omega) (by omega) _).mono ?_
    rintro e w3 ⟨rfl, hb3⟩
    go_wp2_with fail
    refine (GfPow_ok y 255 (by omega) (by omega) (by omega) (by omega) _).mono ?_
    rintro e w4 ⟨rfl, hb4⟩
    have BB := chainB (chainB (chainB (below_drewN (Below.refl w.heap.size w) _) hb2) hb3) hb4
    go_wp2_with fail
    refine (a8At a len cap f 1 1000 _ (hf.below BB) (by omega) (by omega) (by omega) (by omega)).mono ?_
    rintro e w5 ⟨⟨m, m0, m1, rfl⟩, q2, rfl⟩
    have T3 := T3 m m0
    clear hb2 hb3 hb4 hf
    go_wp2_with fail
    refine (GfPow_ok 2 _ (by omega) (by omega) (by omega) (by omega) _).mono ?_
    rintro e w6 ⟨rfl, hb6⟩
    go_wp2
    go_ret
    exact ⟨rfl, chainB (below_drewN BB _) hb6⟩
  · go_enter Try.func6, Try.ntmps6
    go_wp2
    go_ret
    exact ⟨rfl, Below.refl _ _⟩
end Go.Proofs.Ytbbenadihfhfmaa.LawField
