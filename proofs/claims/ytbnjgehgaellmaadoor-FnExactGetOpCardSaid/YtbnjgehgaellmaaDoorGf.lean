/-
  Arithmetic of GF(256) on natural numbers below 256: doubling, product, powers; plain mathematics, no program.
-/
import Derived.RowKit
namespace Go.Proofs.YtbnjgehgaellmaaDoor.Gf

def dbl (x : Nat) : Nat := if x < 128 then 2 * x else (2 * x) ^^^ 285
def pw (a : Nat) : Nat → Nat
  | 0 => a
  | i + 1 => dbl (pw a i)
def bit (b i : Nat) : Nat := b / 2 ^ i % 2
def acc (a b : Nat) : Nat → Nat
  | 0 => 0
  | i + 1 => if bit b i = 1 then acc a b i ^^^ pw a i else acc a b i
def mul (a b : Nat) : Nat := acc a b 8

theorem xor_lt {a b : Nat} (ha : a < 256) (hb : b < 256) : a ^^^ b < 256 := Nat.xor_lt_two_pow (n := 8) ha hb
theorem dbl_lt {x : Nat} (h : x < 256) : dbl x < 256 := by
  have : ∀ x, x < 256 → dbl x < 256 := by decide +kernel
  exact this x h
theorem pw_lt {a : Nat} (h : a < 256) : ∀ i, pw a i < 256
  | 0 => h
  | i + 1 => dbl_lt (pw_lt h i)
theorem acc_lt {a b : Nat} (ha : a < 256) : ∀ i, acc a b i < 256
  | 0 => by simp [acc]
  | i + 1 => by
    unfold acc
    by_cases h : bit b i = 1
    · rw [if_pos h]; exact xor_lt (acc_lt ha i) (pw_lt ha i)
    · rw [if_neg h]; exact acc_lt ha i
theorem mul_lt {a b : Nat} (ha : a < 256) : mul a b < 256 := acc_lt ha 8

/-! ### additivity -/
theorem xswap (a b c d : Nat) : (a ^^^ b) ^^^ (c ^^^ d) = (a ^^^ c) ^^^ (b ^^^ d) := by
  rw [Nat.xor_assoc, Nat.xor_assoc, ← Nat.xor_assoc b, Nat.xor_comm b c, Nat.xor_assoc c]
theorem low_iff {x : Nat} (h : x < 256) : (x < 128) ↔ x.testBit 7 = false := by
  have : ∀ x, x < 256 → ((x < 128) ↔ x.testBit 7 = false) := by decide +kernel
  exact this x h
theorem two_xor (a b : Nat) : 2 * (a ^^^ b) = (2 * a) ^^^ (2 * b) := by
  have h : ∀ x : Nat, 2 * x = x <<< 1 := by intro x; rw [Nat.shiftLeft_eq]; omega
  rw [h, h, h, Nat.shiftLeft_xor_distrib]
theorem dbl_xor {a b : Nat} (ha : a < 256) (hb : b < 256) : dbl (a ^^^ b) = dbl a ^^^ dbl b := by
  have hx := low_iff (xor_lt ha hb)
  rw [Nat.testBit_xor] at hx
  have h1 := low_iff ha
  have h2 := low_iff hb
  unfold dbl
  rw [two_xor]
  cases c1 : a.testBit 7 <;> cases c2 : b.testBit 7 <;> rw [c1] at h1 hx <;> rw [c2] at h2 hx <;> simp at h1 h2 hx
  · rw [if_pos (by omega), if_pos (by omega), if_pos (by omega)]
  · rw [if_neg (by omega), if_pos (by omega), if_neg (by omega), Nat.xor_assoc]
  · rw [if_neg (by omega), if_neg (by omega), if_pos (by omega), Nat.xor_assoc, Nat.xor_comm (2 * b) 285, ← Nat.xor_assoc]
  · rw [if_pos (by omega), if_neg (by omega), if_neg (by omega), xswap, Nat.xor_self, Nat.xor_zero]
theorem pw_xor {a b : Nat} (ha : a < 256) (hb : b < 256) : ∀ i, pw (a ^^^ b) i = pw a i ^^^ pw b i
  | 0 => rfl
  | i + 1 => by
    show dbl (pw (a ^^^ b) i) = dbl (pw a i) ^^^ dbl (pw b i)
    rw [pw_xor ha hb i, dbl_xor (pw_lt ha i) (pw_lt hb i)]
theorem acc_xor {a b : Nat} (ha : a < 256) (hb : b < 256) (c : Nat) : ∀ i, acc (a ^^^ b) c i = acc a c i ^^^ acc b c i
  | 0 => by simp [acc]
  | i + 1 => by
    unfold acc
    by_cases h : bit c i = 1
    · rw [if_pos h, if_pos h, if_pos h, acc_xor ha hb c i, pw_xor ha hb i, xswap]
    · rw [if_neg h, if_neg h, if_neg h, acc_xor ha hb c i]
theorem mul_xor {a b : Nat} (ha : a < 256) (hb : b < 256) (c : Nat) : mul (a ^^^ b) c = mul a c ^^^ mul b c := acc_xor ha hb c 8

/-- Two additive functions on numbers below 256 that agree at the eight powers of two agree everywhere. -/
theorem additive_ext (f g : Nat → Nat) (hf : ∀ a b, a < 256 → b < 256 → f (a ^^^ b) = f a ^^^ f b)
    (hg : ∀ a b, a < 256 → b < 256 → g (a ^^^ b) = g a ^^^ g b) (h : ∀ i, i < 8 → f (2 ^ i) = g (2 ^ i)) (a : Nat) (ha : a < 256) : f a = g a := by
  have f0 : f 0 = 0 := by have := hf 0 0 (by omega) (by omega); simpa using this
  have g0 : g 0 = 0 := by have := hg 0 0 (by omega) (by omega); simpa using this
  have key : ∀ n, n ≤ 8 → ∀ a, a < 2 ^ n → f a = g a := by
    intro n
    induction n with
    | zero => intro _ a ha; obtain rfl : a = 0 := by simpa using ha
              rw [f0, g0]
    | succ n ih =>
      intro hn a ha
      by_cases hlt : a < 2 ^ n
      · exact ih (by omega) a hlt
      · have h2 : 2 ^ n ≤ 128 := Nat.pow_le_pow_right (n := 2) (by omega) (show n ≤ 7 by omega)
        have e : 2 ^ (n + 1) = 2 * 2 ^ n := by rw [Nat.pow_succ]; omega
        have hr : a - 2 ^ n < 2 ^ n := by omega
        have hx : a = (a - 2 ^ n) ^^^ 2 ^ n := by
          have hb : (a - 2 ^ n).testBit n = false := Nat.testBit_lt_two_pow hr
          apply Nat.eq_of_testBit_eq
          intro i
          rw [Nat.testBit_xor, Nat.testBit_two_pow]
          have ea : a = 2 ^ n + (a - 2 ^ n) := by omega
          by_cases hi : n = i
          · subst hi
            conv => lhs; rw [ea]
            rw [Nat.testBit_two_pow_add_eq, hb]; simp
          · conv => lhs; rw [ea]
            by_cases hlt2 : i < n
            · rw [Nat.testBit_two_pow_add_gt hlt2]; simp [hi]
            · have e1 : (2 ^ n + (a - 2 ^ n)).testBit i = false := by
                apply Nat.testBit_lt_two_pow
                have : 2 ^ (n + 1) ≤ 2 ^ i := Nat.pow_le_pow_right (by omega) (by omega)
                omega
              have e2 : (a - 2 ^ n).testBit i = false := by
                apply Nat.testBit_lt_two_pow
                have : 2 ^ n ≤ 2 ^ i := Nat.pow_le_pow_right (by omega) (by omega)
                omega
              rw [e1, e2]; simp [hi]
        rw [hx, hf _ _ (by omega) (by omega), hg _ _ (by omega) (by omega), ih (by omega) _ hr, h n (by omega)]
  exact key 8 (by omega) a ha

theorem bit_test (b i : Nat) : (bit b i = 1) ↔ b.testBit i = true := by
  unfold bit; rw [Nat.testBit_eq_decide_div_mod_eq]; simp
theorem xor_acc (c : Nat) (a b : Nat) : ∀ i, acc c (a ^^^ b) i = acc c a i ^^^ acc c b i
  | 0 => by simp [acc]
  | i + 1 => by
    have hx := bit_test (a ^^^ b) i
    have h1 := bit_test a i
    have h2 := bit_test b i
    rw [Nat.testBit_xor] at hx
    unfold acc
    rw [xor_acc c a b i]
    cases c1 : a.testBit i <;> cases c2 : b.testBit i <;> rw [c1] at h1 hx <;> rw [c2] at h2 hx <;> simp at h1 h2 hx
    · rw [if_neg hx, if_neg h1, if_neg h2]
    · rw [if_pos hx, if_neg h1, if_pos h2, Nat.xor_assoc]
    · rw [if_pos hx, if_pos h1, if_neg h2, Nat.xor_assoc, Nat.xor_comm (acc c b i), ← Nat.xor_assoc]
    · rw [if_neg hx, if_pos h1, if_pos h2, xswap, Nat.xor_self, Nat.xor_zero]
theorem xor_mul' (c a b : Nat) : mul c (a ^^^ b) = mul c a ^^^ mul c b := xor_acc c a b 8
theorem mul_comm {a b : Nat} (ha : a < 256) (hb : b < 256) : mul a b = mul b a := by
  have basis : ∀ i, i < 8 → ∀ j, j < 8 → mul (2 ^ i) (2 ^ j) = mul (2 ^ j) (2 ^ i) := by decide +kernel
  refine additive_ext (fun a => mul a b) (fun a => mul b a) (fun x y hx hy => mul_xor hx hy b) (fun x y _ _ => xor_mul' b x y) ?_ a ha
  intro i hi
  exact additive_ext (fun b => mul (2 ^ i) b) (fun b => mul b (2 ^ i)) (fun x y _ _ => xor_mul' _ x y) (fun x y hx hy => mul_xor hx hy _) (fun j hj => basis i hi j hj) b hb
theorem xor_mul {a b c : Nat} (_ha : a < 256) (_hb : b < 256) (_hc : c < 256) : mul c (a ^^^ b) = mul c a ^^^ mul c b := xor_mul' c a b
theorem mul_assoc {a b c : Nat} (ha : a < 256) (hb : b < 256) (hc : c < 256) : mul (mul a b) c = mul a (mul b c) := by
  have basis : ∀ i, i < 8 → ∀ j, j < 8 → ∀ k, k < 8 → mul (mul (2 ^ i) (2 ^ j)) (2 ^ k) = mul (2 ^ i) (mul (2 ^ j) (2 ^ k)) := by decide +kernel
  have p : ∀ i, i < 8 → 2 ^ i < 256 := by decide
  refine additive_ext (fun a => mul (mul a b) c) (fun a => mul a (mul b c)) ?_ ?_ ?_ a ha
  · intro x y hx hy; show mul (mul (x ^^^ y) b) c = _; rw [mul_xor hx hy, mul_xor (mul_lt hx) (mul_lt hy)]
  · intro x y hx hy; show mul (x ^^^ y) _ = _; rw [mul_xor hx hy]
  · intro i hi
    refine additive_ext (fun b => mul (mul (2 ^ i) b) c) (fun b => mul (2 ^ i) (mul b c)) ?_ ?_ ?_ b hb
    · intro x y hx hy; show mul (mul _ (x ^^^ y)) c = _; rw [xor_mul hx hy (p i hi), mul_xor (mul_lt (p i hi)) (mul_lt (p i hi))]
    · intro x y hx hy; show mul _ (mul (x ^^^ y) c) = _; rw [mul_xor hx hy, xor_mul (mul_lt hx) (mul_lt hy) (p i hi)]
    · intro j hj
      refine additive_ext (fun c => mul (mul (2 ^ i) (2 ^ j)) c) (fun c => mul (2 ^ i) (mul (2 ^ j) c)) ?_ ?_ ?_ c hc
      · intro x y hx hy; exact xor_mul hx hy (mul_lt (p i hi))
      · intro x y hx hy
        show mul _ (mul _ (x ^^^ y)) = _
        rw [xor_mul hx hy (p j hj), xor_mul (mul_lt (p j hj)) (mul_lt (p j hj)) (p i hi)]
      · intro k hk; exact basis i hi j hj k hk

theorem mul_one {a : Nat} (ha : a < 256) : mul a 1 = a := by
  have : ∀ a, a < 256 → mul a 1 = a := by decide +kernel
  exact this a ha
theorem one_mul {a : Nat} (ha : a < 256) : mul 1 a = a := by rw [mul_comm (by omega) ha, mul_one ha]
theorem mul_zero {a : Nat} : mul a 0 = 0 := by
  simp [mul, acc, bit]
theorem zero_mul {a : Nat} (ha : a < 256) : mul 0 a = 0 := by rw [mul_comm (by omega) ha, mul_zero]
theorem mul_two {a : Nat} (ha : a < 256) : mul a 2 = dbl a := by
  have : ∀ a, a < 256 → mul a 2 = dbl a := by decide +kernel
  exact this a ha

/-! ### powers: by squares, and one by one -/
/-- One round of squaring: the power so far, the base, the exponent. -/
def sq (fuel : Nat) (out a n : Nat) : Nat :=
  match fuel with
  | 0 => out
  | f + 1 => if n = 0 then out else sq f (if n % 2 = 1 then mul a out else out) (mul a a) (n / 2)
def pow (a n : Nat) : Nat := sq (n + 1) 1 a n
def npow (a : Nat) : Nat → Nat
  | 0 => 1
  | n + 1 => mul a (npow a n)
theorem npow_lt {a : Nat} (ha : a < 256) : ∀ n, npow a n < 256
  | 0 => by simp [npow]
  | n + 1 => mul_lt ha
theorem npow_add {a : Nat} (ha : a < 256) (m n : Nat) : npow a (m + n) = mul (npow a m) (npow a n) := by
  induction m with
  | zero => rw [Nat.zero_add]; show _ = mul 1 _; rw [one_mul (npow_lt ha n)]
  | succ m ih =>
    rw [show m + 1 + n = (m + n) + 1 from by omega]
    show mul a (npow a (m + n)) = mul (mul a (npow a m)) (npow a n)
    rw [ih, mul_assoc ha (npow_lt ha m) (npow_lt ha n)]
theorem npow_mul {a : Nat} (ha : a < 256) (m n : Nat) : npow a (m * n) = npow (npow a m) n := by
  induction n with
  | zero => rfl
  | succ n ih =>
    rw [Nat.mul_succ, npow_add ha, ih]
    show _ = mul (npow a m) (npow (npow a m) n)
    rw [mul_comm (npow_lt (npow_lt ha m) n) (npow_lt ha m)]
theorem npow_two {a : Nat} (ha : a < 256) : npow a 2 = mul a a := by
  show mul a (mul a 1) = _; rw [mul_one ha]
theorem sq_odd {p a n : Nat} (hp : p < 256) (ha : a < 256) (h1 : n % 2 = 1) : mul (mul a p) (npow (mul a a) (n / 2)) = mul p (npow a n) := by
  have e : npow a n = mul (npow a (n % 2)) (npow (mul a a) (n / 2)) := by
    rw [← npow_two ha, ← npow_mul ha, ← npow_add ha]; congr 1; omega
  have e1 : npow a 1 = a := by show mul a 1 = a; exact mul_one ha
  rw [e, h1, e1, mul_comm ha hp, mul_assoc hp ha (npow_lt (mul_lt ha) _)]
theorem sq_even {p a n : Nat} (ha : a < 256) (h1 : n % 2 = 0) : mul p (npow (mul a a) (n / 2)) = mul p (npow a n) := by
  have e : npow a n = mul (npow a (n % 2)) (npow (mul a a) (n / 2)) := by
    rw [← npow_two ha, ← npow_mul ha, ← npow_add ha]; congr 1; omega
  rw [e, h1]
  show _ = mul p (mul 1 _)
  rw [one_mul (npow_lt (mul_lt ha) _)]
theorem sq_eq (fuel : Nat) : ∀ {out a n : Nat}, out < 256 → a < 256 → n < fuel → sq fuel out a n = mul out (npow a n) := by
  induction fuel with
  | zero => intro out a n _ _ h; omega
  | succ f ih =>
    intro out a n ho ha hn
    unfold sq
    by_cases h0 : n = 0
    · subst h0; rw [if_pos rfl]; show out = mul out 1; rw [mul_one ho]
    · rw [if_neg h0]
      have e : npow a n = mul (npow a (n % 2)) (npow (mul a a) (n / 2)) := by
        rw [← npow_two ha, ← npow_mul ha, ← npow_add ha]; congr 1; omega
      by_cases h1 : n % 2 = 1
      · rw [if_pos h1, ih (mul_lt ha) (mul_lt ha) (by omega), e, h1]
        have e1 : npow a 1 = a := by show mul a 1 = a; exact mul_one ha
        rw [e1, mul_comm ha ho, mul_assoc ho ha (npow_lt (mul_lt ha) _)]
      · have h2 : n % 2 = 0 := by omega
        rw [if_neg h1, ih ho (mul_lt ha) (by omega), e, h2]
        show _ = mul out (mul 1 _)
        rw [one_mul (npow_lt (mul_lt ha) _)]
theorem pow_eq {a : Nat} (ha : a < 256) (n : Nat) : pow a n = npow a n := by
  unfold pow; rw [sq_eq _ (by omega) ha (by omega), one_mul (npow_lt ha n)]
theorem pow_lt {a : Nat} (ha : a < 256) (n : Nat) : pow a n < 256 := by rw [pow_eq ha]; exact npow_lt ha n

/-! ### the logarithm: how often 1 is doubled until it is a -/
theorem pw_npow (n : Nat) : pw 1 n = npow 2 n := by
  induction n with
  | zero => rfl
  | succ n ih =>
    show dbl (pw 1 n) = mul 2 (npow 2 n)
    rw [ih, mul_comm (by omega) (npow_lt (by omega) n), mul_two (npow_lt (by omega) n)]
def logTo (a : Nat) (x : Nat) : Nat → Nat
  | 0 => 0
  | f + 1 => if x = a then 0 else logTo a (dbl x) f + 1
def log (a : Nat) : Nat := logTo a 1 255
theorem log_spec {a : Nat} (h0 : 0 < a) (ha : a < 256) : log a < 255 ∧ pw 1 (log a) = a ∧ ∀ i, i < log a → pw 1 i ≠ a := by
  have : ∀ a, a < 256 → 0 < a → log a < 255 ∧ pw 1 (log a) = a := by decide +kernel
  refine ⟨(this a ha h0).1, (this a ha h0).2, ?_⟩
  have gen : ∀ f x, ∀ i, i < logTo a x f → pw x i ≠ a := by
    intro f
    induction f with
    | zero => intro x i hi; simp [logTo] at hi
    | succ f ih =>
      intro x i hi
      unfold logTo at hi
      by_cases hx : x = a
      · rw [if_pos hx] at hi; omega
      · rw [if_neg hx] at hi
        cases i with
        | zero => exact hx
        | succ i =>
          have := ih (dbl x) i (by omega)
          have e : ∀ i, pw x (i + 1) = pw (dbl x) i := by
            intro i; induction i with
            | zero => rfl
            | succ i ih => show dbl (pw x (i + 1)) = dbl (pw (dbl x) i); rw [ih]
          rw [e i]; exact this
  exact gen 255 1
theorem npow_one (n : Nat) : npow 1 n = 1 := by
  induction n with
  | zero => rfl
  | succ n ih => show mul 1 (npow 1 n) = 1; rw [ih]; decide
theorem two_255 : npow 2 255 = 1 := by rw [← pw_npow]; decide +kernel
theorem pow_255 {a : Nat} (h0 : 0 < a) (ha : a < 256) : npow a 255 = 1 := by
  have h := (log_spec h0 ha).2.1
  rw [pw_npow] at h
  rw [← h, ← npow_mul (by omega), Nat.mul_comm, npow_mul (by omega), two_255, npow_one]
def inv (a : Nat) : Nat := pow a 254
theorem inv_lt {a : Nat} (ha : a < 256) : inv a < 256 := pow_lt ha _
theorem mul_inv {a : Nat} (h0 : 0 < a) (ha : a < 256) : mul a (inv a) = 1 := by
  have e : mul a (inv a) = npow a 255 := by unfold inv; rw [pow_eq ha]; rfl
  rw [e]; exact pow_255 h0 ha
theorem inv_mul {a : Nat} (h0 : 0 < a) (ha : a < 256) : mul (inv a) a = 1 := by rw [mul_comm (inv_lt ha) ha, mul_inv h0 ha]
theorem mul_div {a b : Nat} (ha : a < 256) (h0 : 0 < b) (hb : b < 256) : mul (mul a b) (inv b) = a := by
  rw [mul_assoc ha hb (inv_lt hb), mul_inv h0 hb, mul_one ha]
end Go.Proofs.YtbnjgehgaellmaaDoor.Gf
