/-
  The varint decoders of the program and of the model.
-/
import Derived.Test.YtbnjgehgaellmaaDoorVar
import Derived.Test.YtbnjgehgaellmaaDoorGfSpec
namespace Go.Proofs.YtbnjgehgaellmaaDoor.Gt
open Go.RowKit Go.Proofs.YtbnjgehgaellmaaDoor.Bf
set_option linter.unusedVariables false

/-- Byte i of a string; 0 behind its end. -/
def byt (s : ByteArray) (i : Nat) : Int := if h : i < s.size then ((s[i]'h).toNat : Int) else 0
theorem byt_at {s : ByteArray} {i : Nat} (h : i < s.size) : byt s i = ((s[i]'h).toNat : Int) := by unfold byt; rw [dif_pos h]
theorem byt_lt (s : ByteArray) (i : Nat) : 0 ≤ byt s i ∧ byt s i ≤ 255 := by
  unfold byt
  by_cases h : i < s.size
  · rw [dif_pos h]; have := (s[i]'h).toNat_lt; omega
  · rw [dif_neg h]; omega
/-- The number whose varint stands at place p, and its length; i bytes are read, n is their sum. -/
def scan (s : ByteArray) (p : Nat) : Nat → Nat → Int → Option (Int × Nat)
  | 0, _, _ => none
  | f + 1, i, n =>
    if i < 9 ∧ p + i < s.size then
      if 128 ≤ byt s (p + i) then scan s p f (i + 1) (n + byt s (p + i) % 128 * 128 ^ i)
      else if (0 < i ∧ byt s (p + i) = 0) ∨ 4611686018427387904 < n + byt s (p + i) % 128 * 128 ^ i then none
      else some (n + byt s (p + i) % 128 * 128 ^ i, i + 1)
    else none
def get (s : ByteArray) (p : Nat) : Option (Int × Nat) := scan s p 10 0 0
/-- i bytes are read and n is their sum. -/
def At (s : ByteArray) (p i : Nat) (n : Int) : Prop := i ≤ 9 ∧ 0 ≤ n ∧ n < 128 ^ i ∧ scan s p (10 - i) i n = get s p
theorem At.start (s : ByteArray) (p : Nat) : At s p 0 0 := ⟨by omega, by omega, by simp, rfl⟩
theorem At.fuel {s : ByteArray} {p i : Nat} {n : Int} (h : At s p i n) : ∃ f, 10 - i = f + 1 ∧ 10 - (i + 1) = f := ⟨9 - i, by have := h.1; omega, by omega⟩
theorem pow128 (i : Nat) : (128 : Int) ^ (i + 1) = 128 ^ i * 128 := Int.pow_succ _ _
theorem pow_pos128 (i : Nat) : (0 : Int) < 128 ^ i := Int.pow_pos (by omega)
theorem sum_lt {b n : Int} {i : Nat} (h0 : 0 ≤ n) (h1 : n < 128 ^ i) : 0 ≤ n + b % 128 * 128 ^ i ∧ n + b % 128 * 128 ^ i < 128 ^ (i + 1) := by
  have hp := pow_pos128 i
  have hb0 : 0 ≤ b % 128 := by omega
  have hb1 : b % 128 ≤ 127 := by omega
  have m0 : 0 ≤ b % 128 * 128 ^ i := Int.mul_nonneg hb0 (by omega)
  have m1 : b % 128 * 128 ^ i ≤ 127 * 128 ^ i := Int.mul_le_mul_of_nonneg_right hb1 (by omega)
  rw [pow128]; omega
theorem At.next {s : ByteArray} {p i : Nat} {n : Int} (h : At s p i n) (hi : i < 9) (hp : p + i < s.size) (hb : 128 ≤ byt s (p + i)) : At s p (i + 1) (n + byt s (p + i) % 128 * 128 ^ i) := by
  obtain ⟨f, hf, hf'⟩ := h.fuel
  obtain ⟨h0, h1, h2, h3⟩ := h
  have := sum_lt (b := byt s (p + i)) h1 h2
  refine ⟨by omega, this.1, this.2, ?_⟩
  rw [← h3, hf, hf']
  conv => rhs; unfold scan
  rw [if_pos ⟨hi, hp⟩, if_pos hb]
theorem At.ends {s : ByteArray} {p i : Nat} {n : Int} (h : At s p i n) (hi : ¬ (i < 9 ∧ p + i < s.size)) : get s p = none := by
  obtain ⟨f, hf, hf'⟩ := h.fuel
  rw [← h.2.2.2, hf]; unfold scan; rw [if_neg hi]
theorem At.bad {s : ByteArray} {p i : Nat} {n : Int} (h : At s p i n) (hi : i < 9) (hp : p + i < s.size) (hb : byt s (p + i) < 128)
    (hx : (0 < i ∧ byt s (p + i) = 0) ∨ 4611686018427387904 < n + byt s (p + i) % 128 * 128 ^ i) : get s p = none := by
  obtain ⟨f, hf, hf'⟩ := h.fuel
  rw [← h.2.2.2, hf]; unfold scan; rw [if_pos ⟨hi, hp⟩, if_neg (by omega), if_pos hx]
theorem At.good {s : ByteArray} {p i : Nat} {n : Int} (h : At s p i n) (hi : i < 9) (hp : p + i < s.size) (hb : byt s (p + i) < 128)
    (hx : ¬ ((0 < i ∧ byt s (p + i) = 0) ∨ 4611686018427387904 < n + byt s (p + i) % 128 * 128 ^ i)) : get s p = some (n + byt s (p + i) % 128 * 128 ^ i, i + 1) := by
  obtain ⟨f, hf, hf'⟩ := h.fuel
  rw [← h.2.2.2, hf]; unfold scan; rw [if_pos ⟨hi, hp⟩, if_neg (by omega), if_neg hx]

theorem scan_len (s : ByteArray) (p : Nat) : ∀ f i n v l, scan s p f i n = some (v, l) → l ≤ i + f := by
  intro f
  induction f with
  | zero => intro i n v l h; simp [scan] at h
  | succ f ih =>
    intro i n v l h
    unfold scan at h
    by_cases h1 : i < 9 ∧ p + i < s.size
    · rw [if_pos h1] at h
      by_cases h2 : 128 ≤ byt s (p + i)
      · rw [if_pos h2] at h; have := ih _ _ _ _ h; omega
      · rw [if_neg h2] at h
        by_cases h3 : (0 < i ∧ byt s (p + i) = 0) ∨ 4611686018427387904 < n + byt s (p + i) % 128 * 128 ^ i
        · rw [if_pos h3] at h; simp at h
        · rw [if_neg h3] at h; simp at h; omega
    · rw [if_neg h1] at h; simp at h
theorem get_len {s : ByteArray} {p l : Nat} {v : Int} (h : get s p = some (v, l)) : l ≤ 1000000000 := by
  have := scan_len s p _ _ _ _ _ h; omega
/-- What a decoder returns for a number found or none; the length is told from place q on. -/
def outOf (k : IntKind) (q : Int) : Option (Int × Nat) → Ending
  | none => .returned (.tuple #[.int .i64 0, .int k 0, .bool false])
  | some (n, l) => .returned (.tuple #[.int .i64 n, .int k (q + l), .bool true])

/-- The sum of disjoint bits. -/
theorem or_sum {n b : Int} {i : Nat} (hi : i < 9) (h0 : 0 ≤ n) (h1 : n < 128 ^ i) (b0 : 0 ≤ b) (b1 : b ≤ 127) : bits .or .u64 n (b * 128 ^ i) = n + b * 128 ^ i := by
  obtain ⟨x, rfl⟩ := Int.eq_ofNat_of_zero_le h0
  obtain ⟨y, rfl⟩ := Int.eq_ofNat_of_zero_le b0
  have hx : x < 128 ^ i := by exact_mod_cast h1
  have hp : 128 ^ i ≤ 128 ^ 8 := Nat.pow_le_pow_right (by omega) (by omega)
  have hy : y * 128 ^ i ≤ 127 * 128 ^ 8 := Nat.mul_le_mul (by omega) hp
  have e : ((y : Int) * 128 ^ i) = ((y * 128 ^ i : Nat) : Int) := by simp
  have hpw : (128 : Nat) ^ i = 2 ^ (7 * i) := by rw [Nat.pow_mul]
  rw [e, u64_or_nat x (y * 128 ^ i) (by omega) (by omega), Nat.or_comm, nat_join (7 * i) (y * 128 ^ i) x (by rw [hpw]; exact Nat.mul_mod_left _ _) (by rw [← hpw]; exact hx)]
  omega
theorem pow7 (i : Nat) : (2 : Int) ^ (7 * i) = 128 ^ i := by rw [Int.pow_mul]; rfl

/-- The sum in the walk's own words. -/
theorem sum_eq {s : ByteArray} {k : Nat} {x : Int} (hk : k < 9) (hs : k < s.size) (h0 : 0 ≤ x) (h1 : x < 128 ^ k) :
    bits .or .u64 x (IntKind.u64.wrap (((s[k]'hs).toNat : Int) % 128 * 2 ^ (7 * k))) = x + byt s (0 + k) % 128 * 128 ^ k := by
  have hb := byt_at hs
  have hl := byt_lt s k
  rw [← hb, Nat.zero_add, pow7]
  have hp : (0 : Int) < 128 ^ k := pow_pos128 k
  have hp8 : (128 : Int) ^ k ≤ 128 ^ 8 := by
    have : (128 : Nat) ^ k ≤ 128 ^ 8 := Nat.pow_le_pow_right (by omega) (by omega)
    exact_mod_cast this
  have m0 : 0 ≤ byt s k % 128 * 128 ^ k := Int.mul_nonneg (by omega) (by omega)
  have m1 : byt s k % 128 * 128 ^ k ≤ 127 * 128 ^ k := Int.mul_le_mul_of_nonneg_right (by omega) (by omega)
  have hw : IntKind.u64.wrap (byt s k % 128 * 128 ^ k) = byt s k % 128 * 128 ^ k := by
    rw [IntKind.wrap_u64]; exact Int.emod_eq_of_lt m0 (by omega)
  rw [hw]
  exact or_sum hk h0 h1 (by omega) (by omega)
theorem wrap0 (c : Int) : IntKind.u64.wrap (c % 128 * 2 ^ (7 * 0)) = c % 128 := by
  rw [Nat.mul_zero, Int.pow_zero, Int.mul_one, IntKind.wrap_u64]; omega
theorem sum_eq0 {s : ByteArray} {x : Int} (hs : 0 < s.size) (h0 : 0 ≤ x) (h1 : x < 128 ^ 0) :
    bits .or .u64 x (((s[0]'hs).toNat : Int) % 128) = x + byt s (0 + 0) % 128 * 128 ^ 0 := by
  rw [← sum_eq (by omega) hs h0 h1, wrap0]
theorem out_some {s : ByteArray} {p : Nat} {k : IntKind} {q n m : Int} {l : Nat} (h : get s p = some (n, l)) (hm : m = q + l) : Ending.returned (.tuple #[.int .i64 n, .int k m, .bool true]) = outOf k q (get s p) := by
  rw [h, hm]; rfl
theorem out_none {s : ByteArray} {p : Nat} {k : IntKind} {q : Int} (h : get s p = none) : Ending.returned (.tuple #[.int .i64 0, .int k 0, .bool false]) = outOf k q (get s p) := by
  rw [h]; rfl

set_option maxRecDepth 100000 in
set_option maxHeartbeats 1000000 in
theorem implGetVar (s : ByteArray) (hs : s.size ≤ 1000000000) (w : World) :
    Calls Tryd.prog 26 #[.string s] w fun e w' => e = outOf .i64 0 (get s 0) ∧ w = w' := by
  by_cases h9 : s.size < 9
  · go_enter Tryd.func26, Tryd.ntmps26
    go_wp2
    go_loop [5, 11] (fun n i => ∃ (k : Nat) (x : Int), i = .int .i64 k ∧ n = .int .u64 x ∧ k ≤ s.size ∧ At s 0 k x) (fun _ i => s.size - (intOf i).toNat)
    case atStart => exact ⟨0, 0, rfl, rfl, by omega, At.start s 0⟩
    case round =>
      obtain ⟨k, x, rfl, rfl, hk, hA⟩ := hrel
      by_cases hlt : k < s.size
      · have hk9 : k < 9 := by omega
        have hks : k < s.size := by omega
        have B := byt_at hks
        have hp : 0 + k < s.size := by omega
        have S := Lib.hid (sum_eq hk9 hks hA.2.1 hA.2.2.1)
        have T := sum_lt (b := byt s (0 + k)) hA.2.1 hA.2.2.1
        rw [← S.out] at T
        have hA1 := hA.1
        by_cases hb : 128 ≤ byt s k
        · have N := hA.next hk9 hp (by rw [Nat.zero_add]; exact hb)
          rw [← S.out] at N
          rw [B] at hb
          clear hA B S T
          go_wp2
          go_round
          case rel => exact ⟨k + 1, _, by go_num, rfl, by omega, N⟩
          case measure => simp [intOf]; omega
        · have hb2 : byt s (0 + k) < 128 := by rw [Nat.zero_add]; omega
          by_cases hz : 0 < k ∧ byt s k = 0
          · have G := Lib.hid (hA.bad hk9 hp hb2 (.inl (by rw [Nat.zero_add]; exact hz)))
            obtain ⟨z0, z1⟩ := hz
            rw [B] at z1 hb
            have z1 : (((s[k]'hks).toNat : Int) == 0) = true := by rw [z1]; rfl
            clear hA B S T hb2
            go_wp2
            go_ret3
            exact ⟨out_none G.out, rfl⟩
          · by_cases hv : 4611686018427387904 < x + byt s (0 + k) % 128 * 128 ^ k
            · have G := Lib.hid (hA.bad hk9 hp hb2 (.inr hv))
              by_cases hk0 : k = 0
              · subst hk0
                rw [← sum_eq0 hks hA.2.1 hA.2.2.1] at hv
                rw [B] at hb
                clear hA B S T hb2 hz
                go_wp2
                go_ret3
                exact ⟨out_none G.out, rfl⟩
              · have z0 : 0 < k := by omega
                have z1 : (((s[k]'hks).toNat : Int) == 0) = false := by rw [← B, beq_eq_false_iff_ne]; intro e; exact hz ⟨z0, e⟩
                rw [← S.out] at hv
                rw [B] at hb
                clear hA B S T hb2 hz hk0
                go_wp2
                go_ret3
                exact ⟨out_none G.out, rfl⟩
            · have G1 := hA.good hk9 hp hb2 (by rw [Nat.zero_add] at hv ⊢; intro h; rcases h with h | h; exact hz h; exact hv h)
              by_cases hk0 : k = 0
              · subst hk0
                have S0 := sum_eq0 hks hA.2.1 hA.2.2.1
                rw [S.out, ← S0] at T
                rw [← S0] at hv G1
                have T0 := T.1
                have G := Lib.hid G1
                rw [B] at hb
                clear hA B S T hb2 hz S0 G1
                go_wp2
                go_ret3
                exact ⟨out_some G.out (by omega), rfl⟩
              · have z0 : 0 < k := by omega
                have z1 : (((s[k]'hks).toNat : Int) == 0) = false := by rw [← B, beq_eq_false_iff_ne]; intro e; exact hz ⟨z0, e⟩
                rw [← S.out] at hv G1
                have T0 := T.1
                have G := Lib.hid G1
                rw [B] at hb
                clear hA B S T hb2 hz hk0 G1
                go_wp2
                go_ret3
                exact ⟨out_some G.out (by omega), rfl⟩
      · have G := Lib.hid (hA.ends (by omega))
        clear hA
        go_wp2
        go_ret3
        exact ⟨out_none G.out, rfl⟩
  · by_cases h10 : s.size ≤ 9
    · have h99 : s.size = 9 := by omega
      have H99 := Lib.hid h99
      clear h99
      go_enter Tryd.func26, Tryd.ntmps26
      go_wp2
      go_loop [5, 11] (fun n i => ∃ (k : Nat) (x : Int), i = .int .i64 k ∧ n = .int .u64 x ∧ k ≤ s.size ∧ At s 0 k x) (fun _ i => s.size - (intOf i).toNat)
      case atStart => exact ⟨0, 0, rfl, rfl, by omega, At.start s 0⟩
      case round =>
        obtain ⟨k, x, rfl, rfl, hk, hA⟩ := hrel
        by_cases hlt : k < s.size
        · have hk9 : k < 9 := by have := H99.out; omega
          have hks : k < s.size := by omega
          have B := byt_at hks
          have hp : 0 + k < s.size := by omega
          have S := Lib.hid (sum_eq hk9 hks hA.2.1 hA.2.2.1)
          have T := sum_lt (b := byt s (0 + k)) hA.2.1 hA.2.2.1
          rw [← S.out] at T
          have hA1 := hA.1
          by_cases hb : 128 ≤ byt s k
          · have N := hA.next hk9 hp (by rw [Nat.zero_add]; exact hb)
            rw [← S.out] at N
            rw [B] at hb
            clear hA B S T
            go_wp2
            go_round
            case rel => exact ⟨k + 1, _, by go_num, rfl, by omega, N⟩
            case measure => simp [intOf]; omega
          · have hb2 : byt s (0 + k) < 128 := by rw [Nat.zero_add]; omega
            by_cases hz : 0 < k ∧ byt s k = 0
            · have G := Lib.hid (hA.bad hk9 hp hb2 (.inl (by rw [Nat.zero_add]; exact hz)))
              obtain ⟨z0, z1⟩ := hz
              rw [B] at z1 hb
              have z1 : (((s[k]'hks).toNat : Int) == 0) = true := by rw [z1]; rfl
              clear hA B S T hb2
              go_wp2
              go_ret3
              exact ⟨out_none G.out, rfl⟩
            · by_cases hv : 4611686018427387904 < x + byt s (0 + k) % 128 * 128 ^ k
              · have G := Lib.hid (hA.bad hk9 hp hb2 (.inr hv))
                by_cases hk0 : k = 0
                · subst hk0
                  rw [← sum_eq0 hks hA.2.1 hA.2.2.1] at hv
                  rw [B] at hb
                  clear hA B S T hb2 hz
                  go_wp2
                  go_ret3
                  exact ⟨out_none G.out, rfl⟩
                · have z0 : 0 < k := by omega
                  have z1 : (((s[k]'hks).toNat : Int) == 0) = false := by rw [← B, beq_eq_false_iff_ne]; intro e; exact hz ⟨z0, e⟩
                  rw [← S.out] at hv
                  rw [B] at hb
                  clear hA B S T hb2 hz hk0
                  go_wp2
                  go_ret3
                  exact ⟨out_none G.out, rfl⟩
              · have G1 := hA.good hk9 hp hb2 (by rw [Nat.zero_add] at hv ⊢; intro h; rcases h with h | h; exact hz h; exact hv h)
                by_cases hk0 : k = 0
                · subst hk0
                  have S0 := sum_eq0 hks hA.2.1 hA.2.2.1
                  rw [S.out, ← S0] at T
                  rw [← S0] at hv G1
                  have T0 := T.1
                  have G := Lib.hid G1
                  rw [B] at hb
                  clear hA B S T hb2 hz S0 G1
                  go_wp2
                  go_ret3
                  exact ⟨out_some G.out (by omega), rfl⟩
                · have z0 : 0 < k := by omega
                  have z1 : (((s[k]'hks).toNat : Int) == 0) = false := by rw [← B, beq_eq_false_iff_ne]; intro e; exact hz ⟨z0, e⟩
                  rw [← S.out] at hv G1
                  have T0 := T.1
                  have G := Lib.hid G1
                  rw [B] at hb
                  clear hA B S T hb2 hz hk0 G1
                  go_wp2
                  go_ret3
                  exact ⟨out_some G.out (by omega), rfl⟩
        · have G := Lib.hid (hA.ends (by omega))
          clear hA
          go_wp2
          go_ret3
          exact ⟨out_none G.out, rfl⟩
    · have h11 : 10 ≤ s.size := by omega
      clear h9 h10
      go_enter Tryd.func26, Tryd.ntmps26
      go_wp2
      go_loop [5, 11] (fun n i => ∃ (k : Nat) (x : Int), i = .int .i64 k ∧ n = .int .u64 x ∧ k ≤ 9 ∧ At s 0 k x) (fun _ i => 9 - (intOf i).toNat)
      case atStart => exact ⟨0, 0, rfl, rfl, by omega, At.start s 0⟩
      case round =>
        obtain ⟨k, x, rfl, rfl, hk, hA⟩ := hrel
        by_cases hlt : k < 9
        · have hk9 : k < 9 := by omega
          have hks : k < s.size := by omega
          have B := byt_at hks
          have hp : 0 + k < s.size := by omega
          have S := Lib.hid (sum_eq hk9 hks hA.2.1 hA.2.2.1)
          have T := sum_lt (b := byt s (0 + k)) hA.2.1 hA.2.2.1
          rw [← S.out] at T
          have hA1 := hA.1
          by_cases hb : 128 ≤ byt s k
          · have N := hA.next hk9 hp (by rw [Nat.zero_add]; exact hb)
            rw [← S.out] at N
            rw [B] at hb
            clear hA B S T
            go_wp2
            go_round
            case rel => exact ⟨k + 1, _, by go_num, rfl, by omega, N⟩
            case measure => simp [intOf]; omega
          · have hb2 : byt s (0 + k) < 128 := by rw [Nat.zero_add]; omega
            by_cases hz : 0 < k ∧ byt s k = 0
            · have G := Lib.hid (hA.bad hk9 hp hb2 (.inl (by rw [Nat.zero_add]; exact hz)))
              obtain ⟨z0, z1⟩ := hz
              rw [B] at z1 hb
              have z1 : (((s[k]'hks).toNat : Int) == 0) = true := by rw [z1]; rfl
              clear hA B S T hb2
              go_wp2
              go_ret3
              exact ⟨out_none G.out, rfl⟩
            · by_cases hv : 4611686018427387904 < x + byt s (0 + k) % 128 * 128 ^ k
              · have G := Lib.hid (hA.bad hk9 hp hb2 (.inr hv))
                by_cases hk0 : k = 0
                · subst hk0
                  rw [← sum_eq0 hks hA.2.1 hA.2.2.1] at hv
                  rw [B] at hb
                  clear hA B S T hb2 hz
                  go_wp2
                  go_ret3
                  exact ⟨out_none G.out, rfl⟩
                · have z0 : 0 < k := by omega
                  have z1 : (((s[k]'hks).toNat : Int) == 0) = false := by rw [← B, beq_eq_false_iff_ne]; intro e; exact hz ⟨z0, e⟩
                  rw [← S.out] at hv
                  rw [B] at hb
                  clear hA B S T hb2 hz hk0
                  go_wp2
                  go_ret3
                  exact ⟨out_none G.out, rfl⟩
              · have G1 := hA.good hk9 hp hb2 (by rw [Nat.zero_add] at hv ⊢; intro h; rcases h with h | h; exact hz h; exact hv h)
                by_cases hk0 : k = 0
                · subst hk0
                  have S0 := sum_eq0 hks hA.2.1 hA.2.2.1
                  rw [S.out, ← S0] at T
                  rw [← S0] at hv G1
                  have T0 := T.1
                  have G := Lib.hid G1
                  rw [B] at hb
                  clear hA B S T hb2 hz S0 G1
                  go_wp2
                  go_ret3
                  exact ⟨out_some G.out (by omega), rfl⟩
                · have z0 : 0 < k := by omega
                  have z1 : (((s[k]'hks).toNat : Int) == 0) = false := by rw [← B, beq_eq_false_iff_ne]; intro e; exact hz ⟨z0, e⟩
                  rw [← S.out] at hv G1
                  have T0 := T.1
                  have G := Lib.hid G1
                  rw [B] at hb
                  clear hA B S T hb2 hz hk0 G1
                  go_wp2
                  go_ret3
                  exact ⟨out_some G.out (by omega), rfl⟩
        · have G := Lib.hid (hA.ends (by omega))
          clear hA
          go_wp2
          go_ret3
          exact ⟨out_none G.out, rfl⟩

theorem powle {k m : Nat} (h : k ≤ m) : (128 : Int) ^ k ≤ 128 ^ m := by
  have : (128 : Nat) ^ k ≤ 128 ^ m := Nat.pow_le_pow_right (by omega) h
  exact_mod_cast this
theorem pow_le8 {k : Nat} {x : Int} (hk : k < 9) (h : x < 128 ^ k) : x < 72057594037927936 := by
  have := powle (show k ≤ 8 by omega); rw [show (128 : Int) ^ 8 = 72057594037927936 from by decide] at this; omega
theorem pow_le7 {k : Nat} (hk : k ≤ 7) : (0 : Int) ≤ 128 ^ k ∧ (128 : Int) ^ k ≤ 562949953421312 := by
  have h1 := powle hk; rw [show (128 : Int) ^ 7 = 562949953421312 from by decide] at h1
  have h2 := pow_pos128 k; omega
theorem term_lt {b : Int} {k : Nat} (hk : k < 9) : 0 ≤ b % 128 * 128 ^ k ∧ b % 128 * 128 ^ k ≤ 9151314442816847872 := by
  have hp := pow_pos128 k
  have h8 := powle (show k ≤ 8 by omega); rw [show (128 : Int) ^ 8 = 72057594037927936 from by decide] at h8
  have m0 : 0 ≤ b % 128 * 128 ^ k := Int.mul_nonneg (by omega) (by omega)
  have m1 : b % 128 * 128 ^ k ≤ 127 * 128 ^ k := Int.mul_le_mul_of_nonneg_right (by omega) (by omega)
  omega
theorem term_le {b : Int} {k : Nat} (hk : k < 9) (h0 : 0 ≤ b) (h1 : b ≤ 255) : True := trivial
theorem big8 {s : ByteArray} {p k : Nat} {x : Int} (h : At s p k x) (hk : k = 8) (hp : p + k < s.size) (hb : 64 < byt s (p + k)) : get s p = none := by
  subst hk
  by_cases h1 : 128 ≤ byt s (p + 8)
  · exact (h.next (by omega) hp h1).ends (by omega)
  · refine h.bad (by omega) hp (by omega) (.inr ?_)
    have e : byt s (p + 8) % 128 = byt s (p + 8) := by omega
    rw [e, show (128 : Int) ^ 8 = 72057594037927936 from by decide]
    have := h.2.1
    omega

set_option maxRecDepth 100000 in
set_option maxHeartbeats 1000000 in
theorem l01Get (s : ByteArray) (p : Nat) (hs : s.size ≤ 1000000000) (hpp : p ≤ 1000000000) (w : World) :
    Calls Tryd.prog 23 #[.string s, .int .i64 p] w fun e w' => e = outOf .i64 p (get s p) ∧ w = w' := by
  go_enter Tryd.func23, Tryd.ntmps23
  go_wp2
  go_loop [7, 8, 9] (fun n u i => ∃ (k : Nat) (x : Int), i = .int .i64 ((p + k : Nat) : Int) ∧ n = .int .i64 x ∧ u = .int .i64 (128 ^ k) ∧ k ≤ 9 ∧ At s p k x) (fun _ _ i => p + 9 - (intOf i).toNat)
  case atStart => exact ⟨0, 0, rfl, rfl, rfl, by omega, At.start s p⟩
  case round =>
    obtain ⟨k, x, rfl, rfl, rfl, hk, hA⟩ := hrel
    by_cases hlt : k < 9 ∧ p + k < s.size
    · obtain ⟨hk9, hks⟩ := hlt
      have B := byt_at hks
      have L := byt_lt s (p + k)
      have S := sum_lt (b := byt s (p + k)) hA.2.1 hA.2.2.1
      have hU := term_lt (b := byt s (p + k)) hk9
      have hA1 := hA.2.1
      have hx8 := pow_le8 hk9 hA.2.2.1
      by_cases h8 : k = 8 ∧ 64 < byt s (p + k)
      · have G := Lib.hid (big8 hA h8.1 hks h8.2)
        obtain ⟨h81, h82⟩ := h8
        have h83 : 8 ≤ k := by omega
        rw [B] at L h82
        clear h81 hA B S hU hx8
        go_wp2
        go_ret3
        exact ⟨out_none G.out, rfl⟩
      · by_cases hb : 128 ≤ byt s (p + k)
        · have hk7 : k ≤ 7 := by omega
          have N := hA.next hk9 hks hb
          have W := pow_le7 hk7
          have Q := Lib.hid (pow128 k)
          rw [B] at hb L S hU N
          clear hA B h8
          have hU2 := hU.1
          have hU3 := hU.2
          have S0 := S.1
          go_wp2
          go_round
          case rel => exact ⟨k + 1, _, by go_num, rfl, by rw [Q.out], by omega, N⟩
          case measure => simp [intOf]; omega
        · have hb2 : byt s (p + k) < 128 := by omega
          have K8 : k ≤ 7 ∨ (8 ≤ k ∧ byt s (p + k) ≤ 64) := by omega
          by_cases hz : 0 < k ∧ byt s (p + k) = 0
          · have G := Lib.hid (hA.bad hk9 hks hb2 (.inl hz))
            obtain ⟨z0, z1⟩ := hz
            rw [B] at L S hU hb z1 hb2 K8
            have z2 : (((s[p + k]'hks).toNat : Int) == 0) = true := by rw [z1]; rfl
            clear hA B z1 h8
            rcases K8 with h7 | ⟨h7, h64⟩
            all_goals
              go_wp2
              go_ret3
              exact ⟨out_none G.out, rfl⟩
          · have Z : ((byt s (p + k) == 0) = true ∧ k ≤ 0) ∨ (byt s (p + k) == 0) = false := by
              by_cases hc : byt s (p + k) = 0
              · exact .inl ⟨by rw [hc]; rfl, by omega⟩
              · exact .inr (beq_eq_false_iff_ne.2 hc)
            by_cases hv : 4611686018427387904 < x + byt s (p + k) % 128 * 128 ^ k
            · have G := Lib.hid (hA.bad hk9 hks hb2 (.inr hv))
              rw [B] at L S hU hb hb2 hv Z K8
              clear hA B hz h8
              rcases K8 with h7 | ⟨h7, h64⟩
              all_goals rcases Z with ⟨z1, z0⟩ | z1
              all_goals
                go_wp2
                all_goals
                  go_ret3
                  exact ⟨out_none G.out, rfl⟩
            · have G1 := hA.good hk9 hks hb2 (by intro h; rcases h with h | h; exact hz h; exact hv h)
              rw [B] at L S hU hb hb2 hv G1 Z K8
              have G := Lib.hid G1
              clear hA B hz G1 h8
              rcases K8 with h7 | ⟨h7, h64⟩
              all_goals rcases Z with ⟨z1, z0⟩ | z1
              all_goals
                go_wp2
                all_goals
                  go_ret3
                  exact ⟨out_some G.out (by omega), rfl⟩
    · have G := Lib.hid (hA.ends hlt)
      clear hA
      by_cases h1 : p + k < s.size
      · have h2 : 9 ≤ k := by omega
        clear hlt
        go_wp2
        go_ret3
        exact ⟨out_none G.out, rfl⟩
      · clear hlt
        go_wp2
        go_ret3
        exact ⟨out_none G.out, rfl⟩
end Go.Proofs.YtbnjgehgaellmaaDoor.Gt
