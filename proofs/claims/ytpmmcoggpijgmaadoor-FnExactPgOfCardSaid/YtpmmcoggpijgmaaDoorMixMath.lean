/-
  The 32-bit hash of a list of words on natural numbers; it tells two lists apart that differ at one place. Plain mathematics, no program.
-/
import Derived.RowKit
namespace Go.Proofs.YtpmmcoggpijgmaaDoor.Mx

def a1 (h w : Nat) : Nat := (h ^^^ w) * 16777619 % 4294967296
def b1 (x : Nat) : Nat := x ^^^ (x / 32768)
def c1 (x : Nat) : Nat := x * 1540483477 % 4294967296
def d1 (x : Nat) : Nat := x ^^^ (x / 8192)
def step (h w : Nat) : Nat := d1 (c1 (b1 (a1 h w)))
def low (w : Int) : Nat := (w % 4294967296).toNat
def mix (ws : List Int) : Nat := ws.foldl (fun h w => step h (low w)) 2166136261

theorem low_lt (w : Int) : low w < 4294967296 := by unfold low; omega
theorem a1_lt (h w : Nat) : a1 h w < 4294967296 := Nat.mod_lt _ (by decide)
theorem b1_lt {x : Nat} (h : x < 4294967296) : b1 x < 4294967296 := Nat.xor_lt_two_pow (n := 32) (by omega) (by omega)
theorem c1_lt (x : Nat) : c1 x < 4294967296 := Nat.mod_lt _ (by decide)
theorem d1_lt {x : Nat} (h : x < 4294967296) : d1 x < 4294967296 := Nat.xor_lt_two_pow (n := 32) (by omega) (by omega)
theorem step_lt (h w : Nat) : step h w < 4294967296 := d1_lt (c1_lt _)
theorem fold_lt (ws : List Int) : ∀ h, h < 4294967296 → ws.foldl (fun h w => step h (low w)) h < 4294967296 := by
  induction ws with
  | nil => intro h hh; exact hh
  | cons w ws ih => intro h _; exact ih _ (step_lt _ _)
theorem mix_lt (ws : List Int) : mix ws < 4294967296 := fold_lt ws _ (by decide)
theorem mix_snoc (ws : List Int) (w : Int) : mix (ws ++ [w]) = step (mix ws) (low w) := by unfold mix; rw [List.foldl_append, List.foldl_cons, List.foldl_nil]

theorem back15 {x : Nat} (h : x < 4294967296) : b1 x ^^^ (b1 x / 32768) ^^^ (b1 x / 1073741824) = x := by
  have e : ∀ y : Nat, y / 32768 = y >>> 15 := fun y => (Nat.shiftRight_eq_div_pow y 15).symm
  have e2 : ∀ y : Nat, y / 1073741824 = y >>> 30 := fun y => (Nat.shiftRight_eq_div_pow y 30).symm
  unfold b1
  rw [e, e, e2, Nat.shiftRight_xor_distrib, Nat.shiftRight_xor_distrib, ← Nat.shiftRight_add, ← Nat.shiftRight_add]
  have z : x >>> (15 + 30) = 0 := by rw [Nat.shiftRight_eq_div_pow]; exact Nat.div_eq_of_lt (by omega)
  rw [z, Nat.xor_zero, show 15 + 15 = 30 from rfl]
  generalize x >>> 15 = p
  generalize x >>> 30 = q
  rw [Nat.xor_assoc, Nat.xor_assoc p q q, Nat.xor_self, Nat.xor_zero, Nat.xor_assoc, Nat.xor_self, Nat.xor_zero]
theorem back13 {x : Nat} (h : x < 4294967296) : d1 x ^^^ (d1 x / 8192) ^^^ (d1 x / 67108864) = x := by
  have e : ∀ y : Nat, y / 8192 = y >>> 13 := fun y => (Nat.shiftRight_eq_div_pow y 13).symm
  have e2 : ∀ y : Nat, y / 67108864 = y >>> 26 := fun y => (Nat.shiftRight_eq_div_pow y 26).symm
  unfold d1
  rw [e, e, e2, Nat.shiftRight_xor_distrib, Nat.shiftRight_xor_distrib, ← Nat.shiftRight_add, ← Nat.shiftRight_add]
  have z : x >>> (13 + 26) = 0 := by rw [Nat.shiftRight_eq_div_pow]; exact Nat.div_eq_of_lt (by omega)
  rw [z, Nat.xor_zero, show 13 + 13 = 26 from rfl]
  generalize x >>> 13 = p
  generalize x >>> 26 = q
  rw [Nat.xor_assoc, Nat.xor_assoc p q q, Nat.xor_self, Nat.xor_zero, Nat.xor_assoc, Nat.xor_self, Nat.xor_zero]
theorem b1_inj {x y : Nat} (hx : x < 4294967296) (hy : y < 4294967296) (h : b1 x = b1 y) : x = y := by rw [← back15 hx, ← back15 hy, h]
theorem d1_inj {x y : Nat} (hx : x < 4294967296) (hy : y < 4294967296) (h : d1 x = d1 y) : x = y := by rw [← back13 hx, ← back13 hy, h]
theorem odd_inj (c d : Nat) (hcd : c * d % 4294967296 = 1) {x y : Nat} (hx : x < 4294967296) (hy : y < 4294967296) (h : x * c % 4294967296 = y * c % 4294967296) : x = y := by
  have k : ∀ z, z < 4294967296 → (z * c % 4294967296) * d % 4294967296 = z := by
    intro z hz
    rw [Nat.mod_mul_mod, Nat.mul_assoc, Nat.mul_mod, hcd, Nat.mul_one, Nat.mod_mod, Nat.mod_eq_of_lt hz]
  rw [← k x hx, ← k y hy, h]
theorem c1_inj {x y : Nat} (hx : x < 4294967296) (hy : y < 4294967296) (h : c1 x = c1 y) : x = y := odd_inj 1540483477 3852147133 (by decide) hx hy h
theorem xor_cancel (a b c : Nat) (h : a ^^^ b = a ^^^ c) : b = c := by
  have := congrArg (a ^^^ ·) h
  simp only [← Nat.xor_assoc, Nat.xor_self, Nat.zero_xor] at this
  exact this
theorem step_inj {h w h' w' : Nat} (a : h < 4294967296) (b : w < 4294967296) (c : h' < 4294967296) (d : w' < 4294967296) (e : step h w = step h' w') : h ^^^ w = h' ^^^ w' := by
  have e1 := c1_inj (b1_lt (a1_lt _ _)) (b1_lt (a1_lt _ _)) (d1_inj (c1_lt _) (c1_lt _) e)
  have e2 := b1_inj (a1_lt _ _) (a1_lt _ _) e1
  exact odd_inj 16777619 899433627 (by decide) (Nat.xor_lt_two_pow (n := 32) a b) (Nat.xor_lt_two_pow (n := 32) c d) e2
theorem fold_inj (ws : List Int) : ∀ h h', h < 4294967296 → h' < 4294967296 →
    ws.foldl (fun h w => step h (low w)) h = ws.foldl (fun h w => step h (low w)) h' → h = h' := by
  induction ws with
  | nil => intro h h' _ _ e; exact e
  | cons w ws ih =>
    intro h h' a b e
    have := step_inj a (low_lt w) b (low_lt w) (ih _ _ (step_lt _ _) (step_lt _ _) e)
    rw [Nat.xor_comm h, Nat.xor_comm h'] at this
    exact xor_cancel _ _ _ this
/-- One word replaced: the hash is the same just where the two words are the same modulo 2 to the 32. -/
theorem mix_set (ws : List Int) (k : Nat) (hk : k < ws.length) (v : Int) : mix (ws.set k v) = mix ws ↔ low v = low ws[k] := by
  have e : ws = ws.take k ++ ws[k] :: ws.drop (k + 1) := by rw [List.getElem_cons_drop, List.take_append_drop]
  have e2 : ws.set k v = ws.take k ++ v :: ws.drop (k + 1) := by rw [List.set_eq_take_append_cons_drop, if_pos hk]
  have hp : ∀ p : List Int, p.foldl (fun h w => step h (low w)) 2166136261 < 4294967296 := fun p => fold_lt p _ (by decide)
  constructor
  · intro h
    rw [e2] at h
    conv at h => rhs; rw [e]
    unfold mix at h
    rw [List.foldl_append, List.foldl_append] at h
    have := fold_inj _ _ _ (step_lt _ _) (step_lt _ _) (by simpa only [List.foldl_cons] using h)
    exact xor_cancel _ _ _ (step_inj (hp _) (low_lt _) (hp _) (low_lt _) this)
  · intro h
    rw [e2]
    conv => rhs; rw [e]
    unfold mix
    rw [List.foldl_append, List.foldl_append, List.foldl_cons, List.foldl_cons, h]
end Go.Proofs.YtpmmcoggpijgmaaDoor.Mx
