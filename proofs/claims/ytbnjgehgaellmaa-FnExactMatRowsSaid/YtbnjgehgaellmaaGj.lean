/-
  Matrices of field elements as functions of row and column: products, row operations, elimination. Plain mathematics, no program.
-/
import Derived.Test.YtbnjgehgaellmaaGfCore
namespace Go.Proofs.Ytbnjgehgaellmaa.Gj
open Go.RowKit Go.Proofs.Ytbnjgehgaellmaa.GfI

abbrev Mx := Nat → Nat → Int
def xorZ (a b : Int) : Int := ((a.toNat ^^^ b.toNat : Nat) : Int)
def El (a : Int) : Prop := 0 ≤ a ∧ a ≤ 255
def Els (h wd : Nat) (M : Mx) : Prop := ∀ i j, i < h → j < wd → El (M i j)
theorem El.zero : El 0 := ⟨by omega, by omega⟩
theorem El.one : El 1 := ⟨by omega, by omega⟩
theorem El.xor {a b : Int} (ha : El a) (hb : El b) : El (xorZ a b) := by
  unfold El at *; unfold xorZ
  have := Gf.xor_lt (a := a.toNat) (b := b.toNat) (by omega) (by omega)
  omega
theorem El.mul {a b : Int} (ha : El a) : El (mulZ a b) := mulZ_lt ha.1 ha.2 b
theorem El.inv {a : Int} (ha : El a) : El (invZ a) := invZ_lt ha.1 ha.2
theorem xor_i64 {a b : Int} (ha : El a) (hb : El b) : bits .xor .i64 a b = xorZ a b := by
  unfold El at *; exact Bt.i64_xor a b (by omega) (by omega) (by omega) (by omega)
theorem xorZ_zero {a : Int} (ha : El a) : xorZ a 0 = a := by unfold El at ha; unfold xorZ; simp; omega
theorem zero_xorZ {a : Int} (ha : El a) : xorZ 0 a = a := by unfold El at ha; unfold xorZ; simp; omega
theorem mulZ_zero_left {b : Int} (hb : El b) : mulZ 0 b = 0 := by
  unfold El at hb; unfold mulZ; rw [show (0 : Int).toNat = 0 from rfl, Gf.zero_mul (by omega)]; rfl

/-- The product's cell: the sum over the first n. -/
def dotZ (A Bm : Mx) (i k : Nat) : Nat → Int
  | 0 => 0
  | n + 1 => xorZ (dotZ A Bm i k n) (mulZ (A i n) (Bm n k))
theorem dotZ_el {A Bm : Mx} {i k : Nat} : ∀ {n : Nat}, (∀ j, j < n → El (A i j)) → El (dotZ A Bm i k n)
  | 0, _ => El.zero
  | n + 1, h => El.xor (dotZ_el (fun j hj => h j (by omega))) (El.mul (h n (by omega)))

def unitZ : Mx := fun i j => if i = j then 1 else 0
def swapR (M : Mx) (p q : Nat) : Mx := fun i j => if i = p then M q j else if i = q then M p j else M i j
def scaleR (M : Mx) (r : Nat) (f : Int) : Mx := fun i j => if i = r then mulZ f (M r j) else M i j
def clearR (M : Mx) (c : Nat) : Mx := fun i j => if i = c then M c j else xorZ (M i j) (mulZ (M i c) (M c j))
/-- The first row from 'at' on, below w, that has no 0 in column c; w if there is none. -/
def pivF (M : Mx) (w c : Nat) : Nat → Nat → Nat
  | 0, at' => at'
  | f + 1, at' => if at' < w ∧ M at' c = 0 then pivF M w c f (at' + 1) else at'
def piv (M : Mx) (w c : Nat) : Nat := pivF M w c w c
def stepM (M : Mx) (c p : Nat) : Mx := clearR (scaleR (swapR M p c) c (invZ (M p c))) c
def gjN (M : Mx) (w : Nat) : Nat → Option Mx
  | 0 => some M
  | n + 1 => (gjN M w n).bind fun N => if piv N w n = w then none else some (stepM N n (piv N w n))
/-- The matrix beside the unit matrix. -/
def bothM (A : Mx) (w : Nat) : Mx := fun i j => if j < w then A i j else unitZ i (j - w)

theorem pivF_spec {M : Mx} {w c : Nat} : ∀ {f a : Nat}, a ≤ w → w ≤ a + f → a ≤ pivF M w c f a ∧ pivF M w c f a ≤ w ∧ (∀ k, a ≤ k → k < pivF M w c f a → M k c = 0) ∧ (pivF M w c f a < w → M (pivF M w c f a) c ≠ 0)
  | 0, a, h1, h2 => by
    unfold pivF; exact ⟨Nat.le_refl _, h1, fun k h3 h4 => by omega, fun h => by omega⟩
  | f + 1, a, h1, h2 => by
    unfold pivF
    by_cases h : a < w ∧ M a c = 0
    · rw [if_pos h]
      obtain ⟨i1, i2, i3, i4⟩ := pivF_spec (M := M) (w := w) (c := c) (f := f) (a := a + 1) (by omega) (by omega)
      refine ⟨by omega, i2, fun k h3 h4 => ?_, i4⟩
      by_cases e : k = a
      · rw [e]; exact h.2
      · exact i3 k (by omega) h4
    · rw [if_neg h]
      exact ⟨Nat.le_refl _, h1, fun k h3 h4 => by omega, fun hw h0 => h ⟨hw, h0⟩⟩
theorem piv_spec {M : Mx} {w c : Nat} (h : c ≤ w) : c ≤ piv M w c ∧ piv M w c ≤ w ∧ (∀ k, c ≤ k → k < piv M w c → M k c = 0) ∧ (piv M w c < w → M (piv M w c) c ≠ 0) :=
  pivF_spec h (by omega)
/-- What a search knows tells the pivot. -/
theorem piv_eq {M : Mx} {w c p : Nat} (hc : c ≤ w) (h1 : c ≤ p) (h2 : p ≤ w) (h3 : ∀ k, c ≤ k → k < p → M k c = 0) (h4 : p < w → M p c ≠ 0) : piv M w c = p := by
  obtain ⟨i1, i2, i3, i4⟩ := piv_spec (M := M) hc
  rcases Nat.lt_trichotomy (piv M w c) p with h | h | h
  · exact absurd (h3 _ i1 h) (i4 (by omega))
  · exact h
  · exact absurd (i3 p h1 h) (h4 (by omega))
theorem Els.swap {h wd : Nat} {M : Mx} (e : Els h wd M) {p q : Nat} (hp : p < h) (hq : q < h) : Els h wd (swapR M p q) := by
  intro i j hi hj; unfold swapR
  split
  · exact e q j hq hj
  · split
    · exact e p j hp hj
    · exact e i j hi hj
theorem Els.scale {h wd : Nat} {M : Mx} (e : Els h wd M) {r : Nat} {f : Int} (hf : El f) : Els h wd (scaleR M r f) := by
  intro i j hi hj; unfold scaleR
  split
  · exact El.mul hf
  · exact e i j hi hj
theorem Els.clear {h wd : Nat} {M : Mx} (e : Els h wd M) {c : Nat} (hc : c < h) (hw : c < wd) : Els h wd (clearR M c) := by
  intro i j hi hj; unfold clearR
  split
  · exact e c j hc hj
  · exact El.xor (e i j hi hj) (El.mul (e i c hi hw))
theorem Els.step {h wd : Nat} {M : Mx} (e : Els h wd M) {c p : Nat} (hc : c < h) (hw : c < wd) (hp : p < h) : Els h wd (stepM M c p) :=
  ((e.swap hp hc).scale (El.inv (e p c hp hw))).clear hc hw
end Go.Proofs.Ytbnjgehgaellmaa.Gj
