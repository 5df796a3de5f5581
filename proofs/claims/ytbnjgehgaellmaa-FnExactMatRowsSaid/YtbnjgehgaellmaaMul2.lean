/-
  The product of two grids of numbers.
-/
import Derived.Test.YtbnjgehgaellmaaMul
namespace Go.Proofs.Ytbnjgehgaellmaa.Gf2
open Go.RowKit Go.Proofs.Ytbnjgehgaellmaa.At Go.Proofs.Ytbnjgehgaellmaa.MixC Go.Proofs.Ytbnjgehgaellmaa.Ml Go.Proofs.Ytbnjgehgaellmaa.Gr Go.Proofs.Ytbnjgehgaellmaa.Gj Go.Proofs.Ytbnjgehgaellmaa.GfI
set_option linter.unusedVariables false

/-- What stays while the product is filled. -/
structure MulI (w wr : World) (s5 ga gb g h n k N1 N2 N : Nat) (A Bm P : Mx) : Prop where
  a : Mat .i64 0 wr ga h n A
  b : Mat .i64 0 wr gb n k Bm
  p : Mat .i64 (w.heap.size + 3) wr g h k P
  na : g ≠ ga
  nb : g ≠ gb
  g5 : g ≠ s5
  t2 : Bx wr w.heap.size (.int .i64 h) (.int .i64 n) (.slice (some ⟨ga, 0, none⟩) N1 N1)
  t3 : Bx wr (w.heap.size + 1) (.int .i64 n) (.int .i64 k) (.slice (some ⟨gb, 0, none⟩) N2 N2)
  t4 : Bx wr (w.heap.size + 2) (.int .i64 0) (.int .i64 0) (.slice none 0 0)
  t5 : Bx wr s5 (.int .i64 h) (.int .i64 k) (.slice (some ⟨g, 0, none⟩) N N)
  bl : Below w.heap.size w wr
variable {w wr w1 : World} {s5 ga gb g h n k N1 N2 N : Nat} {A Bm P P' : Mx}
theorem MulI.below (m : MulI w wr s5 ga gb g h n k N1 N2 N A Bm P) (b : Below wr.heap.size wr w1) : MulI w w1 s5 ga gb g h n k N1 N2 N A Bm P :=
  ⟨m.a.below b, m.b.below b, m.p.below b, m.na, m.nb, m.g5, m.t2.below b, m.t3.below b, m.t4.below b, m.t5.below b, chain m.bl b⟩
theorem MulI.ext (m : MulI w wr s5 ga gb g h n k N1 N2 N A Bm P) (e : ∀ i j, i < h → j < k → P i j = P' i j) : MulI w wr s5 ga gb g h n k N1 N2 N A Bm P' := { m with p := m.p.ext e }
theorem MulI.row (m : MulI w wr s5 ga gb g h n k N1 N2 N A Bm P) {i : Nat} (hi : i < h) {F : Nat → Int} (r : Wrote .i64 wr w1 g (i * k) k F) : MulI w w1 s5 ga gb g h n k N1 N2 N A Bm (fun a b => if a = i then F b else P a b) := by
  have h0 := m.p.old
  exact ⟨m.a.aside r (fun e => m.na e.symm), m.b.aside r (fun e => m.nb e.symm), m.p.row hi r, m.na, m.nb, m.g5, m.t2.wrote r (by omega), m.t3.wrote r (by omega), m.t4.wrote r (by omega), m.t5.wrote r (fun e => m.g5 e.symm), r.below m.bl (by omega)⟩
/-- The product with i rows whole and j terms of the next. -/
def mulTo (A Bm : Mx) (n i j : Nat) : Mx := fun a b => if a < i then dotZ A Bm a b n else if a = i then dotZ A Bm a b j else 0
theorem mulTo_step {A Bm : Mx} {n i j a b : Nat} : (if a = i then xorZ (mulTo A Bm n i j i b) (mulZ (A i j) (Bm j b)) else mulTo A Bm n i j a b) = mulTo A Bm n i (j + 1) a b := by
  unfold mulTo
  by_cases e : a = i
  · subst e
    rw [if_pos rfl, if_neg (Nat.lt_irrefl _), if_pos rfl, if_neg (Nat.lt_irrefl _), if_pos rfl]; rfl
  · rw [if_neg e]
    by_cases q : a < i
    · rw [if_pos q, if_pos q]
    · rw [if_neg q, if_neg e, if_neg q, if_neg e]
theorem mulTo_next {A Bm : Mx} {n i a b : Nat} : mulTo A Bm n i n a b = mulTo A Bm n (i + 1) 0 a b := by
  unfold mulTo
  by_cases q : a < i
  · rw [if_pos q, if_pos (by omega)]
  · rw [if_neg q]
    by_cases e : a = i
    · rw [if_pos e, if_pos (by omega)]
    · rw [if_neg e, if_neg (by omega)]
      split <;> rfl
theorem mulTo_el {A Bm : Mx} {n i j : Nat} (hA : Els h n A) (hj : j ≤ n) {a b : Nat} (ha : a < h) : El (mulTo A Bm n i j a b) := by
  unfold mulTo
  split
  · exact dotZ_el (fun t ht => hA a t ha ht)
  · split
    · exact dotZ_el (fun t ht => hA a t ha (by omega))
    · exact El.zero

end Go.Proofs.Ytbnjgehgaellmaa.Gf2
