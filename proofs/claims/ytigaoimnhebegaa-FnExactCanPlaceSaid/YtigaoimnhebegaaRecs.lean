/-
  A slice of structs of two numbers: one that came in, and one that the call made.
-/
import Derived.Test.YtigaoimnhebegaaItem
import Derived.Deep.SlicePairs
import Derived.ChangeArms
namespace Go.Proofs.Ytigaoimnhebegaa.Rc
open Go.RowKit
set_option linter.unusedVariables false

/-- The n pairs of a slice, nil or not. -/
def Recs (w : World) (a : Option Addr) (n : Nat) (f g : Nat → Int) : Prop :=
  n = 0 ∨ ∃ b off, a = some ⟨b, off, none⟩ ∧ b < w.heap.size ∧ ∀ i, i < n → w.cell? ⟨b, off + i * 2, none⟩ = some (.int .i64 (f i)) ∧ w.cell? ⟨b, off + i * 2 + 1, none⟩ = some (.int .i64 (g i))
theorem Recs.below {w w' : World} {a : Option Addr} {n : Nat} {f g : Nat → Int} (h : Recs w a n f g) (hb : Below w.heap.size w w') : Recs w' a n f g := by
  rcases h with h | ⟨b, off, rfl, hB, hc⟩
  · exact .inl h
  · exact .inr ⟨b, off, rfl, Nat.lt_of_lt_of_le hB hb.size, fun i hi => ⟨(hb.cell (p := ⟨b, off + i * 2, none⟩) hB).trans (hc i hi).1, (hb.cell (p := ⟨b, off + i * 2 + 1, none⟩) hB).trans (hc i hi).2⟩⟩
/-- What the frame of a law tells of such a slice that came in. -/
def RecArg (w : World) (a : Option Addr) (n : Nat) (f g : Nat → Int) : Prop :=
  n ≤ 9223372036854775807 ∧ Recs w a n f g ∧ ∀ i, i < n → (Lit.int .i64 (f i)).wf = true ∧ (Lit.int .i64 (g i)).wf = true

theorem recArg_of {H : Type} {enc : TypeId × Value → H} {P : Program} {w : World} {base : Nat} {spare : Nat → Bool} {held : Bool} {t e : TypeId} {f0 f1 : Field} {fuel : Nat} {x : DataW H × List MemPlace} {u : Option Addr} {m c : Nat} {cs0 : List Value} (hcs0 : cs0 = [.slice u m c])
    (ht : P.underlying t = some (.slice e)) (he : P.underlying e = some (.struct #[f0, f1])) (ce : P.cellsOf e = 2) (o0 : f0.offset = 0) (o1 : f1.offset = 1) (c0 : P.cellsOf f0.type = 1) (c1 : P.cellsOf f1.type = 1)
    (i0 : P.underlying f0.type = some (.int .i64)) (i1 : P.underlying f1.type = some (.int .i64))
    (h : DataW.trod enc P w base spare held fuel t cs0 = some x) : ∃ f g, RecArg w u m f g := by
  subst hcs0
  rcases Go.Deep.open_slice_pairs ht he ce o0 o1 c0 c1 h with ⟨hcs, _⟩ | ⟨a, l, cp, mm, n, V0, V1, D0, D1, P0, P1, hcs, _, hl, hm, hmm, _, hi⟩
  · simp at hcs
    obtain ⟨rfl, rfl, rfl⟩ := hcs
    exact ⟨fun _ => 0, fun _ => 0, by omega, .inl rfl, fun i hi => absurd hi (Nat.not_lt_zero _)⟩
  · simp at hcs
    obtain ⟨rfl, rfl, rfl⟩ := hcs
    unfold maxLen at hm
    have hmm2 : m ≤ mm := by rw [hmm]; split <;> omega
    have each : ∀ i, i < m → w.cell? (a.add (i * 2)) = some (.int .i64 (intOf (V0 i))) ∧ w.cell? (a.add (i * 2 + 1)) = some (.int .i64 (intOf (V1 i))) ∧ (Lit.int .i64 (intOf (V0 i))).wf = true ∧ (Lit.int .i64 (intOf (V1 i))).wf = true := by
      intro i hi'
      obtain ⟨k0, k1, t0, t1⟩ := hi i (by omega)
      obtain ⟨z0, e0, _, w0⟩ := DataW.trod_int i0 t0
      obtain ⟨z1, e1, _, w1⟩ := DataW.trod_int i1 t1
      have e0' : V0 i = .int .i64 z0 := by simpa using e0
      have e1' : V1 i = .int .i64 z1 := by simpa using e1
      rw [k0, k1, e0', e1']
      exact ⟨rfl, rfl, w0, w1⟩
    refine ⟨fun i => intOf (V0 i), fun i => intOf (V1 i), by omega, ?_, fun i hi => ⟨(each i hi).2.2.1, (each i hi).2.2.2⟩⟩
    by_cases hz : m = 0
    · exact .inl hz
    · obtain ⟨b, off, spot⟩ := a
      have hc := (each 0 (by omega)).1
      have hspot : spot = none := by simpa [Addr.add] using World.cell?_spot hc
      subst hspot
      refine .inr ⟨b, off, rfl, World.block_lt_of_cell? w ⟨b, off, none⟩ (by simpa [Addr.add] using hc), fun i hi => ?_⟩
      have e := each i hi
      rw [Addr.add_lit, Addr.add_lit, ← Nat.add_assoc] at e
      exact ⟨e.1, e.2.1⟩

/-- A new slice of n pairs, made after world w. -/
structure Copied2 (w w' : World) (q n : Nat) (f g : Nat → Int) : Prop where
  new : w.heap.size ≤ q
  lt : q < w'.heap.size
  cells : ∀ i, i < n → w'.cell? ⟨q, 0 + i * 2, none⟩ = some (.int .i64 (f i)) ∧ w'.cell? ⟨q, 0 + i * 2 + 1, none⟩ = some (.int .i64 (g i))
  free : ∀ i, w'.frozen? ⟨q, i, none⟩ = false
  below : Below w.heap.size w w'
theorem Copied2.recs {w w' : World} {q n : Nat} {f g : Nat → Int} (h : Copied2 w w' q n f g) : Recs w' (some ⟨q, 0, none⟩) n f g := .inr ⟨q, 0, rfl, h.lt, h.cells⟩

/-- After k rounds of a copy into block q of n pairs. -/
structure Rnd (w wr : World) (q n k : Nat) (f g : Nat → Int) : Prop where
  new : w.heap.size ≤ q
  lt : q < wr.heap.size
  cells : ∀ i, i < k → wr.cell? ⟨q, 0 + i * 2, none⟩ = some (.int .i64 (f i)) ∧ wr.cell? ⟨q, 0 + i * 2 + 1, none⟩ = some (.int .i64 (g i))
  there : ∀ i, i < n * 2 → ∃ u, wr.cell? ⟨q, i, none⟩ = some u
  free : ∀ i, wr.frozen? ⟨q, i, none⟩ = false
  below : Below w.heap.size w wr
theorem Rnd.made {w w1 : World} {E : TypeId} {n : Nat} {xs : List Value} (h : w1.ownsRow w.heap.size E 2 (.slice (some ⟨w.heap.size, 0, none⟩) n n) n xs) (f g : Nat → Int) (b : Below w.heap.size w w1) : Rnd w w1 w.heap.size n 0 f g :=
  ⟨Nat.le_refl _, (h.lt _ rfl).2, fun i hi => absurd hi (Nat.not_lt_zero _), fun i hi => by have hl := h.1; exact ⟨xs[i]'(by omega), (h.cellAt i hi).trans (List.getElem?_eq_getElem (by omega))⟩, fun i => h.frozenAt i, b⟩
theorem Rnd.done {w wr : World} {q n : Nat} {f g : Nat → Int} (h : Rnd w wr q n n f g) : Copied2 w wr q n f g := ⟨h.new, h.lt, h.cells, h.free, h.below⟩
theorem Rnd.later {w wr w' : World} {q n k : Nat} {f g : Nat → Int} (h : Rnd w wr q n k f g) (b : Below wr.heap.size wr w') : Rnd w w' q n k f g :=
  ⟨h.new, Nat.lt_of_lt_of_le h.lt b.size, fun i hi => ⟨(b.cell (p := ⟨q, 0 + i * 2, none⟩) h.lt).trans (h.cells i hi).1, (b.cell (p := ⟨q, 0 + i * 2 + 1, none⟩) h.lt).trans (h.cells i hi).2⟩,
    fun i hi => by obtain ⟨u, hu⟩ := h.there i hi; exact ⟨u, (b.cell (p := ⟨q, i, none⟩) h.lt).trans hu⟩, fun i => (b.frozen (p := ⟨q, i, none⟩) h.lt).trans (h.free i), h.below.trans (b.mono (Nat.le_trans (Nat.le_of_lt_succ (Nat.lt_succ_of_lt (Nat.lt_of_le_of_lt h.new h.lt))) (Nat.le_refl _)))⟩
theorem Rnd.put {w wr : World} {q n k : Nat} {f g : Nat → Int} (h : Rnd w wr q n k f g) (hk : k < n) :
    Rnd w ((wr.setCell ⟨q, k * 2, none⟩ (.int .i64 (f k))).setCell ⟨q, k * 2 + 1, none⟩ (.int .i64 (g k))) q n (k + 1) f g := by
  have c1 : ∀ o, o ≠ k * 2 → o ≠ k * 2 + 1 → ((wr.setCell ⟨q, k * 2, none⟩ (.int .i64 (f k))).setCell ⟨q, k * 2 + 1, none⟩ (.int .i64 (g k))).cell? ⟨q, o, none⟩ = wr.cell? ⟨q, o, none⟩ := fun o h1 h2 =>
    (World.cell?_setCell_other _ _ _ _ (fun e => h2 (congrArg Addr.off e).symm)).trans (World.cell?_setCell_other _ _ _ _ (fun e => h1 (congrArg Addr.off e).symm))
  obtain ⟨u0, e0⟩ := h.there (k * 2) (by omega)
  obtain ⟨u1, e1⟩ := h.there (k * 2 + 1) (by omega)
  have d0 : ((wr.setCell ⟨q, k * 2, none⟩ (.int .i64 (f k))).setCell ⟨q, k * 2 + 1, none⟩ (.int .i64 (g k))).cell? ⟨q, k * 2, none⟩ = some (.int .i64 (f k)) :=
    (World.cell?_setCell_other _ _ _ _ (by simp)).trans (World.cell?_setCell_same _ _ _ e0)
  have d1 : ((wr.setCell ⟨q, k * 2, none⟩ (.int .i64 (f k))).setCell ⟨q, k * 2 + 1, none⟩ (.int .i64 (g k))).cell? ⟨q, k * 2 + 1, none⟩ = some (.int .i64 (g k)) :=
    World.cell?_setCell_same _ _ _ ((World.cell?_setCell_other _ _ _ _ (by simp)).trans e1)
  refine ⟨h.new, by simpa using h.lt, fun i hi => ?_, fun i hi => ?_, fun i => ?_, (h.below.setCell (by exact h.new) _).setCell (by exact h.new) _⟩
  · by_cases e : i = k
    · subst e; rw [Nat.zero_add]; exact ⟨d0, d1⟩
    · have hx := h.cells i (by omega)
      exact ⟨(c1 _ (by omega) (by omega)).trans hx.1, (c1 _ (by omega) (by omega)).trans hx.2⟩
  · by_cases q1 : i = k * 2
    · subst q1; exact ⟨_, d0⟩
    · by_cases q2 : i = k * 2 + 1
      · subst q2; exact ⟨_, d1⟩
      · obtain ⟨u, hu⟩ := h.there i hi; exact ⟨u, (c1 _ q1 q2).trans hu⟩
  · rw [World.frozen?_setCell, World.frozen?_setCell]; exact h.free i
end Go.Proofs.Ytigaoimnhebegaa.Rc
