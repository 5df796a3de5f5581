/-
  Slices of buckets copied by the laws' own helper.
-/
import Derived.Test.YtgfpngjfhmiphaaBkt2
import Derived.OwnWalk
import Derived.Laws.MakeOwn
namespace Go.Proofs.Ytgfpngjfhmiphaa.Bk
open Go.RowKit Go.Proofs.Ytgfpngjfhmiphaa.At Go.Proofs.Ytgfpngjfhmiphaa.MixC Go.Proofs.Ytgfpngjfhmiphaa.Ml
open Go.Proofs.Ytgfpngjfhmiphaa.It (lay)
set_option linter.unusedVariables false

theorem infoB : (Try.prog.info? 133).map (fun i => (i.zero, i.size, i.bytes)) = some (some (.agg #[.int .i64 0, .int .i64 0, .slice none 0 0]), 3, 40) := by kernel_rfl
theorem words_set {w : World} {j : Nat} {zs : List Int} {p : Addr} (h : Words w (some ⟨j, 0, none⟩) zs) (hp : p.block ≠ j) (v : Value) : Words (w.setCell p v) (some ⟨j, 0, none⟩) zs := by
  rcases h with h | ⟨b, off, e, hB, hc⟩
  · exact .inl h
  · simp only [Option.some.injEq, Addr.mk.injEq, and_true] at e
    obtain ⟨rfl, rfl⟩ := e
    exact .inr ⟨_, _, rfl, by simpa using hB, fun i hi => (World.cell?_setCell_other _ _ _ _ (fun q => hp (congrArg Addr.block q))).trans (hc i hi)⟩

/-- After k rounds of a copy into block q of n buckets. -/
structure RndB (w wr : World) (q n k : Nat) (f g : Nat → Int) (L : Nat → List Int) (J : Nat → Nat) : Prop where
  new : w.heap.size ≤ q
  lt : q < wr.heap.size
  asc : ∀ i i', i < i' → i' < k → J i < J i'
  cells : ∀ i, i < k → wr.cell? ⟨q, 0 + i * 3, none⟩ = some (.int .i64 (f i)) ∧ wr.cell? ⟨q, 0 + i * 3 + 1, none⟩ = some (.int .i64 (g i)) ∧
    wr.cell? ⟨q, 0 + i * 3 + 2, none⟩ = some (.slice (some ⟨J i, 0, none⟩) (L i).length (L i).length) ∧ q < J i ∧ J i < wr.heap.size ∧ Words wr (some ⟨J i, 0, none⟩) (L i) ∧ ∀ o, wr.frozen? ⟨J i, o, none⟩ = false
  there : ∀ i, i < n * 3 → ∃ u, wr.cell? ⟨q, i, none⟩ = some u
  free : ∀ i, wr.frozen? ⟨q, i, none⟩ = false
  below : Below w.heap.size w wr
theorem RndB.made {w w1 : World} {E : TypeId} {n : Nat} {xs : List Value} (h : w1.ownsRow w.heap.size E 3 (.slice (some ⟨w.heap.size, 0, none⟩) n n) n xs) (f g : Nat → Int) (L : Nat → List Int) (b : Below w.heap.size w w1) : RndB w w1 w.heap.size n 0 f g L (fun _ => 0) :=
  ⟨Nat.le_refl _, (h.lt _ rfl).2, fun i i' _ hi => absurd hi (Nat.not_lt_zero _), fun i hi => absurd hi (Nat.not_lt_zero _), fun i hi => by have hl := h.1; exact ⟨xs[i]'(by omega), (h.cellAt i hi).trans (List.getElem?_eq_getElem (by omega))⟩, fun i => h.frozenAt i, b⟩
theorem RndB.later {w wr w' : World} {q n k : Nat} {f g : Nat → Int} {L : Nat → List Int} {J : Nat → Nat} (h : RndB w wr q n k f g L J) (b : Below wr.heap.size wr w') : RndB w w' q n k f g L J := by
  have hJ := h.cells
  have hn := h.new
  have hl := h.lt
  refine ⟨h.new, Nat.lt_of_lt_of_le h.lt b.size, h.asc, fun i hi => ?_, fun i hi => ?_, fun i => (b.frozen (p := ⟨q, i, none⟩) h.lt).trans (h.free i), h.below.trans (b.mono (by omega))⟩
  · obtain ⟨c0, c1, c2, j0, j1, wd, fr⟩ := hJ i hi
    exact ⟨(b.cell (p := ⟨q, 0 + i * 3, none⟩) hl).trans c0, (b.cell (p := ⟨q, 0 + i * 3 + 1, none⟩) hl).trans c1, (b.cell (p := ⟨q, 0 + i * 3 + 2, none⟩) hl).trans c2, j0, Nat.lt_of_lt_of_le j1 b.size, wd.below b, fun o => (b.frozen (p := ⟨J i, o, none⟩) j1).trans (fr o)⟩
  · obtain ⟨u, hu⟩ := h.there i hi
    exact ⟨u, (b.cell (p := ⟨q, i, none⟩) hl).trans hu⟩
theorem RndB.put {w wr : World} {q n k j : Nat} {f g : Nat → Int} {L : Nat → List Int} {J : Nat → Nat} (h : RndB w wr q n k f g L J) (hk : k < n) (ha : ∀ i, i < k → J i < j) (j0 : q < j) (j1 : j < wr.heap.size) (wj : Words wr (some ⟨j, 0, none⟩) (L k)) (fj : ∀ o, wr.frozen? ⟨j, o, none⟩ = false) :
    RndB w (((wr.setCell ⟨q, k * 3, none⟩ (.int .i64 (f k))).setCell ⟨q, k * 3 + 1, none⟩ (.int .i64 (g k))).setCell ⟨q, k * 3 + 2, none⟩ (.slice (some ⟨j, 0, none⟩) (L k).length (L k).length)) q n (k + 1) f g L (fun i => if i = k then j else J i) := by
  have hJ := h.cells
  have far : ∀ o, o ≠ k * 3 → o ≠ k * 3 + 1 → o ≠ k * 3 + 2 → (((wr.setCell ⟨q, k * 3, none⟩ (.int .i64 (f k))).setCell ⟨q, k * 3 + 1, none⟩ (.int .i64 (g k))).setCell ⟨q, k * 3 + 2, none⟩ (.slice (some ⟨j, 0, none⟩) (L k).length (L k).length)).cell? ⟨q, o, none⟩ = wr.cell? ⟨q, o, none⟩ := fun o h1 h2 h3 =>
    ((World.cell?_setCell_other _ _ _ _ (fun e => h3 (congrArg Addr.off e).symm)).trans (World.cell?_setCell_other _ _ _ _ (fun e => h2 (congrArg Addr.off e).symm))).trans (World.cell?_setCell_other _ _ _ _ (fun e => h1 (congrArg Addr.off e).symm))
  obtain ⟨u0, e0⟩ := h.there (k * 3) (by omega)
  obtain ⟨u1, e1⟩ := h.there (k * 3 + 1) (by omega)
  obtain ⟨u2, e2⟩ := h.there (k * 3 + 2) (by omega)
  have d0 := ((World.cell?_setCell_other ((wr.setCell ⟨q, k * 3, none⟩ (.int .i64 (f k))).setCell ⟨q, k * 3 + 1, none⟩ (.int .i64 (g k))) ⟨q, k * 3 + 2, none⟩ ⟨q, k * 3, none⟩ (.slice (some ⟨j, 0, none⟩) (L k).length (L k).length) (by simp)).trans (World.cell?_setCell_other (wr.setCell ⟨q, k * 3, none⟩ (.int .i64 (f k))) ⟨q, k * 3 + 1, none⟩ ⟨q, k * 3, none⟩ (.int .i64 (g k)) (by simp))).trans (World.cell?_setCell_same wr ⟨q, k * 3, none⟩ (.int .i64 (f k)) e0)
  have d1 := (World.cell?_setCell_other ((wr.setCell ⟨q, k * 3, none⟩ (.int .i64 (f k))).setCell ⟨q, k * 3 + 1, none⟩ (.int .i64 (g k))) ⟨q, k * 3 + 2, none⟩ ⟨q, k * 3 + 1, none⟩ (.slice (some ⟨j, 0, none⟩) (L k).length (L k).length) (by simp)).trans (World.cell?_setCell_same (wr.setCell ⟨q, k * 3, none⟩ (.int .i64 (f k))) ⟨q, k * 3 + 1, none⟩ (.int .i64 (g k)) ((World.cell?_setCell_other _ _ _ _ (by simp)).trans e1))
  have d2 := World.cell?_setCell_same ((wr.setCell ⟨q, k * 3, none⟩ (.int .i64 (f k))).setCell ⟨q, k * 3 + 1, none⟩ (.int .i64 (g k))) ⟨q, k * 3 + 2, none⟩ (.slice (some ⟨j, 0, none⟩) (L k).length (L k).length) ((World.cell?_setCell_other _ _ _ _ (by simp)).trans ((World.cell?_setCell_other _ _ _ _ (by simp)).trans e2))
  have ws : ∀ i zs, i ≠ q → Words wr (some ⟨i, 0, none⟩) zs → Words (((wr.setCell ⟨q, k * 3, none⟩ (.int .i64 (f k))).setCell ⟨q, k * 3 + 1, none⟩ (.int .i64 (g k))).setCell ⟨q, k * 3 + 2, none⟩ (.slice (some ⟨j, 0, none⟩) (L k).length (L k).length)) (some ⟨i, 0, none⟩) zs := fun i zs hi hw =>
    words_set (words_set (words_set hw (fun e => hi e.symm) _) (fun e => hi e.symm) _) (fun e => hi e.symm) _
  refine ⟨h.new, by simpa using h.lt, fun i i' hi hi' => ?_, fun i hi => ?_, fun i hi => ?_, fun i => ?_, ((h.below.setCell (by exact h.new) _).setCell (by exact h.new) _).setCell (by exact h.new) _⟩
  · show (if i = k then j else J i) < (if i' = k then j else J i')
    rw [if_neg (show ¬ i = k by omega)]
    by_cases e : i' = k
    · rw [if_pos e]; exact ha i (by omega)
    · rw [if_neg e]; exact h.asc i i' hi (by omega)
  · by_cases e : i = k
    · subst e; (try dsimp only); rw [Nat.zero_add, if_pos rfl]; exact ⟨d0, d1, d2, j0, by simpa using j1, ws _ _ (by omega) wj, fun o => by rw [World.frozen?_setCell, World.frozen?_setCell, World.frozen?_setCell]; exact fj o⟩
    · obtain ⟨c0, c1, c2, x0, x1, wd, fr⟩ := hJ i (by omega)
      (try dsimp only)
      rw [if_neg e]
      exact ⟨(far _ (by omega) (by omega) (by omega)).trans c0, (far _ (by omega) (by omega) (by omega)).trans c1, (far _ (by omega) (by omega) (by omega)).trans c2, x0, by simpa using x1, ws _ _ (by omega) wd, fun o => by rw [World.frozen?_setCell, World.frozen?_setCell, World.frozen?_setCell]; exact fr o⟩
  · by_cases q0 : i = k * 3
    · subst q0; exact ⟨_, d0⟩
    · by_cases q1 : i = k * 3 + 1
      · subst q1; exact ⟨_, d1⟩
      · by_cases q2 : i = k * 3 + 2
        · subst q2; exact ⟨_, d2⟩
        · obtain ⟨u, hu⟩ := h.there i hi; exact ⟨u, (far _ q0 q1 q2).trans hu⟩
  · rw [World.frozen?_setCell, World.frozen?_setCell, World.frozen?_setCell]; exact h.free i
/-- A copy made after world w. -/
def SliceOfB (n : Nat) (f g : Nat → Int) (L : Nat → List Int) (w : World) (e : Ending) (w' : World) : Prop := ∃ q J, e = .returned (.slice (some ⟨q, 0, none⟩) n n) ∧ RndB w w' q n n f g L J
theorem RndB.bks {w w' : World} {q n : Nat} {f g : Nat → Int} {L : Nat → List Int} {J : Nat → Nat} (h : RndB w w' q n n f g L J) : ∃ I, Bks w' (some ⟨q, 0, none⟩) n f g I L (fun i => (L i).length) := by
  have hJ := h.cells
  exact ⟨fun i => some ⟨J i, 0, none⟩, .inr ⟨q, 0, rfl, h.lt, fun i hi => ⟨(hJ i hi).1, (hJ i hi).2.1, (hJ i hi).2.2.1, (hJ i hi).2.2.2.2.2.1⟩⟩⟩
end Go.Proofs.Ytgfpngjfhmiphaa.Bk
