/-
  Memory that a call makes itself and writes piece by piece: a block of integers read as a matrix; what a loop over one row of it leaves.
-/
import Derived.WalkKit
import Derived.BigQuiet
import Derived.Deep.QuietTactic
import Derived.Handy
import Derived.WalkSmall
import Derived.Laws.IdiomCopy
import Derived.Lib.Hide
namespace Go.Proofs.YtbnjgehgaellmaaDoor.Gr
open Go.RowKit

/-- Behind w, in w1, the n cells of block g from offset o on hold f; all else of what was there is as it was. -/
structure Wrote (k : IntKind) (w w1 : World) (g o n : Nat) (f : Nat → Int) : Prop where
  os : w1.os = w.os
  tape : w1.tape = w.tape
  output : w1.output = w.output
  size : w.heap.size ≤ w1.heap.size
  block : ∀ b, b < w.heap.size → b ≠ g → w1.heap[b]? = w.heap[b]?
  out : ∀ i, i < o ∨ o + n ≤ i → w1.cell? ⟨g, i, none⟩ = w.cell? ⟨g, i, none⟩
  cell : ∀ i, i < n → w1.cell? ⟨g, o + i, none⟩ = some (.int k (f i))
  free : ∀ i, w1.frozen? ⟨g, i, none⟩ = w.frozen? ⟨g, i, none⟩

/-- Block g is the call's own and holds the h rows of wd integers M. -/
structure Mat (k : IntKind) (B : Nat) (w : World) (g h wd : Nat) (M : Nat → Nat → Int) : Prop where
  old : B ≤ g
  lt : g < w.heap.size
  cell : ∀ i j, i < h → j < wd → w.cell? ⟨g, i * wd + j, none⟩ = some (.int k (M i j))
  free : ∀ i, w.frozen? ⟨g, i, none⟩ = false

variable {k : IntKind} {B : Nat} {w w1 w2 : World} {g h wd o n : Nat} {M : Nat → Nat → Int} {f : Nat → Int}

theorem flat_inj {wd i j a b : Nat} (hj : j < wd) (hb : b < wd) (h : i * wd + j = a * wd + b) : i = a ∧ j = b := by
  have hw : 0 < wd := by omega
  have h1 : (i * wd + j) / wd = i := by rw [Nat.mul_comm, Nat.mul_add_div hw, Nat.div_eq_of_lt hj]; rfl
  have h2 : (a * wd + b) / wd = a := by rw [Nat.mul_comm, Nat.mul_add_div hw, Nat.div_eq_of_lt hb]; rfl
  have e : i = a := by rw [← h1, h, h2]
  subst e
  exact ⟨rfl, by omega⟩
theorem flat_lt {h wd i j : Nat} (hi : i < h) (hj : j < wd) : i * wd + j < h * wd := by
  have : (i + 1) * wd ≤ h * wd := Nat.mul_le_mul_right _ hi
  rw [Nat.add_mul, Nat.one_mul] at this
  omega
theorem flat_le {h wd i : Nat} (hi : i < h) : i * wd + wd ≤ h * wd := by
  have : (i + 1) * wd ≤ h * wd := Nat.mul_le_mul_right _ hi
  rwa [Nat.add_mul, Nat.one_mul] at this

theorem Mat.ext {N : Nat → Nat → Int} (m : Mat k B w g h wd M) (e : ∀ i j, i < h → j < wd → M i j = N i j) : Mat k B w g h wd N :=
  ⟨m.old, m.lt, fun i j hi hj => by rw [← e i j hi hj]; exact m.cell i j hi hj, m.free⟩
theorem Mat.below (m : Mat k B w g h wd M) (b : Below w.heap.size w w1) : Mat k B w1 g h wd M :=
  ⟨m.old, Nat.lt_of_lt_of_le m.lt b.size, fun i j hi hj => (b.cell m.lt).trans (m.cell i j hi hj), fun i => (b.frozen m.lt).trans (m.free i)⟩
theorem Mat.alloc (m : Mat k B w g h wd M) (ob : Obj) : Mat k B (w.alloc ob) g h wd M := m.below ((Below.refl _ _).alloc (Nat.le_refl _) _)
theorem Mat.drewN (m : Mat k B w g h wd M) (q : Nat) : Mat k B (w.drewN q) g h wd M := m.below (below_drewN (Below.refl _ _) q)
theorem Mat.put (m : Mat k B w g h wd M) {a b : Nat} (ha : a < h) (hb : b < wd) (v : Int) : Mat k B (w.setCell ⟨g, a * wd + b, none⟩ (.int k v)) g h wd (fun i j => if i = a ∧ j = b then v else M i j) := by
  refine ⟨m.old, by simpa using m.lt, fun i j hi hj => ?_, fun i => (World.frozen?_setCell _ _ _ _).trans (m.free i)⟩
  by_cases e : i = a ∧ j = b
  · obtain ⟨rfl, rfl⟩ := e
    rw [if_pos ⟨rfl, rfl⟩]
    exact World.cell?_setCell_same _ _ _ (m.cell i j hi hj)
  · rw [if_neg e, World.cell?_setCell_other _ _ _ _ (fun h => e ?_)]
    · exact m.cell i j hi hj
    · have := congrArg Addr.off h
      have := flat_inj hj hb this.symm
      exact this
theorem Mat.far (m : Mat k B w g h wd M) {p : Addr} (hp : p.block ≠ g) (v : Value) : Mat k B (w.setCell p v) g h wd M := by
  refine ⟨m.old, by simpa using m.lt, fun i j hi hj => ?_, fun i => (World.frozen?_setCell _ _ _ _).trans (m.free i)⟩
  rw [World.cell?_setCell_other _ _ _ _ (fun h => hp (congrArg Addr.block h))]
  exact m.cell i j hi hj
/-- One row anew. -/
theorem Mat.row (m : Mat k B w g h wd M) {a : Nat} (ha : a < h) (r : Wrote k w w1 g (a * wd) wd f) : Mat k B w1 g h wd (fun i j => if i = a then f j else M i j) := by
  refine ⟨m.old, Nat.lt_of_lt_of_le m.lt r.size, fun i j hi hj => ?_, fun i => (r.free i).trans (m.free i)⟩
  by_cases e : i = a
  · subst e
    rw [if_pos rfl]
    exact r.cell j hj
  · rw [if_neg e, r.out]
    · exact m.cell i j hi hj
    · by_cases hlt : i < a
      · exact .inl (by have := flat_lt hlt hj; omega)
      · refine .inr ?_
        have h1 : (a + 1) * wd ≤ i * wd := Nat.mul_le_mul_right _ (by omega)
        rw [Nat.add_mul, Nat.one_mul] at h1
        omega
theorem Mat.aside (m : Mat k B w g h wd M) {g' : Nat} (r : Wrote k w w1 g' o n f) (hne : g ≠ g') : Mat k B w1 g h wd M :=
  ⟨m.old, Nat.lt_of_lt_of_le m.lt r.size, fun i j hi hj => (World.cell?_of_block (r.block g m.lt hne)).trans (m.cell i j hi hj), fun i => (World.frozen?_of_block (r.block g m.lt hne)).trans (m.free i)⟩
theorem Wrote.below (r : Wrote k w w1 g o n f) {w0 : World} (b : Below w0.heap.size w0 w) (hC : w0.heap.size ≤ g) : Below w0.heap.size w0 w1 :=
  ⟨r.os.trans b.os, r.tape.trans b.tape, r.output.trans b.output, Nat.le_trans b.size r.size, fun i hi => (r.block i (Nat.lt_of_lt_of_le hi b.size) (by omega)).trans (b.block i hi)⟩
theorem Wrote.same (r : Wrote k w w1 g o n f) {p : Addr} (hp : p.block < w.heap.size) (hne : p.block ≠ g) : w1.cell? p = w.cell? p := World.cell?_of_block (r.block p.block hp hne)

/-- After i of n elements. -/
def Part (k : IntKind) (w w1 : World) (g o : Nat) (f : Nat → Int) (i : Nat) : Prop := Wrote k w w1 g o i f
theorem Part.zero : Part k w w g o f 0 := ⟨rfl, rfl, rfl, Nat.le_refl _, fun _ _ _ => rfl, fun _ _ => rfl, fun _ hi => absurd hi (Nat.not_lt_zero _), fun _ => rfl⟩
theorem Part.later {i : Nat} (p : Part k w w1 g o f i) (hg : g < w.heap.size) (b : Below w1.heap.size w1 w2) : Part k w w2 g o f i := by
  have hg1 : g < w1.heap.size := Nat.lt_of_lt_of_le hg p.size
  exact ⟨b.os.trans p.os, b.tape.trans p.tape, b.output.trans p.output, Nat.le_trans p.size b.size, fun c hc hne => (b.block c (Nat.lt_of_lt_of_le hc p.size)).trans (p.block c hc hne),
    fun j hj => (b.cell (p := ⟨g, j, none⟩) hg1).trans (p.out j hj), fun j hj => (b.cell (p := ⟨g, o + j, none⟩) hg1).trans (p.cell j hj), fun j => (b.frozen (p := ⟨g, j, none⟩) hg1).trans (p.free j)⟩
theorem Part.put {i : Nat} (p : Part k w w1 g o f i) {u : Value} (hu : w.cell? ⟨g, o + i, none⟩ = some u) : Part k w (w1.setCell ⟨g, o + i, none⟩ (.int k (f i))) g o f (i + 1) := by
  have hu1 : w1.cell? ⟨g, o + i, none⟩ = some u := (p.out (o + i) (.inr (Nat.le_refl _))).trans hu
  refine ⟨p.os, p.tape, p.output, by simpa using p.size, fun c hc hne => ?_, fun j hj => ?_, fun j hj => ?_, fun j => (World.frozen?_setCell _ _ _ _).trans (p.free j)⟩
  · rw [Below.heap_setCell _ _ _ _ hne]; exact p.block c hc hne
  · rw [World.cell?_setCell_other _ _ _ _ (fun h => by have := congrArg Addr.off h; simp at this; omega)]
    exact p.out j (by omega)
  · by_cases e : j = i
    · subst e; exact World.cell?_setCell_same _ _ _ hu1
    · rw [World.cell?_setCell_other _ _ _ _ (fun h => by have := congrArg Addr.off h; simp at this; omega)]
      exact p.cell j (by omega)
theorem Part.done (p : Part k w w1 g o f n) : Wrote k w w1 g o n f := p
/-- copy(row, cells): whole cells at once. -/
theorem Wrote.copied {cs : List Int} (hc : ∀ j, j < cs.length → (w.cell? ⟨g, o + j, none⟩).isSome = true) : Wrote k w (w.setCells g o (cs.map (Value.int k))) g o cs.length (fun i => cs.getD i 0) := by
  have K := World.keptBut_setCells g (may := fun _ => True) (cs.map (Value.int k)) o w (fun _ _ => trivial)
  have hsz : ∀ (vs : List Value) (o : Nat) (w : World), (w.setCells g o vs).heap.size = w.heap.size := by
    intro vs
    induction vs with
    | nil => intro o w; rfl
    | cons v r ih => intro o w; rw [World.setCells, ih]; simp
  have hbl : ∀ (vs : List Value) (o : Nat) (w : World) (c : Nat), c ≠ g → (w.setCells g o vs).heap[c]? = w.heap[c]? := by
    intro vs
    induction vs with
    | nil => intro o w c _; rfl
    | cons v r ih => intro o w c hc; rw [World.setCells, ih _ _ _ hc]; exact Below.heap_setCell _ _ _ _ hc
  have htape : ∀ (vs : List Value) (o : Nat) (w : World), (w.setCells g o vs).tape = w.tape := by
    intro vs
    induction vs with
    | nil => intro o w; rfl
    | cons v r ih => intro o w; rw [World.setCells, ih]; rfl
  refine ⟨K.1, htape _ _ _, K.2.1, Nat.le_of_eq (hsz _ _ _).symm, fun c _ hne => hbl _ _ _ _ hne, fun j hj => ?_, fun j hj => ?_, fun j => World.frozen?_setCells _ _ _ _ _⟩
  · exact World.cell?_setCells_out _ _ _ _ _ (fun _ _ => by simp; omega)
  · have := World.cell?_setCells_in g (cs.map (Value.int k)) o w (fun j hj => hc j (by simpa using hj)) j (by simpa using hj)
    rw [this, List.getElem_map, List.getD_eq_getElem?_getD, List.getElem?_eq_getElem hj]; rfl
/-- A block that make has laid. -/
theorem Mat.made {e : TypeId} {xs : List Value} {n : Nat} (ho : w1.ownsRow w.heap.size e 1 (.slice (some ⟨w.heap.size, 0, none⟩) n n) n xs) (hx : xs = List.replicate n (Value.int k 0)) (hn : n = h * wd) :
    Mat k w.heap.size w1 w.heap.size h wd (fun _ _ => 0) := by
  refine ⟨Nat.le_refl _, (ho.lt _ rfl).2, fun i j hi hj => ?_, fun i => ho.frozenAt i⟩
  have hlt := flat_lt hi hj
  rw [ho.cellAt _ (by omega), hx, List.getElem?_replicate, if_pos (by omega)]
end Go.Proofs.YtbnjgehgaellmaaDoor.Gr
