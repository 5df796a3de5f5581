/-
  The laws' own helpers on matrices: a copy of a matrix that came in, whether two matrices hold the same, marks laid into one and found again.
-/
import Derived.Test.YtbnjgehgaellmaaDoorInts
import Derived.Test.YtbnjgehgaellmaaDoorGrid
namespace Go.Proofs.YtbnjgehgaellmaaDoor.Ml
open Go.RowKit Go.Proofs.YtbnjgehgaellmaaDoor.At Go.Proofs.YtbnjgehgaellmaaDoor.MixC
set_option linter.unusedVariables false

/-- A matrix as a value. -/
abbrev mval (h wd : Int) (c : Value) : Value := .agg #[.int .i64 h, .int .i64 wd, c]

/-- A number, and memory that was there is as it was. -/
def IntB (n : Int) (w : World) (e : Ending) (w' : World) : Prop := e = .returned (.int .i64 n) ∧ Below w.heap.size w w'

theorem cfrom {w W w1 : World} {g : Nat} {zs : List Int} (K : Copied W w1 g zs) (b : Below w.heap.size w W) : Copied w w1 g zs :=
  ⟨Nat.le_trans b.size K.new, K.lt, K.nums, K.free, b.trans (K.below.mono b.size)⟩
theorem cset {w w1 : World} {g : Nat} {zs : List Int} (K : Copied w w1 g zs) {p : Addr} (hp : p.block ≠ g) (h0 : w.heap.size ≤ p.block) (v : Value) : Copied w (w1.setCell p v) g zs :=
  ⟨K.new, by simpa using K.lt, fun i hi => (World.cell?_setCell_other _ _ _ _ (fun e => hp (congrArg Addr.block e))).trans (K.nums i hi), fun i => (World.frozen?_setCell _ _ _ _).trans (K.free i), K.below.setCell h0 v⟩
/-- A box of three cells that lay in V on top, one block more. -/
theorem box3 {V w1 : World} {x y z : Value} {T : TypeId} (b : Below (V.alloc (.cells #[x, y, z] T)).heap.size (V.alloc (.cells #[x, y, z] T)) w1) :
    w1.cell? ⟨V.heap.size, 0, none⟩ = some x ∧ w1.cell? ⟨V.heap.size, 1, none⟩ = some y ∧ w1.cell? ⟨V.heap.size, 2, none⟩ = some z ∧ w1.frozen? ⟨V.heap.size, 0, none⟩ = false ∧ w1.frozen? ⟨V.heap.size, 1, none⟩ = false ∧ w1.frozen? ⟨V.heap.size, 2, none⟩ = false := by
  have c : ∀ i, w1.cell? ⟨V.heap.size, i, none⟩ = (V.alloc (.cells #[x, y, z] T)).cell? ⟨V.heap.size, i, none⟩ := fun i => b.cell (by simp)
  have f : ∀ i, w1.frozen? ⟨V.heap.size, i, none⟩ = false := fun i => (b.frozen (by simp)).trans (World.frozen?_alloc_at _ _ _ _ rfl)
  exact ⟨(c 0).trans (World.cell?_alloc_new _ _ _ _), (c 1).trans (World.cell?_alloc_new _ _ _ _), (c 2).trans (World.cell?_alloc_new _ _ _ _), f 0, f 1, f 2⟩
theorem box3' {V w1 : World} {x y z : Value} {T : TypeId} {O : Obj} (b : Below ((V.alloc (.cells #[x, y, z] T)).alloc O).heap.size ((V.alloc (.cells #[x, y, z] T)).alloc O) w1) :
    w1.cell? ⟨V.heap.size, 0, none⟩ = some x ∧ w1.cell? ⟨V.heap.size, 1, none⟩ = some y ∧ w1.cell? ⟨V.heap.size, 2, none⟩ = some z ∧ w1.frozen? ⟨V.heap.size, 0, none⟩ = false ∧ w1.frozen? ⟨V.heap.size, 1, none⟩ = false ∧ w1.frozen? ⟨V.heap.size, 2, none⟩ = false :=
  box3 (((Below.refl _ _).alloc (Nat.le_refl _) O).trans (b.mono (by rw [World.size_alloc _ O]; omega)))

/-- A copy of a matrix, its cells a new slice. -/
def MatCopy (h wd : Int) (zs : List Int) (w : World) (e : Ending) (w' : World) : Prop :=
  ∃ g, e = .returned (mval h wd (.slice (some ⟨g, 0, none⟩) zs.length zs.length)) ∧ Copied w w' g zs

def TrueB (w : World) (e : Ending) (w' : World) : Prop := e = .returned (.bool true) ∧ Below w.heap.size w w'

/-- The n cells of a slice are there and may be written. -/
def Mine (w : World) (a : Option Addr) (n : Nat) : Prop :=
  n = 0 ∨ ∃ g, a = some ⟨g, 0, none⟩ ∧ g < w.heap.size ∧ (∀ i, i < n → ∃ v, w.cell? ⟨g, i, none⟩ = some v) ∧ ∀ i, w.frozen? ⟨g, i, none⟩ = false
/-- The n cells of a slice hold the numbers from k on. -/
def Marks (w : World) (a : Option Addr) (n : Nat) (k : Int) : Prop :=
  n = 0 ∨ ∃ g, a = some ⟨g, 0, none⟩ ∧ g < w.heap.size ∧ ∀ i : Nat, i < n → w.cell? ⟨g, i, none⟩ = some (.int .i64 (k + i))
def rowOf (a : Option Addr) : Option Nat := a.map Addr.block
def Marked (w : World) (a : Option Addr) (n : Nat) (k : Int) (e : Ending) (w' : World) : Prop :=
  e = .returned (.int .i64 (k + n)) ∧ Marks w' a n k ∧ w.grownBy w' (rowOf a)
theorem Marks.below {w w' : World} {a : Option Addr} {n : Nat} {k : Int} (h : Marks w a n k) (b : Below w.heap.size w w') : Marks w' a n k := by
  rcases h with h | ⟨g, ha, hg, hc⟩
  · exact .inl h
  · exact .inr ⟨g, ha, Nat.lt_of_lt_of_le hg b.size, fun i hi => (b.cell hg).trans (hc i hi)⟩
theorem Mine.below {w w' : World} {a : Option Addr} {n : Nat} (h : Mine w a n) (b : Below w.heap.size w w') : Mine w' a n := by
  rcases h with h | ⟨g, ha, hg, hc, hf⟩
  · exact .inl h
  · exact .inr ⟨g, ha, Nat.lt_of_lt_of_le hg b.size, fun i hi => by obtain ⟨v, hv⟩ := hc i hi; exact ⟨v, (b.cell hg).trans hv⟩, fun i => (b.frozen hg).trans (hf i)⟩
theorem grown_of_below {w w' : World} (b : Below w.heap.size w w') (r : Option Nat) : w.grownBy w' r := ⟨b.os, b.tape, b.output, b.size, fun k hk _ => b.block k hk⟩
theorem grown_trans {a b c : World} {r : Option Nat} (h : a.grownBy b r) (k : b.grownBy c r) : a.grownBy c r :=
  ⟨k.os.trans h.os, k.tape.trans h.tape, k.output.trans h.output, Nat.le_trans h.size k.size, fun i hi hne => (k.block i (Nat.lt_of_lt_of_le hi h.size) hne).trans (h.block i hi hne)⟩
theorem grown_of_part {w w' : World} {g i : Nat} {f : Nat → Int} (p : Gr.Part .i64 w w' g 0 f i) : w.grownBy w' (some g) :=
  ⟨p.os, p.tape, p.output, p.size, fun c hc hne => p.block c hc (fun e => hne (by rw [e]))⟩

end Go.Proofs.YtbnjgehgaellmaaDoor.Ml
