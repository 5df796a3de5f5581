/-
  Marks laid into a slice of items that the law itself copied.
-/
import Derived.Test.YtgfpngjfhmiphaaItemS
import Derived.Test.YtgfpngjfhmiphaaMatRes2
namespace Go.Proofs.Ytgfpngjfhmiphaa.Rc
open Go.RowKit Go.Proofs.Ytgfpngjfhmiphaa.It
set_option linter.unusedVariables false

/-- The cells of n pairs in block q are there and may be written. -/
structure There (w : World) (q n : Nat) : Prop where
  lt : q < w.heap.size
  there : ∀ i, i < n * 2 → ∃ u, w.cell? ⟨q, i, none⟩ = some u
  free : ∀ i, w.frozen? ⟨q, i, none⟩ = false
theorem There.of {w w' : World} {q n : Nat} {f g : Nat → Int} (h : Copied2 w w' q n f g) : There w' q n :=
  ⟨h.lt, fun i hi => by
    by_cases e : i % 2 = 0
    · have := (h.cells (i / 2) (by omega)).1
      rw [Nat.zero_add, show i / 2 * 2 = i from by omega] at this; exact ⟨_, this⟩
    · have := (h.cells (i / 2) (by omega)).2
      rw [Nat.zero_add, show i / 2 * 2 + 1 = i from by omega] at this; exact ⟨_, this⟩, h.free⟩
theorem There.below {w w' : World} {q n : Nat} (h : There w q n) (b : Below w.heap.size w w') : There w' q n :=
  ⟨Nat.lt_of_lt_of_le h.lt b.size, fun i hi => by obtain ⟨u, hu⟩ := h.there i hi; exact ⟨u, (b.cell (p := ⟨q, i, none⟩) h.lt).trans hu⟩, fun i => (b.frozen (p := ⟨q, i, none⟩) h.lt).trans (h.free i)⟩
theorem There.put {w : World} {q n : Nat} (h : There w q n) (o : Nat) (ho : o < n * 2) (v : Value) : There (w.setCell ⟨q, o, none⟩ v) q n :=
  ⟨by simpa using h.lt, fun i hi => by
    by_cases e : o = i
    · subst e; obtain ⟨u, hu⟩ := h.there o hi; exact ⟨v, World.cell?_setCell_same _ _ _ hu⟩
    · obtain ⟨u, hu⟩ := h.there i hi; exact ⟨u, (World.cell?_setCell_other _ _ _ _ (fun x => e (congrArg Addr.off x))).trans hu⟩, fun i => (World.frozen?_setCell _ _ _ _).trans (h.free i)⟩
/-- Only block q has turned. -/
def MarkB (q : Nat) (k : Int) (w : World) (e : Ending) (w' : World) : Prop := e = .returned (.int .i64 k) ∧ w.grownBy w' (some q)
theorem grown_set {w wr : World} {q : Nat} (h : w.grownBy wr (some q)) (o : Nat) (v : Value) : w.grownBy (wr.setCell ⟨q, o, none⟩ v) (some q) :=
  ⟨h.os, h.tape, h.output, by simpa using h.size, fun k hk hne => (Below.heap_setCell _ _ _ _ (fun e => hne (by rw [e]))).trans (h.block k hk hne)⟩

end Go.Proofs.Ytgfpngjfhmiphaa.Rc
