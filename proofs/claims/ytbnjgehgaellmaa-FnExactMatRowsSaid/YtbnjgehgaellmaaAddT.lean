/-
  A multiple of one row added to another, in place: what the program's addTimes leaves.
-/
import Derived.Test.YtbnjgehgaellmaaGridFn
import Derived.Deep.RegionWith
namespace Go.Proofs.Ytbnjgehgaellmaa.Gf2
open Go.RowKit Go.Proofs.Ytbnjgehgaellmaa.At Go.Proofs.Ytbnjgehgaellmaa.MixC Go.Proofs.Ytbnjgehgaellmaa.Ml Go.Proofs.Ytbnjgehgaellmaa.Gr Go.Proofs.Ytbnjgehgaellmaa.Gj Go.Proofs.Ytbnjgehgaellmaa.GfI
set_option linter.unusedVariables false

/-- The powers of f lie in block p, which is new. -/
structure Pbx (w wr : World) (f : Int) (p : Nat) : Prop where
  new : w.heap.size ≤ p
  lt : p < wr.heap.size
  cell : ∀ i, i < 8 → wr.cell? ⟨p, i, none⟩ = some (.int .i64 (pwZ f i))
theorem Pbx.below {w wr w2 : World} {f : Int} {p : Nat} (h : Pbx w wr f p) (b : Below wr.heap.size wr w2) : Pbx w w2 f p :=
  ⟨h.new, Nat.lt_of_lt_of_le h.lt b.size, fun i hi => (b.cell h.lt).trans (h.cell i hi)⟩
theorem Pbx.put {w wr : World} {f : Int} {p : Nat} (h : Pbx w wr f p) {a : Addr} (ha : a.block < w.heap.size) (v : Value) : Pbx w (wr.setCell a v) f p :=
  ⟨h.new, by simpa using h.lt, fun i hi => (World.cell?_setCell_other _ _ _ _ (fun e => by have := congrArg Addr.block e; have h2 := h.new; simp at this; omega)).trans (h.cell i hi)⟩
/-- What a callee that fills a row leaves. -/
def RowSet (k : IntKind) (w : World) (g o n : Nat) (F : Nat → Int) (e : Ending) (w' : World) : Prop := e = .returned (.tuple #[]) ∧ Wrote k w w' g o n F

end Go.Proofs.Ytbnjgehgaellmaa.Gf2
