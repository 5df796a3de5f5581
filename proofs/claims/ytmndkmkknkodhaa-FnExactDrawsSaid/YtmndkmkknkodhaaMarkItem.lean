/-
  Marks laid into a slice of items that the law itself copied.
-/
import Derived.Test.YtmndkmkknkodhaaItemS
import Derived.Test.YtmndkmkknkodhaaMatRes2
namespace Go.Proofs.Ytmndkmkknkodhaa.Rc
open Go.RowKit Go.Proofs.Ytmndkmkknkodhaa.It
set_option linter.unusedVariables false

/-- The cells of n pairs in block q are there and may be written. -/
structure There (w : World) (q n : Nat) : Prop where
  lt : q < w.heap.size
  there : ∀ i, i < n * 2 → ∃ u, w.cell? ⟨q, i, none⟩ = some u
  free : ∀ i, w.frozen? ⟨q, i, none⟩ = false
theorem There.of {w w' : World} {q n : Nat} {f g : Nat → Int} (h : Copied2 w w' q n f g) : There w' q n :=
  ⟨h.lt, fun i hi => by
    by_cases e : i % 2 = 0
    · have := (h.cells (i / 2) (by omega)).1
      rw [Nat.zero_add, show i / 2 * 2 = i from by omega] at this; exact ⟨_, this⟩
    · have := (h.cells (i / 2) (by omega)).2
      rw [Nat.zero_add, show i / 2 * 2 + 1 = i from by omega] at this; exact ⟨_, this⟩, h.free⟩
theorem There.below {w w' : World} {q n : Nat} (h : There w q n) (b : Below w.heap.size w w') : There w' q n :=
  ⟨Nat.lt_of_lt_of_le h.lt b.size, fun i hi => by obtain ⟨u, hu⟩ := h.there i hi; exact ⟨u, (b.cell (p := ⟨q, i, none⟩) h.lt).trans hu⟩, fun i => (b.frozen (p := ⟨q, i, none⟩) h.lt).trans (h.free i)⟩
theorem There.put {w : World} {q n : Nat} (h : There w q n) (o : Nat) (ho : o < n * 2) (v : Value) : There (w.setCell ⟨q, o, none⟩ v) q n :=
  ⟨by simpa using h.lt, fun i hi => by
    by_cases e : o = i
    · subst e; obtain ⟨u, hu⟩ := h.there o hi; exact ⟨v, World.cell?_setCell_same _ _ _ hu⟩
    · obtain ⟨u, hu⟩ := h.there i hi; exact ⟨u, (World.cell?_setCell_other _ _ _ _ (fun x => e (congrArg Addr.off x))).trans hu⟩, fun i => (World.frozen?_setCell _ _ _ _).trans (h.free i)⟩
/-- Only block q has turned. -/
def MarkB (q : Nat) (k : Int) (w : World) (e : Ending) (w' : World) : Prop := e = .returned (.int .i64 k) ∧ w.grownBy w' (some q)
theorem grown_set {w wr : World} {q : Nat} (h : w.grownBy wr (some q)) (o : Nat) (v : Value) : w.grownBy (wr.setCell ⟨q, o, none⟩ v) (some q) :=
  ⟨h.os, h.tape, h.output, by simpa using h.size, fun k hk hne => (Below.heap_setCell _ _ _ _ (fun e => hne (by rw [e]))).trans (h.block k hk hne)⟩

set_option maxRecDepth 100000 in
set_option maxHeartbeats 1000000 in
theorem markItemS (q cap n : Nat) (hn : n ≤ 2097152) (w : World) (h : There w q n) :
    Calls Try.prog 64 #[.slice (some ⟨q, 0, none⟩) n cap, .int .i64 1] w (MarkB q (1 + 2 * n) w) := by
  go_enter Try.func64, Try.ntmps64
  go_wp2
  go_loopw [1, 5] (fun m i wr => ∃ k : Nat, k ≤ n ∧ i = .int .i64 k ∧ m = .int .i64 (1 + 2 * k) ∧ There wr q n ∧ w.grownBy wr (some q)) (fun _ i _ => n - (intOf i).toNat)
  case atStart => exact ⟨0, by omega, rfl, by simp, h, ⟨rfl, rfl, rfl, Nat.le_refl _, fun _ _ _ => rfl⟩⟩
  case round =>
    obtain ⟨k, hk, rfl, rfl, T, G⟩ := hrel
    by_cases hlt : k < n
    · obtain ⟨u0, c0⟩ := T.there (k * 2) (by omega)
      have f0 := T.free (k * 2)
      have T1 := T.put (k * 2) (by omega) (.int .i64 (1 + 2 * k))
      obtain ⟨u1, c1⟩ := T1.there (k * 2 + 1) (by omega)
      have f1 := T1.free (k * 2 + 1)
      have T2 := Lib.hid (T1.put (k * 2 + 1) (by omega) (.int .i64 (1 + 2 * k + 1)))
      have G2 := Lib.hid (grown_set (grown_set G (k * 2) (.int .i64 (1 + 2 * k))) (k * 2 + 1) (.int .i64 (1 + 2 * k + 1)))
      clear T T1 G h
      go_wp2
      go_roundw
      case rel => exact ⟨k + 1, by omega, by go_num, by go_num, T2.out, G2.out⟩
      case measure => simp [intOf]; omega
    · obtain rfl : k = n := by omega
      have F := Lib.hid (show MarkB q (1 + 2 * k) w (.returned (.int .i64 (1 + 2 * k))) wr from ⟨rfl, G⟩)
      clear G T
      go_wp2
      go_ret
      exact F.out
end Go.Proofs.Ytmndkmkknkodhaa.Rc
