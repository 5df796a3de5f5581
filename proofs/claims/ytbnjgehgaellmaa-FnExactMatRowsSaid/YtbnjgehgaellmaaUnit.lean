/-
  The unit matrix: what the program's and the model's functions return.
-/
import Derived.Test.YtbnjgehgaellmaaMatRes
import Derived.Test.YtbnjgehgaellmaaGfSpec
namespace Go.Proofs.Ytbnjgehgaellmaa.Gf2
open Go.RowKit Go.Proofs.Ytbnjgehgaellmaa.At Go.Proofs.Ytbnjgehgaellmaa.MixC Go.Proofs.Ytbnjgehgaellmaa.Ml Go.Proofs.Ytbnjgehgaellmaa.Gr Go.Proofs.Ytbnjgehgaellmaa.Gj Go.Proofs.Ytbnjgehgaellmaa.GfS
set_option linter.unusedVariables false

theorem unit_cell : ∀ n, n < 9 → ∀ x, x < n * n → ((x % (n + 1) = 0) ↔ (x / n = x % n)) := by decide
def uF (n : Nat) (x : Nat) : Int := if x % (n + 1) = 0 then 1 else 0
theorem uF_flat {n : Nat} (hn : n < 9) : (List.range (n * n)).map (uF n) = flat n n unitZ := by
  unfold flat
  refine List.map_congr_left fun x hx => ?_
  have := unit_cell n hn x (List.mem_range.1 hx)
  unfold uF unitZ
  by_cases e : x % (n + 1) = 0
  · rw [if_pos e, if_pos (this.1 e)]
  · rw [if_neg e, if_neg (fun q => e (this.2 q))]

theorem err_res {h wd : Int} {zs : List Int} {err : Int} {w w' : World} {a : Option Addr} {L cap : Nat} (hL : L = zs.length) (O : OwnS w w' a zs) (b : Below w.heap.size w w') : MatErr h wd zs err w (.returned (.tuple #[mval h wd (.slice a L cap), .int .i64 err])) w' :=
  ⟨a, cap, by rw [hL], O, b⟩
/-- A matrix's box behind the calls of a function that hands it back: the box is the lowest new block. -/
theorem OwnS.box {w w1 : World} {a : Option Addr} {zs : List Int} (O : OwnS w w1 a zs) (V : World) (hV : V.heap.size < w.heap.size) (x y z : Value) :
    OwnS V (((w1.setCell ⟨V.heap.size, 0, none⟩ x).setCell ⟨V.heap.size, 1, none⟩ y).setCell ⟨V.heap.size, 2, none⟩ z) a zs :=
  (((O.far (p := ⟨V.heap.size, 0, none⟩) hV x).far (p := ⟨V.heap.size, 1, none⟩) hV y).far (p := ⟨V.heap.size, 2, none⟩) hV z).from (by omega)
theorem Below.box {w w1 : World} (b : Below w.heap.size w w1) (x y z : Value) : Below w.heap.size w (((w1.setCell ⟨w.heap.size, 0, none⟩ x).setCell ⟨w.heap.size, 1, none⟩ y).setCell ⟨w.heap.size, 2, none⟩ z) :=
  ((b.setCell (Nat.le_refl _) _).setCell (Nat.le_refl _) _).setCell (Nat.le_refl _) _

end Go.Proofs.Ytbnjgehgaellmaa.Gf2
