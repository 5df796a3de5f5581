/-
  The exact law of Draws: the program's answer is the model's, it is the call's own, and the items are left as they were.
-/
import Derived.Test.YtgfpngjfhmiphaaDraws
import Derived.Test.YtgfpngjfhmiphaaMarkI
import Derived.Test.YtgfpngjfhmiphaaMarkItem
namespace Go.Proofs.Ytgfpngjfhmiphaa.Ch
open Go.RowKit Go.Proofs.Ytgfpngjfhmiphaa.It Go.Proofs.Ytgfpngjfhmiphaa.Rc Go.Proofs.Ytgfpngjfhmiphaa.Gf2 Go.Proofs.Ytgfpngjfhmiphaa.GfS Go.Proofs.Ytgfpngjfhmiphaa.MixC Go.Proofs.Ytgfpngjfhmiphaa.Ml
set_option linter.unusedVariables false

theorem drA_len (n : Nat) (f g : Nat → Int) (seed t : Int) : (drA n f g seed t).length ≤ 30 := by
  unfold drA
  split
  · rename_i h; rw [drN_len]; omega
  · simp
theorem own_lt {W w : World} {a : Option Addr} {zs : List Int} (O : OwnS W w a zs) : zs ≠ [] → ∀ b o, a = some ⟨b, o, none⟩ → b < w.heap.size := fun hz b o e => O.lt hz b o e
/-- A list handed back at world w3 stays while only later blocks turn. -/
theorem own_since {W w w' : World} {a : Option Addr} {zs : List Int} (O : OwnS W w a zs) (b : Below w.heap.size w w') : OwnS W w' a zs := O.below b

theorem _root_.Go.Proofs.Ytgfpngjfhmiphaa.Gf2.OwnS.past {W w w1 : World} {a : Option Addr} {zs : List Int} {r : Option Nat} (O : OwnS W w a zs) (g : w.grownBy w1 r) (hr : ∀ c, r = some c → c < W.heap.size) : OwnS W w1 a zs := by
  rcases O with h | ⟨b, ha, h0, h1, hn, hf⟩
  · exact .inl h
  · have e : w1.heap[b]? = w.heap[b]? := g.block b h1 (fun q => by have := hr b q.symm; omega)
    exact .inr ⟨b, ha, h0, Nat.lt_of_lt_of_le h1 g.size, fun i hi => (World.cell?_of_block e).trans (hn i hi), fun i => (World.frozen?_of_block e).trans (hf i)⟩

end Go.Proofs.Ytgfpngjfhmiphaa.Ch
