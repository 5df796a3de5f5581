/-
  Trees (two slices): the laws' comparison.
-/
import Derived.Test.YtgfpngjfhmiphaaTre
namespace Go.Proofs.Ytgfpngjfhmiphaa.Bk
open Go.RowKit Go.Proofs.Ytgfpngjfhmiphaa.At Go.Proofs.Ytgfpngjfhmiphaa.MixC Go.Proofs.Ytgfpngjfhmiphaa.Ml
open Go.Proofs.Ytgfpngjfhmiphaa.It (lay chain)
open Go.Proofs.Ytgfpngjfhmiphaa.Rc (Recs szDeviceS eqDeviceS)
open Go.Proofs.Ytgfpngjfhmiphaa.Sg (BxN)
set_option linter.unusedVariables false

set_option maxRecDepth 100000 in
set_option maxHeartbeats 1000000 in
theorem eqTree (da db : Option Addr) (dc1 dc2 dn : Nat) (df dg : Nat → Int) (ba bb : Option Addr) (bc1 bc2 bn : Nat) (f g : Nat → Int) (I1 I2 : Nat → Option Addr) (L : Nat → List Int) (C1 C2 : Nat → Nat) (hd : dn ≤ 2097152) (hl : bn ≤ 2097152) (hL : ∀ i, i < bn → (L i).length ≤ 2097152) (w : World)
    (d1 : Recs w da dn df dg) (d2 : Recs w db dn df dg) (h1 : Bks w ba bn f g I1 L C1) (h2 : Bks w bb bn f g I2 L C2) :
    Calls Try.prog 16 #[tval (.slice da dn dc1) (.slice ba bn bc1), tval (.slice db dn dc2) (.slice bb bn bc2)] w (TrueB w) := by
  have ED := Lib.hid (fun w' (x : Below w.heap.size w w') => eqDeviceS da db dc1 dc2 dn df dg w' hd (d1.below x) (d2.below x))
  have EB := Lib.hid (fun w' (x : Below w.heap.size w w') => eqBucketS ba bb bc1 bc2 bn f g I1 I2 L C1 C2 w' hl hL (h1.below x) (h2.below x))
  have L2 := Lib.hid (chain (lay w (.cells #[.slice da dn dc1, .slice ba bn bc1] 33)) (lay _ (.cells #[.slice db dn dc2, .slice bb bn bc2] 33)))
  have X := Lib.hid ((BxN.new w #[.slice da dn dc1, .slice ba bn bc1] 33).later (lay _ (.cells #[.slice db dn dc2, .slice bb bn bc2] 33)))
  have Y := BxN.new (w.alloc (.cells #[.slice da dn dc1, .slice ba bn bc1] 33)) #[.slice db dn dc2, .slice bb bn bc2] 33
  rw [World.size_alloc] at Y
  have Y := Lib.hid Y
  clear d1 d2 h1 h2 hL
  go_enter Try.func16, Try.ntmps16
  go_wp2_with fail
  refine (ED.out _ L2.out).mono ?_
  rintro e w1 ⟨rfl, b1⟩
  have B1 := Lib.hid (chain L2.out b1)
  have X1 := X.out.later b1
  have Y1 := Y.out.later b1
  have x1 := X1.cells 1 _ rfl
  have y1 := Y1.cells 1 _ rfl
  clear b1 X1 Y1
  go_wp2_with fail
  refine (EB.out _ B1.out).mono ?_
  rintro e w2 ⟨rfl, b2⟩
  have B2 := Lib.hid (chain B1.out b2)
  clear b2
  go_wp2
  go_ret
  exact ⟨rfl, B2.out⟩
end Go.Proofs.Ytgfpngjfhmiphaa.Bk
