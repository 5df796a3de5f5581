/-
  Trees (two slices): the laws' copy, the walk.
-/
import Derived.Test.YtgfpngjfhmiphaaTre3
namespace Go.Proofs.Ytgfpngjfhmiphaa.Bk
open Go.RowKit Go.Proofs.Ytgfpngjfhmiphaa.At Go.Proofs.Ytgfpngjfhmiphaa.MixC Go.Proofs.Ytgfpngjfhmiphaa.Ml
open Go.Proofs.Ytgfpngjfhmiphaa.It (lay chain)
open Go.Proofs.Ytgfpngjfhmiphaa.Rc (Recs Copied2 toDeviceS)
open Go.Proofs.Ytgfpngjfhmiphaa.Sg (BxN)
set_option linter.unusedVariables false

set_option maxRecDepth 100000 in
set_option maxHeartbeats 1000000 in
theorem toTree (da : Option Addr) (dc dn : Nat) (df dg : Nat → Int) (ba : Option Addr) (bc bn : Nat) (f g : Nat → Int) (I : Nat → Option Addr) (L : Nat → List Int) (C : Nat → Nat) (hd : dn ≤ 2097152) (hl : bn ≤ 2097152) (hL : ∀ i, i < bn → (L i).length ≤ 2097152) (w : World)
    (d1 : Recs w da dn df dg) (h1 : Bks w ba bn f g I L C) :
    Calls Try.prog 13 #[tval (.slice da dn dc) (.slice ba bn bc)] w (TreeCopy dn df dg bn f g L w) := by
  have ED := Lib.hid (fun w' (x : Below w.heap.size w w') => toDeviceS da dc dn df dg w' hd (d1.below x))
  have EB := Lib.hid (fun w' (x : Below w.heap.size w w') => toBucketS ba bc bn f g I L C w' hl hL (h1.below x))
  have b0 : Below w.heap.size w (((w.alloc (.cells #[.slice da dn dc, .slice ba bn bc] 25)).alloc (.cells #[.slice none 0 0, .slice none 0 0] 33)).alloc (.cells #[.slice none 0 0, .slice none 0 0] 33)) :=
    chain (chain (lay w _) (lay _ _)) (lay _ _)
  have X := ((BxN.new w #[.slice da dn dc, .slice ba bn bc] 25).later (lay _ (.cells #[.slice none 0 0, .slice none 0 0] 33))).later (lay _ (.cells #[.slice none 0 0, .slice none 0 0] 33))
  have Y := (BxN.new (w.alloc (.cells #[.slice da dn dc, .slice ba bn bc] 25)) #[.slice none 0 0, .slice none 0 0] 33).later (lay _ (.cells #[.slice none 0 0, .slice none 0 0] 33))
  have Z := BxN.new ((w.alloc (.cells #[.slice da dn dc, .slice ba bn bc] 25)).alloc (.cells #[.slice none 0 0, .slice none 0 0] 33)) #[.slice none 0 0, .slice none 0 0] 33
  simp only [World.size_alloc] at Y Z
  have XH := Lib.hid X
  have YH := Lib.hid Y
  have ZH := Lib.hid Z
  have BH := Lib.hid b0
  clear X Y Z b0 d1 h1 hL
  go_enter Try.func13, Try.ntmps13
  go_wp2_with fail
  refine (ED.out _ BH.out).mono ?_
  rintro e w1 ⟨p, rfl, K⟩
  have X1 := XH.out.later K.below
  have Y1 := YH.out.later K.below
  have Z1 := ZH.out.later K.below
  have kn := K.new
  simp only [World.size_alloc] at kn
  have B1 := chain BH.out K.below
  have K1 := c2from K BH.out
  have x1 := ((X1.far (p := ⟨w.heap.size + 1 + 1, 0, none⟩) (by show w.heap.size + 1 + 1 ≠ w.heap.size; omega) (.slice (some ⟨p, 0, none⟩) dn dn))).cells 1 _ rfl
  have z0 := Z1.cells 0 _ rfl
  have zf0 := Z1.free 0
  have Z2 := Lib.hid (Z1.put 0 (by simp) (.slice (some ⟨p, 0, none⟩) dn dn))
  have Y2 := Lib.hid (Y1.far (p := ⟨w.heap.size + 1 + 1, 0, none⟩) (by show w.heap.size + 1 + 1 ≠ w.heap.size + 1; omega) (.slice (some ⟨p, 0, none⟩) dn dn))
  have K2 := Lib.hid (c2far K1 (p := ⟨w.heap.size + 1 + 1, 0, none⟩) (by show w.heap.size + 1 + 1 < p; omega) (by show _ ≤ w.heap.size + 1 + 1; omega) (.slice (some ⟨p, 0, none⟩) dn dn))
  have S1 : w.heap.size + 1 + 1 < w1.heap.size := by have := Z1.lt; omega
  clear X1 Y1 Z1 K K1 B1 XH YH ZH
  go_wp2_with fail
  refine (EB.out _ K2.out.below).mono ?_
  rintro e w2 ⟨q, J, rfl, R⟩
  have Z3 := Z2.out.later R.below
  have Y3 := Y2.out.later R.below
  have K3 := c2later K2.out R.below
  have R3 := R.from K2.out.below
  have qn := R.new
  have pq : p < q := by have := K2.out.lt; have := R.new; omega
  simp only [World.size_setCell] at qn
  have z1 := Z3.cells 1 _ rfl
  have zf1 := Z3.free 1
  have Z4 := Z3.put 1 (by simp) (.slice (some ⟨q, 0, none⟩) bn bn)
  have Y4 := Y3.far (p := ⟨w.heap.size + 1 + 1, 1, none⟩) (by show w.heap.size + 1 + 1 ≠ w.heap.size + 1; omega) (.slice (some ⟨q, 0, none⟩) bn bn)
  have m0 := Z4.cells 0 _ rfl
  have m1 := Z4.cells 1 _ rfl
  have y0 := Y4.cells 0 _ rfl
  have y1 := Y4.cells 1 _ rfl
  have yf0 := Y4.free 0
  have yf1 := Y4.free 1
  have F := Lib.hid (show TreeCopy dn df dg bn f g L w (.returned (tval (.slice (some ⟨p, 0, none⟩) dn dn) (.slice (some ⟨q, 0, none⟩) bn bn))) (((w2.setCell ⟨w.heap.size + 1 + 1, 1, none⟩ (.slice (some ⟨q, 0, none⟩) bn bn)).setCell ⟨w.heap.size + 1, 0, none⟩ (.slice (some ⟨p, 0, none⟩) dn dn)).setCell ⟨w.heap.size + 1, 1, none⟩ (.slice (some ⟨q, 0, none⟩) bn bn)) from
    ⟨p, q, J, rfl, c2far (c2far (c2far K3 (by show w.heap.size + 1 + 1 < p; omega) (by show _ ≤ w.heap.size + 1 + 1; omega) _) (by show w.heap.size + 1 < p; omega) (by show _ ≤ w.heap.size + 1; omega) _) (by show w.heap.size + 1 < p; omega) (by show _ ≤ w.heap.size + 1; omega) _,
      ((R3.far (p := ⟨w.heap.size + 1 + 1, 1, none⟩) (by show w.heap.size + 1 + 1 < q; omega) (by show _ ≤ w.heap.size + 1 + 1; omega) _).far (p := ⟨w.heap.size + 1, 0, none⟩) (by show w.heap.size + 1 < q; omega) (by show _ ≤ w.heap.size + 1; omega) _).far (p := ⟨w.heap.size + 1, 1, none⟩) (by show w.heap.size + 1 < q; omega) (by show _ ≤ w.heap.size + 1; omega) _, pq⟩)
  clear Z3 Y3 K3 R3 R Z4 Y4 Z2 Y2 K2
  go_wp2
  exact bodyPost_ret (v := tval (.slice (some ⟨p, 0, none⟩) dn dn) (.slice (some ⟨q, 0, none⟩) bn bn)) (by simp [results, Try.results13, go_sem, *]) rfl F.out
end Go.Proofs.Ytgfpngjfhmiphaa.Bk
