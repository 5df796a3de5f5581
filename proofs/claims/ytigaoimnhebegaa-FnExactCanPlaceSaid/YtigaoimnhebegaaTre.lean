/-
  Trees (two slices): the laws' measure and comparison.
-/
import Derived.Test.YtigaoimnhebegaaBkts
import Derived.Test.YtigaoimnhebegaaStrs
namespace Go.Proofs.Ytigaoimnhebegaa.Bk
open Go.RowKit Go.Proofs.Ytigaoimnhebegaa.At Go.Proofs.Ytigaoimnhebegaa.MixC Go.Proofs.Ytigaoimnhebegaa.Ml
open Go.Proofs.Ytigaoimnhebegaa.It (lay chain)
open Go.Proofs.Ytigaoimnhebegaa.Rc (Recs szDeviceS eqDeviceS)
open Go.Proofs.Ytigaoimnhebegaa.Sg (BxN)
set_option linter.unusedVariables false

abbrev tval (x y : Value) : Value := .agg #[x, y]
def TreeSz (dn bn : Nat) (L : Nat → List Int) (left : Int) : Int := if (dn : Int) + totB bn L bn ≤ left then left - dn - totB bn L bn else -1

set_option maxRecDepth 100000 in
theorem szTree (da : Option Addr) (dn dc : Nat) (ba : Option Addr) (bn bc : Nat) (f g : Nat → Int) (I : Nat → Option Addr) (L : Nat → List Int) (C : Nat → Nat) (left : Int) (hd : dn ≤ 9223372036854775807) (hl : bn ≤ 9223372036854775807) (hL : ∀ i, i < bn → (L i).length ≤ 9223372036854775807) (l0 : 0 ≤ left) (l1 : left ≤ 2097152) (w : World) (hs : Bks w ba bn f g I L C) :
    Calls Try.prog 12 #[tval (.slice da dn dc) (.slice ba bn bc), .int .i64 left] w fun e w' => e = .returned (.int .i64 (TreeSz dn bn L left)) ∧ Below w.heap.size w w' := by
  have LH := Lib.hid (lay w (.cells #[.slice da dn dc, .slice ba bn bc] 25))
  have X := Lib.hid (BxN.new w #[.slice da dn dc, .slice ba bn bc] 25)
  have ZD := fun w' => szDeviceS da dn dc left hd l0 l1 w'
  by_cases h : (dn : Int) ≤ left
  · simp only [if_pos h] at ZD
    have ZD := Lib.hid ZD
    have h0 : 0 ≤ left - (dn : Int) := by omega
    have ZB := szBucketS ba bn bc f g I L C (left - dn) hl hL h0 (by omega) _ (hs.below LH.out)
    by_cases h2 : (totB bn L bn : Int) ≤ left - dn
    · rw [if_pos h2] at ZB
      have E : TreeSz dn bn L left = left - dn - totB bn L bn := if_pos (by omega)
      rw [E]
      have h3 : 0 ≤ left - (dn : Int) - totB bn L bn := by omega
      have ZB := Lib.hid ZB
      clear E hs
      generalize totB bn L bn = tb at *
      have x1 := X.out.cells 1 _ rfl
      go_enter Try.func12, Try.ntmps12
      go_wp2_with fail
      refine (ZD.out _).mono ?_
      rintro e w1 ⟨rfl, rfl⟩
      go_wp2_with fail
      refine ZB.out.mono ?_
      rintro e w2 ⟨rfl, b2⟩
      have B2 := Lib.hid (chain LH.out b2)
      clear b2
      go_wp2
      go_ret
      exact ⟨rfl, B2.out⟩
    · rw [if_neg h2] at ZB
      have E : TreeSz dn bn L left = -1 := if_neg (by omega)
      rw [E]
      have ZB := Lib.hid ZB
      clear E hs
      have x1 := X.out.cells 1 _ rfl
      go_enter Try.func12, Try.ntmps12
      go_wp2_with fail
      refine (ZD.out _).mono ?_
      rintro e w1 ⟨rfl, rfl⟩
      go_wp2_with fail
      refine ZB.out.mono ?_
      rintro e w2 ⟨rfl, b2⟩
      have B2 := Lib.hid (chain LH.out b2)
      clear b2
      go_wp2
      go_ret
      exact ⟨rfl, B2.out⟩
  · simp only [if_neg h] at ZD
    have ZD := Lib.hid ZD
    have E : TreeSz dn bn L left = -1 := if_neg (by omega)
    rw [E]
    clear E hs
    go_enter Try.func12, Try.ntmps12
    go_wp2_with fail
    refine (ZD.out _).mono ?_
    rintro e w1 ⟨rfl, rfl⟩
    go_wp2
    go_ret
    exact ⟨rfl, LH.out⟩
end Go.Proofs.Ytigaoimnhebegaa.Bk

/-
  Trees (two slices): the laws' comparison.
-/
namespace Go.Proofs.Ytigaoimnhebegaa.Bk
open Go.RowKit Go.Proofs.Ytigaoimnhebegaa.At Go.Proofs.Ytigaoimnhebegaa.MixC Go.Proofs.Ytigaoimnhebegaa.Ml
open Go.Proofs.Ytigaoimnhebegaa.It (lay chain)
open Go.Proofs.Ytigaoimnhebegaa.Rc (Recs szDeviceS eqDeviceS)
open Go.Proofs.Ytigaoimnhebegaa.Sg (BxN)
set_option linter.unusedVariables false

set_option maxRecDepth 100000 in
set_option maxHeartbeats 1000000 in
theorem eqTree (da db : Option Addr) (dc1 dc2 dn : Nat) (df dg : Nat → Int) (ba bb : Option Addr) (bc1 bc2 bn : Nat) (f g : Nat → Int) (I1 I2 : Nat → Option Addr) (L : Nat → List Int) (C1 C2 : Nat → Nat) (hd : dn ≤ 2097152) (hl : bn ≤ 2097152) (hL : ∀ i, i < bn → (L i).length ≤ 2097152) (w : World)
    (d1 : Recs w da dn df dg) (d2 : Recs w db dn df dg) (h1 : Bks w ba bn f g I1 L C1) (h2 : Bks w bb bn f g I2 L C2) :
    Calls Try.prog 17 #[tval (.slice da dn dc1) (.slice ba bn bc1), tval (.slice db dn dc2) (.slice bb bn bc2)] w (TrueB w) := by
  have ED := Lib.hid (fun w' (x : Below w.heap.size w w') => eqDeviceS da db dc1 dc2 dn df dg w' hd (d1.below x) (d2.below x))
  have EB := Lib.hid (fun w' (x : Below w.heap.size w w') => eqBucketS ba bb bc1 bc2 bn f g I1 I2 L C1 C2 w' hl hL (h1.below x) (h2.below x))
  have L2 := Lib.hid (chain (lay w (.cells #[.slice da dn dc1, .slice ba bn bc1] 33)) (lay _ (.cells #[.slice db dn dc2, .slice bb bn bc2] 33)))
  have X := Lib.hid ((BxN.new w #[.slice da dn dc1, .slice ba bn bc1] 33).later (lay _ (.cells #[.slice db dn dc2, .slice bb bn bc2] 33)))
  have Y := BxN.new (w.alloc (.cells #[.slice da dn dc1, .slice ba bn bc1] 33)) #[.slice db dn dc2, .slice bb bn bc2] 33
  rw [World.size_alloc] at Y
  have Y := Lib.hid Y
  clear d1 d2 h1 h2 hL
  go_enter Try.func17, Try.ntmps17
  go_wp2_with fail
  refine (ED.out _ L2.out).mono ?_
  rintro e w1 ⟨rfl, b1⟩
  have B1 := Lib.hid (chain L2.out b1)
  have X1 := X.out.later b1
  have Y1 := Y.out.later b1
  have x1 := X1.cells 1 _ rfl
  have y1 := Y1.cells 1 _ rfl
  clear b1 X1 Y1
  go_wp2_with fail
  refine (EB.out _ B1.out).mono ?_
  rintro e w2 ⟨rfl, b2⟩
  have B2 := Lib.hid (chain B1.out b2)
  clear b2
  go_wp2
  go_ret
  exact ⟨rfl, B2.out⟩
end Go.Proofs.Ytigaoimnhebegaa.Bk

/-
  Trees (two slices): the laws' copy.
-/
namespace Go.Proofs.Ytigaoimnhebegaa.Bk
open Go.RowKit Go.Proofs.Ytigaoimnhebegaa.At Go.Proofs.Ytigaoimnhebegaa.MixC Go.Proofs.Ytigaoimnhebegaa.Ml
open Go.Proofs.Ytigaoimnhebegaa.It (lay chain)
open Go.Proofs.Ytigaoimnhebegaa.Rc (Recs Copied2 toDeviceS)
open Go.Proofs.Ytigaoimnhebegaa.Sg (BxN)
set_option linter.unusedVariables false

theorem c2far {w w' : World} {q n : Nat} {f g : Nat → Int} (h : Copied2 w w' q n f g) {p : Addr} (hp : p.block < q) (h0 : w.heap.size ≤ p.block) (v : Value) : Copied2 w (w'.setCell p v) q n f g :=
  have ne : ∀ o, p ≠ ⟨q, o, none⟩ := fun o e => Nat.ne_of_lt hp (congrArg Addr.block e)
  ⟨h.new, by simpa using h.lt, fun i hi => ⟨(World.cell?_setCell_other _ _ _ _ (ne _)).trans (h.cells i hi).1, (World.cell?_setCell_other _ _ _ _ (ne _)).trans (h.cells i hi).2⟩, fun i => (World.frozen?_setCell _ _ _ _).trans (h.free i), h.below.setCell h0 v⟩
theorem c2later {w w' w2 : World} {q n : Nat} {f g : Nat → Int} (h : Copied2 w w' q n f g) (b : Below w'.heap.size w' w2) : Copied2 w w2 q n f g :=
  have hn := h.new
  have hl := h.lt
  ⟨h.new, Nat.lt_of_lt_of_le h.lt b.size, fun i hi => ⟨(b.cell (p := ⟨q, 0 + i * 2, none⟩) hl).trans (h.cells i hi).1, (b.cell (p := ⟨q, 0 + i * 2 + 1, none⟩) hl).trans (h.cells i hi).2⟩, fun i => (b.frozen (p := ⟨q, i, none⟩) hl).trans (h.free i), h.below.trans (b.mono (by omega))⟩
theorem c2from {w V w' : World} {q n : Nat} {f g : Nat → Int} (h : Copied2 V w' q n f g) (b : Below w.heap.size w V) : Copied2 w w' q n f g :=
  ⟨Nat.le_trans b.size h.new, h.lt, h.cells, h.free, b.trans (h.below.mono b.size)⟩
theorem RndB.from {w V w' : World} {q n k : Nat} {f g : Nat → Int} {L : Nat → List Int} {J : Nat → Nat} (h : RndB V w' q n k f g L J) (b : Below w.heap.size w V) : RndB w w' q n k f g L J :=
  ⟨Nat.le_trans b.size h.new, h.lt, h.asc, h.cells, h.there, h.free, b.trans (h.below.mono b.size)⟩
theorem RndB.far {w w' : World} {q n k : Nat} {f g : Nat → Int} {L : Nat → List Int} {J : Nat → Nat} (h : RndB w w' q n k f g L J) {p : Addr} (hp : p.block < q) (h0 : w.heap.size ≤ p.block) (v : Value) : RndB w (w'.setCell p v) q n k f g L J := by
  have ne : ∀ o, p ≠ ⟨q, o, none⟩ := fun o e => Nat.ne_of_lt hp (congrArg Addr.block e)
  have hJ := h.cells
  refine ⟨h.new, by simpa using h.lt, h.asc, fun i hi => ?_, fun i hi => ?_, fun i => (World.frozen?_setCell _ _ _ _).trans (h.free i), h.below.setCell h0 v⟩
  · obtain ⟨c0, c1, c2, j0, j1, wd, fr⟩ := hJ i hi
    exact ⟨(World.cell?_setCell_other _ _ _ _ (ne _)).trans c0, (World.cell?_setCell_other _ _ _ _ (ne _)).trans c1, (World.cell?_setCell_other _ _ _ _ (ne _)).trans c2, j0, by simpa using j1, words_set wd (by omega) v, fun o => (World.frozen?_setCell _ _ _ _).trans (fr o)⟩
  · obtain ⟨u, hu⟩ := h.there i hi
    exact ⟨u, (World.cell?_setCell_other _ _ _ _ (ne _)).trans hu⟩
def TreeCopy (dn : Nat) (df dg : Nat → Int) (bn : Nat) (f g : Nat → Int) (L : Nat → List Int) (w : World) (e : Ending) (w' : World) : Prop :=
  ∃ p q J, e = .returned (tval (.slice (some ⟨p, 0, none⟩) dn dn) (.slice (some ⟨q, 0, none⟩) bn bn)) ∧ Copied2 w w' p dn df dg ∧ RndB w w' q bn bn f g L J ∧ p < q
end Go.Proofs.Ytigaoimnhebegaa.Bk

/-
  Trees (two slices): the laws' copy, the walk.
-/
namespace Go.Proofs.Ytigaoimnhebegaa.Bk
open Go.RowKit Go.Proofs.Ytigaoimnhebegaa.At Go.Proofs.Ytigaoimnhebegaa.MixC Go.Proofs.Ytigaoimnhebegaa.Ml
open Go.Proofs.Ytigaoimnhebegaa.It (lay chain)
open Go.Proofs.Ytigaoimnhebegaa.Rc (Recs Copied2 toDeviceS)
open Go.Proofs.Ytigaoimnhebegaa.Sg (BxN)
set_option linter.unusedVariables false

set_option maxRecDepth 100000 in
set_option maxHeartbeats 1000000 in
theorem toTree (da : Option Addr) (dc dn : Nat) (df dg : Nat → Int) (ba : Option Addr) (bc bn : Nat) (f g : Nat → Int) (I : Nat → Option Addr) (L : Nat → List Int) (C : Nat → Nat) (hd : dn ≤ 2097152) (hl : bn ≤ 2097152) (hL : ∀ i, i < bn → (L i).length ≤ 2097152) (w : World)
    (d1 : Recs w da dn df dg) (h1 : Bks w ba bn f g I L C) :
    Calls Try.prog 14 #[tval (.slice da dn dc) (.slice ba bn bc)] w (TreeCopy dn df dg bn f g L w) := by
  have ED := Lib.hid (fun w' (x : Below w.heap.size w w') => toDeviceS da dc dn df dg w' hd (d1.below x))
  have EB := Lib.hid (fun w' (x : Below w.heap.size w w') => toBucketS ba bc bn f g I L C w' hl hL (h1.below x))
  have b0 : Below w.heap.size w (((w.alloc (.cells #[.slice da dn dc, .slice ba bn bc] 25)).alloc (.cells #[.slice none 0 0, .slice none 0 0] 33)).alloc (.cells #[.slice none 0 0, .slice none 0 0] 33)) :=
    chain (chain (lay w _) (lay _ _)) (lay _ _)
  have X := ((BxN.new w #[.slice da dn dc, .slice ba bn bc] 25).later (lay _ (.cells #[.slice none 0 0, .slice none 0 0] 33))).later (lay _ (.cells #[.slice none 0 0, .slice none 0 0] 33))
  have Y := (BxN.new (w.alloc (.cells #[.slice da dn dc, .slice ba bn bc] 25)) #[.slice none 0 0, .slice none 0 0] 33).later (lay _ (.cells #[.slice none 0 0, .slice none 0 0] 33))
  have Z := BxN.new ((w.alloc (.cells #[.slice da dn dc, .slice ba bn bc] 25)).alloc (.cells #[.slice none 0 0, .slice none 0 0] 33)) #[.slice none 0 0, .slice none 0 0] 33
  simp only [World.size_alloc] at Y Z
  have XH := Lib.hid X
  have YH := Lib.hid Y
  have ZH := Lib.hid Z
  have BH := Lib.hid b0
  clear X Y Z b0 d1 h1 hL
  go_enter Try.func14, Try.ntmps14
  go_wp2_with fail
  refine (ED.out _ BH.out).mono ?_
  rintro e w1 ⟨p, rfl, K⟩
  have X1 := XH.out.later K.below
  have Y1 := YH.out.later K.below
  have Z1 := ZH.out.later K.below
  have kn := K.new
  simp only [World.size_alloc] at kn
  have B1 := chain BH.out K.below
  have K1 := c2from K BH.out
  have x1 := ((X1.far (p := ⟨w.heap.size + 1 + 1, 0, none⟩) (by show w.heap.size + 1 + 1 ≠ w.heap.size; omega) (.slice (some ⟨p, 0, none⟩) dn dn))).cells 1 _ rfl
  have z0 := Z1.cells 0 _ rfl
  have zf0 := Z1.free 0
  have Z2 := Lib.hid (Z1.put 0 (by simp) (.slice (some ⟨p, 0, none⟩) dn dn))
  have Y2 := Lib.hid (Y1.far (p := ⟨w.heap.size + 1 + 1, 0, none⟩) (by show w.heap.size + 1 + 1 ≠ w.heap.size + 1; omega) (.slice (some ⟨p, 0, none⟩) dn dn))
  have K2 := Lib.hid (c2far K1 (p := ⟨w.heap.size + 1 + 1, 0, none⟩) (by show w.heap.size + 1 + 1 < p; omega) (by show _ ≤ w.heap.size + 1 + 1; omega) (.slice (some ⟨p, 0, none⟩) dn dn))
  have S1 : w.heap.size + 1 + 1 < w1.heap.size := by have := Z1.lt; omega
  clear X1 Y1 Z1 K K1 B1 XH YH ZH
  go_wp2_with fail
  refine (EB.out _ K2.out.below).mono ?_
  rintro e w2 ⟨q, J, rfl, R⟩
  have Z3 := Z2.out.later R.below
  have Y3 := Y2.out.later R.below
  have K3 := c2later K2.out R.below
  have R3 := R.from K2.out.below
  have qn := R.new
  have pq : p < q := by have := K2.out.lt; have := R.new; omega
  simp only [World.size_setCell] at qn
  have z1 := Z3.cells 1 _ rfl
  have zf1 := Z3.free 1
  have Z4 := Z3.put 1 (by simp) (.slice (some ⟨q, 0, none⟩) bn bn)
  have Y4 := Y3.far (p := ⟨w.heap.size + 1 + 1, 1, none⟩) (by show w.heap.size + 1 + 1 ≠ w.heap.size + 1; omega) (.slice (some ⟨q, 0, none⟩) bn bn)
  have m0 := Z4.cells 0 _ rfl
  have m1 := Z4.cells 1 _ rfl
  have y0 := Y4.cells 0 _ rfl
  have y1 := Y4.cells 1 _ rfl
  have yf0 := Y4.free 0
  have yf1 := Y4.free 1
  have F := Lib.hid (show TreeCopy dn df dg bn f g L w (.returned (tval (.slice (some ⟨p, 0, none⟩) dn dn) (.slice (some ⟨q, 0, none⟩) bn bn))) (((w2.setCell ⟨w.heap.size + 1 + 1, 1, none⟩ (.slice (some ⟨q, 0, none⟩) bn bn)).setCell ⟨w.heap.size + 1, 0, none⟩ (.slice (some ⟨p, 0, none⟩) dn dn)).setCell ⟨w.heap.size + 1, 1, none⟩ (.slice (some ⟨q, 0, none⟩) bn bn)) from
    ⟨p, q, J, rfl, c2far (c2far (c2far K3 (by show w.heap.size + 1 + 1 < p; omega) (by show _ ≤ w.heap.size + 1 + 1; omega) _) (by show w.heap.size + 1 < p; omega) (by show _ ≤ w.heap.size + 1; omega) _) (by show w.heap.size + 1 < p; omega) (by show _ ≤ w.heap.size + 1; omega) _,
      ((R3.far (p := ⟨w.heap.size + 1 + 1, 1, none⟩) (by show w.heap.size + 1 + 1 < q; omega) (by show _ ≤ w.heap.size + 1 + 1; omega) _).far (p := ⟨w.heap.size + 1, 0, none⟩) (by show w.heap.size + 1 < q; omega) (by show _ ≤ w.heap.size + 1; omega) _).far (p := ⟨w.heap.size + 1, 1, none⟩) (by show w.heap.size + 1 < q; omega) (by show _ ≤ w.heap.size + 1; omega) _, pq⟩)
  clear Z3 Y3 K3 R3 R Z4 Y4 Z2 Y2 K2
  go_wp2
  exact bodyPost_ret (v := tval (.slice (some ⟨p, 0, none⟩) dn dn) (.slice (some ⟨q, 0, none⟩) bn bn)) (by simp [results, Try.results14, go_sem, *]) rfl F.out
end Go.Proofs.Ytigaoimnhebegaa.Bk
