/-
  The exact law of MatMul.
-/
import Derived.Test.YtgnllkkkkkcoaaaMatMul2
import Derived.Test.YtgnllkkkkkcoaaaMatRes2
namespace Go.Proofs.Ytgnllkkkkkcoaaa.Gf2
open Go.RowKit Go.Proofs.Ytgnllkkkkkcoaaa.At Go.Proofs.Ytgnllkkkkkcoaaa.MixC Go.Proofs.Ytgnllkkkkkcoaaa.Ml Go.Proofs.Ytgnllkkkkkcoaaa.Gr Go.Proofs.Ytgnllkkkkkcoaaa.Gj Go.Proofs.Ytgnllkkkkkcoaaa.GfS
set_option linter.unusedVariables false

/-- A box that was made behind w2. -/
def Zx (w2 W : World) (b : Nat) (x y z : Value) : Prop := w2.heap.size ≤ b ∧ Bx W b x y z
theorem zold {w2 W u : World} {b : Nat} {x y z : Value} (Z : Zx w2 W b x y z) (k : Below W.heap.size W u) : b < W.heap.size ∧ Zx w2 u b x y z := ⟨Z.2.lt, Z.1, Z.2.below k⟩
theorem ztop {w2 V u : World} {x y z : Value} {T : TypeId} (q : Below w2.heap.size w2 V) (k : Below (V.alloc (.cells #[x, y, z] T)).heap.size (V.alloc (.cells #[x, y, z] T)) u) :
    V.heap.size < (V.alloc (.cells #[x, y, z] T)).heap.size ∧ Zx w2 u V.heap.size x y z := ⟨by simp, q.size, (Bx.top _ _ _ _ _).below k⟩
theorem ztopd {w2 u : World} {x y z : Value} {T : TypeId} (k : Below (w2.alloc (.cells #[x, y, z] T)).drew.heap.size (w2.alloc (.cells #[x, y, z] T)).drew u) :
    w2.heap.size < (w2.alloc (.cells #[x, y, z] T)).drew.heap.size ∧ Zx w2 u w2.heap.size x y z := ztop (w2 := w2) (V := w2) (Below.refl w2.heap.size w2) (Go.Proofs.Ytgnllkkkkkcoaaa.Gf2.undrew k)
theorem Bx.put3 {w : World} {b : Nat} {x y z : Value} (h : Bx w b x y z) (p q r : Value) : Bx (((w.setCell ⟨b, 0, none⟩ p).setCell ⟨b, 1, none⟩ q).setCell ⟨b, 2, none⟩ r) b p q r := by
  have f : ∀ i, (((w.setCell ⟨b, 0, none⟩ p).setCell ⟨b, 1, none⟩ q).setCell ⟨b, 2, none⟩ r).frozen? ⟨b, i, none⟩ = w.frozen? ⟨b, i, none⟩ := fun i => by rw [World.frozen?_setCell, World.frozen?_setCell, World.frozen?_setCell]
  refine ⟨by simpa using h.lt, ?_, ?_, ?_, (f 0).trans h.f0, (f 1).trans h.f1, (f 2).trans h.f2⟩
  · rw [World.cell?_setCell_other _ _ _ _ (by simp), World.cell?_setCell_other _ _ _ _ (by simp)]; exact World.cell?_setCell_same _ _ _ h.c0
  · rw [World.cell?_setCell_other _ _ _ _ (by simp)]; exact World.cell?_setCell_same _ _ _ ((World.cell?_setCell_other _ _ _ _ (by simp)).trans h.c1)
  · exact World.cell?_setCell_same _ _ _ ((World.cell?_setCell_other _ _ _ _ (by simp)).trans ((World.cell?_setCell_other _ _ _ _ (by simp)).trans h.c2))

/-- What a call's answer left: the matrix in a box of its own, the error's number beside it. -/
def R8 (w w2 : World) (H Wd err : Int) (zs : List Int) (s6 s7 : Value) (wx : World) : Prop :=
  ∃ b a cap, s6 = .pointer (some ⟨b, 0, none⟩) ∧ s7 = .int .i64 err ∧ w2.heap.size ≤ b ∧ Bx wx b (.int .i64 H) (.int .i64 Wd) (.slice a zs.length cap) ∧ OwnS w wx a zs ∧ Below w2.heap.size w2 wx
theorem R8_box {w w2 W u : World} {H Wd err : Int} {zs : List Int} {b cap : Nat} {a : Option Addr} {x y z : Value} (h0 : w.heap.size ≤ w2.heap.size) (hb : b < W.heap.size) (Z : Zx w2 u b x y z) (O : OwnS W u a zs) (k : Below w2.heap.size w2 u) :
    R8 w w2 H Wd err zs (.pointer (some ⟨b, 0, none⟩)) (.int .i64 err) (((u.setCell ⟨b, 0, none⟩ (.int .i64 H)).setCell ⟨b, 1, none⟩ (.int .i64 Wd)).setCell ⟨b, 2, none⟩ (.slice a zs.length cap)) :=
  ⟨b, a, cap, rfl, rfl, Z.1, Z.2.put3 _ _ _, (((O.far (p := ⟨b, 0, none⟩) hb _).far (p := ⟨b, 1, none⟩) hb _).far (p := ⟨b, 2, none⟩) hb _).from (by have := Z.1; omega), ((k.setCell (p := ⟨b, 0, none⟩) Z.1 _).setCell (p := ⟨b, 1, none⟩) Z.1 _).setCell (p := ⟨b, 2, none⟩) Z.1 _⟩
theorem R8_top {w w2 W u : World} {H Wd err : Int} {zs : List Int} {cap : Nat} {a : Option Addr} {T : TypeId} (h0 : w.heap.size ≤ w2.heap.size) (O : OwnS W u a zs) (k : Below w2.heap.size w2 u) (hW : w2.heap.size ≤ W.heap.size) :
    R8 w w2 H Wd err zs (.pointer (some ⟨u.heap.size, 0, none⟩)) (.int .i64 err) (u.alloc (.cells #[.int .i64 H, .int .i64 Wd, .slice a zs.length cap] T)) :=
  ⟨_, a, cap, rfl, rfl, k.size, Bx.top _ _ _ _ _, (O.below (lay _ _)).from (by omega), chain k (lay _ _)⟩

theorem ownK {W v : World} {g : Nat} {zs : List Int} (K : Copied W v g zs) : OwnS W v (some ⟨g, 0, none⟩) zs := .inr ⟨g, rfl, K.new, K.lt, K.nums, K.free⟩
theorem OwnS.grown' {W w w1 : World} {a : Option Addr} {zs : List Int} {r : Option Nat} (O : OwnS W w a zs) (g : w.grownBy w1 r) (hr : ∀ c, r = some c → c < W.heap.size) : OwnS W w1 a zs := by
  rcases O with h | ⟨b, ha, h0, h1, hn, hf⟩
  · exact .inl h
  · have e : w1.heap[b]? = w.heap[b]? := g.block b h1 (fun q => by have := hr b q.symm; omega)
    exact .inr ⟨b, ha, h0, Nat.lt_of_lt_of_le h1 g.size, fun i hi => (World.cell?_of_block e).trans (hn i hi), fun i => (World.frozen?_of_block e).trans (hf i)⟩

set_option maxRecDepth 100000 in
set_option maxHeartbeats 8000000 in
theorem matMulLaw (h1 wd1 h2 wd2 : Int) (xs ys : List Int) (H Wd err : Int) (zs : List Int) (hn : zs.length ≤ 1000000) (a : Option Addr) (cap1 : Nat) (b : Option Addr) (cap2 : Nat) (w : World) (hl1 : xs.length ≤ 1048576) (hl2 : ys.length ≤ 1048576) (hl : (ys.length : Int) ≤ 1048576 - xs.length)
    (hx : Words w a xs) (hy : Words w b ys)
    (HS : ∀ w a b c1 c2, Words w a xs → Words w b ys → Calls Try.prog 28 #[mval h1 wd1 (.slice a xs.length c1), mval h2 wd2 (.slice b ys.length c2)] w (MatErr H Wd zs err w))
    (HI : ∀ w a b c1 c2, Words w a xs → Words w b ys → Calls Try.prog 29 #[mval h1 wd1 (.slice a xs.length c1), mval h2 wd2 (.slice b ys.length c2)] w (MatErr H Wd zs err w)) :
    Calls Try.prog 7 #[mval h1 wd1 (.slice a xs.length cap1), mval h2 wd2 (.slice b ys.length cap2)] w fun e w' => e = .returned (.bool true) ∧ Below w.heap.size w w' := by
  have SZ1 := szMatrix h1 wd1 a xs.length cap1 1048576 (by omega) (by omega) (by omega)
  simp only [if_pos (show (xs.length : Int) ≤ 1048576 by omega)] at SZ1
  have SZ2 := szMatrix h2 wd2 b ys.length cap2 (1048576 - xs.length) (by omega) (by omega) (by omega)
  simp only [if_pos hl] at SZ2
  have SZ1 := Lib.hid SZ1
  have SZ2 := Lib.hid SZ2
  have S := Lib.hid HS
  have I := Lib.hid HI
  have n1 : xs.length ≤ 2097152 := by omega
  have n2 : ys.length ≤ 2097152 := by omega
  have T1 := Lib.hid (fun w' (x : Below w.heap.size w w') => toMatrix h1 wd1 a cap1 xs w' n1 (hx.below x))
  have T2 := Lib.hid (fun w' (x : Below w.heap.size w w') => toMatrix h2 wd2 b cap2 ys w' n2 (hy.below x))
  have Q := Lib.hid (fun w' a b c1 c2 (x : Words w' a zs) (y : Words w' b zs) => eqMatrix H Wd a b c1 c2 zs w' (by omega) x y)
  have Q1 := Lib.hid (fun w' g1 g2 (K1 : Words w' (some ⟨g1, 0, none⟩) xs) (K2 : Words w' (some ⟨g2, 0, none⟩) xs) => eqMatrix h1 wd1 (some ⟨g1, 0, none⟩) (some ⟨g2, 0, none⟩) xs.length xs.length xs w' n1 K1 K2)
  have Q2 := Lib.hid (fun w' g1 g2 (K1 : Words w' (some ⟨g1, 0, none⟩) ys) (K2 : Words w' (some ⟨g2, 0, none⟩) ys) => eqMatrix h2 wd2 (some ⟨g1, 0, none⟩) (some ⟨g2, 0, none⟩) ys.length ys.length ys w' n2 K1 K2)
  have A1 := Lib.hid (fun W D a cap w' (O : OwnS W w' a xs) hD => markO W D h1 wd1 a cap xs 1 (by omega) (by omega) n1 w' O hD)
  have A2 := Lib.hid (fun W D a cap w' (O : OwnS W w' a ys) hD => markO W D h2 wd2 a cap ys (1 + xs.length) (by omega) (by omega) n2 w' O hD)
  have K := Lib.hid (fun W D a cap w' (O : OwnS W w' a zs) hD => markO W D H Wd a cap zs 1 (by omega) (by omega) (by omega) w' O hD)
  have HH := Lib.hid (fun a cap w' (m : Marks w' a zs.length 1) => heldMatrix H Wd a zs.length cap 1 (by omega) (by omega) (by omega) w' m)
  clear HS HI hx hy
  have L2 := Lib.hid (chain (lay w (.cells #[.int .i64 h1, .int .i64 wd1, .slice a xs.length cap1] 30)) (lay _ (.cells #[.int .i64 h2, .int .i64 wd2, .slice b ys.length cap2] 30)))
  have X2 := (Bx.top w (.int .i64 h1) (.int .i64 wd1) (.slice a xs.length cap1) 30).alloc (.cells #[.int .i64 h2, .int .i64 wd2, .slice b ys.length cap2] 30)
  have X3 := Bx.top (w.alloc (.cells #[.int .i64 h1, .int .i64 wd1, .slice a xs.length cap1] 30)) (.int .i64 h2) (.int .i64 wd2) (.slice b ys.length cap2) 30
  rw [World.size_alloc] at X3
  go_enter Try.func7, Try.ntmps7
  go_wp2_with fail
  refine (SZ1.out _).mono ?_
  rintro e w1 ⟨rfl, b1⟩
  have X2 := X2.below b1
  have X3 := X3.below b1
  have B1 := chain L2.out b1
  have hX := Lib.hid (And.intro X2 X3)
  obtain ⟨-, c0, c1, c2, -⟩ := X3
  clear X2 b1
  go_wp2_with fail
  refine (SZ2.out _).mono ?_
  rintro e w2 ⟨rfl, b2⟩
  have X2 := hX.out.1.below b2
  have X3 := hX.out.2.below b2
  have B2 := chain B1 b2
  have hz2 := B2.size
  have hz3 := X3.lt
  have hz0 := X2.lt
  have hX := Lib.hid (And.intro X2 X3)
  clear b2 B1 c0 c1 c2
  obtain ⟨-, c0, c1, c2, -⟩ := X2
  obtain ⟨-, d0, d1, d2, -⟩ := X3
  go_upto_region 8 with fail
  go_cut [6, 7] (fun s6 s7 wx => R8 w w2 H Wd err zs s6 s7 wx)
  case first =>
    have Bd := B2.drew
    have bd := (Below.refl w2.heap.size w2).drew
    have NOW := Lib.hid (fun (V : World) (k : Below w2.heap.size w2 V) => And.intro (hX.out.1.below k) (hX.out.2.below k))
    go_region_with (first
      | ((with_reducible refine (T1.out _ ?_).mono ?_); (first | assumption | exact chain (by assumption) (lay _ _)); rintro e u1 ⟨g1, rfl, K1⟩; have Bx1 : Below w.heap.size w u1 := chain (by first | assumption | exact chain (by assumption) (lay _ _)) K1.below; have bx1 : Below w2.heap.size w2 u1 := chain (by first | assumption | exact chain (by assumption) (lay _ _)) K1.below; obtain ⟨⟨-, m0, m1, m2, -⟩, ⟨-, l0, l1, l2, -⟩⟩ := NOW.out u1 bx1; have e1 := Nat.lt_of_lt_of_le hz3 bx1.size; have e0 := Nat.lt_of_lt_of_le hz0 bx1.size; (first | with_reducible have ZZ := zold Z K1.below | with_reducible have ZZ := ztopd (w2 := w2) K1.below | with_reducible have ZZ := ztop (w2 := w2) (by assumption) K1.below | skip); (try obtain ⟨hbz, Z⟩ := ZZ); have X1 := K1.words; (first | have X2b := X2.below K1.below | have X2b := X2.below (chain (lay _ _) K1.below) | skip))
      | ((with_reducible refine (T2.out _ ?_).mono ?_); (first | assumption | exact chain (by assumption) (lay _ _)); rintro e u2 ⟨g2, rfl, K2⟩; have Bx2 : Below w.heap.size w u2 := chain (by first | assumption | exact chain (by assumption) (lay _ _)) K2.below; have bx2 : Below w2.heap.size w2 u2 := chain (by first | assumption | exact chain (by assumption) (lay _ _)) K2.below; obtain ⟨⟨-, m0, m1, m2, -⟩, ⟨-, l0, l1, l2, -⟩⟩ := NOW.out u2 bx2; have e1 := Nat.lt_of_lt_of_le hz3 bx2.size; have e0 := Nat.lt_of_lt_of_le hz0 bx2.size; (first | with_reducible have ZZ := zold Z K2.below | with_reducible have ZZ := ztopd (w2 := w2) K2.below | with_reducible have ZZ := ztop (w2 := w2) (by assumption) K2.below | skip); (try obtain ⟨hbz, Z⟩ := ZZ); have X2 := K2.words; (first | have X1b := X1.below K2.below | have X1b := X1.below (chain (lay _ _) K2.below) | skip))
      | ((with_reducible refine (S.out _ _ _ _ _ ?_ ?_).mono ?_); (first | assumption | exact Words.below (by assumption) (lay _ _)); (first | assumption | exact Words.below (by assumption) (lay _ _)); rintro e u3 ⟨a0, cap0, rfl, O0, b3⟩; have bx3 : Below w2.heap.size w2 u3 := chain (by first | assumption | exact chain (by assumption) (lay _ _)) b3; (first | with_reducible have ZZ := zold Z b3 | with_reducible have ZZ := ztop (w2 := w2) (by assumption) b3 | skip); (try obtain ⟨hbz, Z⟩ := ZZ); (try have Zk := Z); (try obtain ⟨-, -, z0, z1, z2, y0, y1, y2⟩ := Zk)))
    all_goals (go_wp2_with fail; go_meet)
    all_goals (first | exact R8_box hz2 hbz Z O0 bx3 | exact R8_top hz2 O0 bx3 (Below.size (w := w2) (by assumption)))
  case rest =>
    obtain ⟨b6, a0, cap0, rfl, rfl, hb6, X6, O0, bx⟩ := hcut
    have X2 := hX.out.1.below bx
    have X3 := hX.out.2.below bx
    have B := chain B2 bx
    have s0 := X2.lt
    have s1 := X3.lt
    have s6 := X6.lt
    have D0 := Lib.hid O0.lt
    clear hX c0 c1 c2 d0 d1 d2 hz3 hz0
    have HX := Lib.hid (And.intro X2 (And.intro X3 X6))
    obtain ⟨-, c0, c1, c2, -⟩ := X2
    clear X3 X6
    go_wp2_with fail
    refine (T1.out _ B).mono ?_
    rintro e v1 ⟨g1, rfl, K1⟩
    have l1 := chain K1.below (lay v1 (.cells #[.int .i64 h1, .int .i64 wd1, .slice (some ⟨g1, 0, none⟩) xs.length xs.length] 33))
    have B1 := chain B l1
    have hs1 := K1.below.size
    have X8 := Bx.top v1 (.int .i64 h1) (.int .i64 wd1) (.slice (some ⟨g1, 0, none⟩) xs.length xs.length) 33
    have O1 := (ownK K1).below (lay v1 (.cells #[.int .i64 h1, .int .i64 wd1, .slice (some ⟨g1, 0, none⟩) xs.length xs.length] 33))
    have O0 := O0.below l1
    have D1 := Lib.hid (ownK K1).lt
    have HX := Lib.hid (And.intro (HX.out.1.below l1) (And.intro (HX.out.2.1.below l1) (And.intro (HX.out.2.2.below l1) X8)))
    obtain ⟨-, d0, d1, d2, -⟩ := HX.out.2.1
    clear c0 c1 c2 l1 B X8 K1
    go_wp2_with fail
    refine (T2.out _ B1).mono ?_
    rintro e v2 ⟨g2, rfl, K2⟩
    have l2 := chain K2.below (lay v2 (.cells #[.int .i64 h2, .int .i64 wd2, .slice (some ⟨g2, 0, none⟩) ys.length ys.length] 33))
    have B2 := chain B1 l2
    have hs2 := K2.below.size
    rw [World.size_alloc] at hs2
    have X9 := Bx.top v2 (.int .i64 h2) (.int .i64 wd2) (.slice (some ⟨g2, 0, none⟩) ys.length ys.length) 33
    have O2 := (ownK K2).below (lay v2 (.cells #[.int .i64 h2, .int .i64 wd2, .slice (some ⟨g2, 0, none⟩) ys.length ys.length] 33))
    have O0 := O0.below l2
    have O1 := O1.below l2
    have D2 := Lib.hid (ownK K2).lt
    have HX := Lib.hid (And.intro (HX.out.1.below l2) (And.intro (HX.out.2.1.below l2) (And.intro (HX.out.2.2.1.below l2) (And.intro (HX.out.2.2.2.below l2) X9))))
    clear d0 d1 d2 l2 B1 K2
    obtain ⟨-, c0, c1, c2, -⟩ := HX.out.2.2.2.1
    obtain ⟨-, d0, d1, d2, -⟩ := X9
    go_wp2_with fail
    refine (I.out _ _ _ _ _ O1.words O2.words).mono ?_
    rintro e v3 ⟨ag, capg, rfl, OG, b3⟩
    have l3 := chain b3 (lay v3 (.cells #[.int .i64 H, .int .i64 Wd, .slice ag zs.length capg] 33))
    have B3 := chain B2 l3
    have hs3 := b3.size
    rw [World.size_alloc] at hs3
    have X10 := Bx.top v3 (.int .i64 H) (.int .i64 Wd) (.slice ag zs.length capg) 33
    have DG := Lib.hid OG.lt
    have OG := OG.below (lay v3 (.cells #[.int .i64 H, .int .i64 Wd, .slice ag zs.length capg] 33))
    have O0 := O0.below l3
    have O1 := O1.below l3
    have O2 := O2.below l3
    have HX := Lib.hid (And.intro (HX.out.1.below l3) (And.intro (HX.out.2.1.below l3) (And.intro (HX.out.2.2.1.below l3) (And.intro (HX.out.2.2.2.1.below l3) (And.intro (HX.out.2.2.2.2.below l3) X10)))))
    clear c0 c1 c2 d0 d1 d2 l3 b3 B2
    obtain ⟨-, c0, c1, c2, -⟩ := HX.out.2.2.1
    obtain ⟨-, d0, d1, d2, -⟩ := X10
    go_wp2_with fail
    refine (Q.out _ _ _ _ _ OG.words O0.words).mono ?_
    rintro e v4 ⟨rfl, b4⟩
    have B4 := chain B3 b4
    have HX := Lib.hid (fun V (k : Below v4.heap.size v4 V) => And.intro (HX.out.1.below (chain b4 k)) (And.intro (HX.out.2.1.below (chain b4 k)) (And.intro (HX.out.2.2.1.below (chain b4 k)) (And.intro (HX.out.2.2.2.1.below (chain b4 k)) (And.intro (HX.out.2.2.2.2.1.below (chain b4 k)) (HX.out.2.2.2.2.2.below (chain b4 k)))))))
    have O0 := O0.below b4
    have OG := OG.below b4
    have O1 := O1.below b4
    have O2 := O2.below b4
    have HO := Lib.hid (fun V (k : Below v4.heap.size v4 V) => And.intro (O0.below k) (And.intro (OG.below k) (And.intro (O1.below k) (O2.below k))))
    have Z1 := O1.words
    have Z2 := O2.words
    clear c0 c1 c2 d0 d1 d2 B3 O0 OG O1 O2 b4
    obtain ⟨⟨-, c0, c1, c2, -⟩, ⟨-, d0, d1, d2, -⟩, -, ⟨-, m0, m1, m2, -⟩, ⟨-, p0, p1, p2, -⟩, -⟩ := HX.out v4 (Below.refl _ _)
    go_upto_region 14 with fail
    go_cut [58] (fun s wx => s = .bool false ∧ Below v4.heap.size v4 wx)
    case first =>
      have Bd := B4.drew
      clear d0 d1 d2 p0 p1 p2
      go_region_with (first
        | ((with_reducible refine (T1.out _ Bd).mono ?_); rintro e u1 ⟨g3, rfl, K3⟩; have k3 := undrew K3.below; have n1 := Z1.below k3; have n2 := K3.words; obtain ⟨⟨-, c0, c1, c2, -⟩, -, -, ⟨-, m0, m1, m2, -⟩, -, -⟩ := HX.out u1 k3)
        | ((with_reducible refine (Q1.out _ _ _ ?_ ?_).mono ?_); assumption; assumption; rintro e u3 ⟨rfl, b4⟩))
      all_goals (go_wp2_with fail; go_meet)
      all_goals exact ⟨rfl, chain k3 b4⟩
    case rest =>
      obtain ⟨rfl, bq⟩ := hcut
      clear c0 c1 c2 d0 d1 d2 m0 m1 m2 p0 p1 p2 Z1
      obtain ⟨-, ⟨-, d0, d1, d2, -⟩, -, -, ⟨-, p0, p1, p2, -⟩, -⟩ := HX.out _ bq
      have B5 := chain B4 bq
      have Z2 := Z2.below bq
      go_upto_region 16 with fail
      go_cut [63] (fun s wx => s = .bool false ∧ Below v4.heap.size v4 wx)
      case first =>
        have Bd := B5.drew
        go_region_with (first
          | ((with_reducible refine (T2.out _ Bd).mono ?_); rintro e u1 ⟨g3, rfl, K3⟩; have k3 := undrew K3.below; have n1 := Z2.below k3; have n2 := K3.words; obtain ⟨-, ⟨-, d0, d1, d2, -⟩, -, -, ⟨-, p0, p1, p2, -⟩, -⟩ := HX.out u1 (chain bq k3))
          | ((with_reducible refine (Q2.out _ _ _ ?_ ?_).mono ?_); assumption; assumption; rintro e u3 ⟨rfl, b4⟩))
        all_goals (go_wp2_with fail; go_meet)
        all_goals exact ⟨rfl, chain (chain bq k3) b4⟩
      case rest =>
        clear d0 d1 d2 p0 p1 p2 B5 Z2 bq
        obtain ⟨rfl, bq⟩ := hcut
        obtain ⟨X2, X3, X6, X8, X9, X10⟩ := HX.out _ bq
        obtain ⟨O0, OG, O1, O2⟩ := HO.out _ bq
        have B5 := chain B4 bq
        clear HX HO B4 bq
        have HX := Lib.hid (And.intro X2 (And.intro X3 (And.intro X6 (And.intro X9 X10))))
        obtain ⟨-, m0, m1, m2, -⟩ := X8
        clear X2 X3 X6 X9 X10
        go_wp2_with fail
        refine (A1.out _ v1.heap.size _ _ _ O1 D1.out).mono ?_
        rintro e v6 ⟨rfl, M, r, g6, hr⟩
        have hr := Lib.hid hr
        have X2 := HX.out.1.grown g6 (fun c hc => by have := hr.out c hc; omega)
        have X3 := HX.out.2.1.grown g6 (fun c hc => by have := hr.out c hc; omega)
        have X6 := HX.out.2.2.1.grown g6 (fun c hc => by have := hr.out c hc; omega)
        have X9 := HX.out.2.2.2.1.grown g6 (fun c hc => by have := hr.out c hc; omega)
        have X10 := HX.out.2.2.2.2.grown g6 (fun c hc => by have := hr.out c hc; omega)
        have O0 := O0.grown g6 D0.out (fun c hc => (hr.out c hc).1)
        have OG := OG.grown' g6 (fun c hc => by have := hr.out c hc; rw [World.size_alloc]; omega)
        have O2 := O2.grown' g6 (fun c hc => by have := hr.out c hc; rw [World.size_alloc]; omega)
        have B6 := B5.grown g6 B5.size (fun c hc => by have := (hr.out c hc).1; omega)
        clear HX m0 m1 m2 O1 B5 g6 hr M
        have HX := Lib.hid (And.intro X2 (And.intro X3 (And.intro X6 X10)))
        obtain ⟨-, p0, p1, p2, -⟩ := X9
        clear X2 X3 X6 X10
        go_wp2_with fail
        refine (A2.out _ v2.heap.size _ _ _ O2 D2.out).mono ?_
        rintro e v7 ⟨rfl, M, r, g7, hr⟩
        rw [World.size_alloc] at hr
        have hr := Lib.hid hr
        have X2 := HX.out.1.grown g7 (fun c hc => by have := hr.out c hc; omega)
        have X3 := HX.out.2.1.grown g7 (fun c hc => by have := hr.out c hc; omega)
        have X6 := HX.out.2.2.1.grown g7 (fun c hc => by have := hr.out c hc; omega)
        have X10 := HX.out.2.2.2.grown g7 (fun c hc => by have := hr.out c hc; omega)
        have O0 := O0.grown g7 D0.out (fun c hc => by have := (hr.out c hc).1; omega)
        have OG := OG.grown' g7 (fun c hc => by have := hr.out c hc; rw [World.size_alloc]; omega)
        have B7 := B6.grown g7 B6.size (fun c hc => by have := (hr.out c hc).1; omega)
        clear HX p0 p1 p2 O2 B6 g7 hr M
        have HX := Lib.hid (And.intro X2 (And.intro X3 (And.intro X6 X10)))
        obtain ⟨-, p0, p1, p2, -⟩ := X6
        obtain ⟨-, q0, q1, q2, -⟩ := X10
        clear X2 X3
        go_wp2_with fail
        refine (Q.out _ _ _ _ _ OG.words O0.words).mono ?_
        rintro e v8 ⟨rfl, b8⟩
        have O0 := O0.below b8
        have OG := OG.below b8
        have B8 := chain B7 b8
        have HX := Lib.hid (And.intro (HX.out.1.below b8) (And.intro (HX.out.2.1.below b8) (And.intro (HX.out.2.2.1.below b8) (HX.out.2.2.2.below b8))))
        clear p0 p1 p2 q0 q1 q2 b8 B7
        obtain ⟨-, q0, q1, q2, -⟩ := HX.out.2.2.2
        go_wp2_with fail
        refine (K.out _ v3.heap.size _ _ _ OG DG.out).mono ?_
        rintro e v9 ⟨rfl, M, r, g9, hr⟩
        rw [World.size_alloc] at hr
        have hr := Lib.hid hr
        have X2 := HX.out.1.grown g9 (fun c hc => by have := hr.out c hc; omega)
        have X3 := HX.out.2.1.grown g9 (fun c hc => by have := hr.out c hc; omega)
        have X6 := HX.out.2.2.1.grown g9 (fun c hc => by have := hr.out c hc; omega)
        have X10 := HX.out.2.2.2.grown g9 (fun c hc => by have := hr.out c hc; omega)
        have O0 := O0.grown g9 D0.out (fun c hc => by have := (hr.out c hc).1; omega)
        have B9 := B8.grown g9 B8.size (fun c hc => by have := (hr.out c hc).1; omega)
        clear HX q0 q1 q2 OG B8 g9 hr
        have HX := Lib.hid (And.intro X2 (And.intro X3 (And.intro X6 X10)))
        obtain ⟨-, q0, q1, q2, -⟩ := X10
        clear X2 X3 X6
        go_wp2_with fail
        refine (HH.out _ _ _ M).mono ?_
        rintro e V10 ⟨rfl, b10⟩
        have X2 := HX.out.1.below b10
        have X3 := HX.out.2.1.below b10
        have X6 := HX.out.2.2.1.below b10
        have X10 := HX.out.2.2.2.below b10
        have O0 := O0.below b10
        have M := M.below b10
        have B2 := chain B9 b10
        clear HX q0 q1 q2 B9 b10
        have hz2 := B2.size
        have hz3 := X3.lt
        have hz0 := X2.lt
        have hX := Lib.hid (And.intro X2 X3)
        have HY := Lib.hid (fun V (k : Below V10.heap.size V10 V) => And.intro (X6.below k) (And.intro (X10.below k) (And.intro (O0.below k) (M.below k))))
        clear X6 X10 O0 M
        obtain ⟨-, c0, c1, c2, -⟩ := X2
        obtain ⟨-, d0, d1, d2, -⟩ := X3
        go_upto_region 31 with fail
        go_cut [15, 16] (fun s6 s7 wx => R8 w V10 H Wd err zs s6 s7 wx)
        case first =>
          have Bd := B2.drew
          have bd := (Below.refl V10.heap.size V10).drew
          have NOW := Lib.hid (fun (V : World) (k : Below V10.heap.size V10 V) => And.intro (hX.out.1.below k) (hX.out.2.below k))
          go_region_with (first
            | ((with_reducible refine (T1.out _ ?_).mono ?_); (first | assumption | exact chain (by assumption) (lay _ _)); rintro e u1 ⟨g1, rfl, K1⟩; have Bx1 : Below w.heap.size w u1 := chain (by first | assumption | exact chain (by assumption) (lay _ _)) K1.below; have bx1 : Below V10.heap.size V10 u1 := chain (by first | assumption | exact chain (by assumption) (lay _ _)) K1.below; obtain ⟨⟨-, m0, m1, m2, -⟩, ⟨-, l0, l1, l2, -⟩⟩ := NOW.out u1 bx1; have e1 := Nat.lt_of_lt_of_le hz3 bx1.size; have e0 := Nat.lt_of_lt_of_le hz0 bx1.size; (first | with_reducible have ZZ := zold Z K1.below | with_reducible have ZZ := ztopd (w2 := V10) K1.below | with_reducible have ZZ := ztop (w2 := V10) (by assumption) K1.below | skip); (try obtain ⟨hbz, Z⟩ := ZZ); have X1 := K1.words; (first | have X2b := X2.below K1.below | have X2b := X2.below (chain (lay _ _) K1.below) | skip))
            | ((with_reducible refine (T2.out _ ?_).mono ?_); (first | assumption | exact chain (by assumption) (lay _ _)); rintro e u2 ⟨g2, rfl, K2⟩; have Bx2 : Below w.heap.size w u2 := chain (by first | assumption | exact chain (by assumption) (lay _ _)) K2.below; have bx2 : Below V10.heap.size V10 u2 := chain (by first | assumption | exact chain (by assumption) (lay _ _)) K2.below; obtain ⟨⟨-, m0, m1, m2, -⟩, ⟨-, l0, l1, l2, -⟩⟩ := NOW.out u2 bx2; have e1 := Nat.lt_of_lt_of_le hz3 bx2.size; have e0 := Nat.lt_of_lt_of_le hz0 bx2.size; (first | with_reducible have ZZ := zold Z K2.below | with_reducible have ZZ := ztopd (w2 := V10) K2.below | with_reducible have ZZ := ztop (w2 := V10) (by assumption) K2.below | skip); (try obtain ⟨hbz, Z⟩ := ZZ); have X2 := K2.words; (first | have X1b := X1.below K2.below | have X1b := X1.below (chain (lay _ _) K2.below) | skip))
            | ((with_reducible refine (I.out _ _ _ _ _ ?_ ?_).mono ?_); (first | assumption | exact Words.below (by assumption) (lay _ _)); (first | assumption | exact Words.below (by assumption) (lay _ _)); rintro e u3 ⟨a0, cap0, rfl, O0, b3⟩; have bx3 : Below V10.heap.size V10 u3 := chain (by first | assumption | exact chain (by assumption) (lay _ _)) b3; (first | with_reducible have ZZ := zold Z b3 | with_reducible have ZZ := ztop (w2 := V10) (by assumption) b3 | skip); (try obtain ⟨hbz, Z⟩ := ZZ); (try have Zk := Z); (try obtain ⟨-, -, z0, z1, z2, y0, y1, y2⟩ := Zk)))
          all_goals (go_wp2_with fail; go_meet)
          all_goals (first | exact R8_box hz2 hbz Z O0 bx3 | exact R8_top hz2 O0 bx3 (Below.size (w := V10) (by assumption)))
        case rest =>
          clear c0 c1 c2 d0 d1 d2
          obtain ⟨b15, a3, cap3, rfl, rfl, hb15, X15, O3, bx⟩ := hcut
          obtain ⟨X6, X10, O0, M⟩ := HY.out _ bx
          have B := chain B2 bx
          have hX10 := Lib.hid X10
          clear HY hX bx B2
          obtain ⟨-, p0, p1, p2, -⟩ := X6
          obtain ⟨-, d0, d1, d2, -⟩ := X15
          clear X10
          go_wp2_with fail
          refine (Q.out _ _ _ _ _ O3.words O0.words).mono ?_
          rintro e v12 ⟨rfl, b12⟩
          have M := M.below b12
          have B12 := chain B b12
          clear p0 p1 p2 d0 d1 d2 O3 O0
          obtain ⟨-, p0, p1, p2, -⟩ := hX10.out.below b12
          go_wp2_with fail
          refine (HH.out _ _ _ M).mono ?_
          rintro e v13 ⟨rfl, b13⟩
          go_wp2
          go_ret
          exact ⟨rfl, chain B12 b13⟩

end Go.Proofs.Ytgnllkkkkkcoaaa.Gf2
