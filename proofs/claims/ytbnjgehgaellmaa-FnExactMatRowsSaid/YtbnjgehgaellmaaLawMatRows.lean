/-
  The exact law of MatRows, where both functions' answers are known.
-/
import Derived.Test.YtbnjgehgaellmaaMatRw3
import Derived.Test.YtbnjgehgaellmaaMatRes2
namespace Go.Proofs.Ytbnjgehgaellmaa.Gf2
open Go.RowKit Go.Proofs.Ytbnjgehgaellmaa.At Go.Proofs.Ytbnjgehgaellmaa.MixC Go.Proofs.Ytbnjgehgaellmaa.Ml Go.Proofs.Ytbnjgehgaellmaa.Gr Go.Proofs.Ytbnjgehgaellmaa.Gj Go.Proofs.Ytbnjgehgaellmaa.GfS
set_option linter.unusedVariables false

theorem ownK {W v : World} {g : Nat} {zs : List Int} (K : Copied W v g zs) : OwnS W v (some ⟨g, 0, none⟩) zs := .inr ⟨g, rfl, K.new, K.lt, K.nums, K.free⟩
theorem OwnS.grown' {W w w1 : World} {a : Option Addr} {zs : List Int} {r : Option Nat} (O : OwnS W w a zs) (g : w.grownBy w1 r) (hr : ∀ c, r = some c → c < W.heap.size) : OwnS W w1 a zs := by
  rcases O with h | ⟨b, ha, h0, h1, hn, hf⟩
  · exact .inl h
  · have e : w1.heap[b]? = w.heap[b]? := g.block b h1 (fun q => by have := hr b q.symm; omega)
    exact .inr ⟨b, ha, h0, Nat.lt_of_lt_of_le h1 g.size, fun i hi => (World.cell?_of_block e).trans (hn i hi), fun i => (World.frozen?_of_block e).trans (hf i)⟩

set_option maxRecDepth 100000 in
set_option maxHeartbeats 4000000 in
theorem matRowsLaw (h1 wd1 : Int) (xs rs : List Int) (H Wd err : Int) (zs : List Int) (hn : zs.length ≤ 1000000) (a : Option Addr) (cap1 : Nat) (b : Option Addr) (cap2 : Nat) (w : World) (hl1 : xs.length ≤ 1048576) (hl2 : rs.length ≤ 1048576)
    (hx : Words w a xs) (hy : Words w b rs)
    (HS : ∀ w a b, Words w a xs → Words w b rs → Calls Try.prog 10 #[mval h1 wd1 (.slice a xs.length xs.length), .slice b rs.length rs.length] w (MatErr H Wd zs err w))
    (HI : ∀ w a b, Words w a xs → Words w b rs → Calls Try.prog 13 #[mval h1 wd1 (.slice a xs.length xs.length), .slice b rs.length rs.length] w (MatErr H Wd zs err w)) :
    Calls Try.prog 3 #[mval h1 wd1 (.slice a xs.length cap1), .slice b rs.length cap2] w fun e w' => e = .returned (.bool true) ∧ Below w.heap.size w w' := by
  have SZ1 := szMatrix h1 wd1 a xs.length cap1 1048576 (by omega) (by omega) (by omega)
  simp only [if_pos (show (xs.length : Int) ≤ 1048576 by omega)] at SZ1
  have SZ1 := Lib.hid SZ1
  have S := Lib.hid HS
  have I := Lib.hid HI
  have n1 : xs.length ≤ 2097152 := by omega
  have n2 : rs.length ≤ 2097152 := by omega
  have T1 := Lib.hid (fun w' (x : Below w.heap.size w w') => toMatrix h1 wd1 a cap1 xs w' n1 (hx.below x))
  have T2 := Lib.hid (fun w' (x : Below w.heap.size w w') => toInt64S b cap2 rs w' n2 (hy.below x))
  have Q := Lib.hid (fun w' a b c1 c2 (x : Words w' a zs) (y : Words w' b zs) => eqMatrix H Wd a b c1 c2 zs w' (by omega) x y)
  have Q1 := Lib.hid (fun w' g1 g2 (K1 : Words w' (some ⟨g1, 0, none⟩) xs) (K2 : Words w' (some ⟨g2, 0, none⟩) xs) => eqMatrix h1 wd1 (some ⟨g1, 0, none⟩) (some ⟨g2, 0, none⟩) xs.length xs.length xs w' n1 K1 K2)
  have Q2 := Lib.hid (fun w' g1 g2 (K1 : Words w' (some ⟨g1, 0, none⟩) rs) (K2 : Words w' (some ⟨g2, 0, none⟩) rs) => eqInt64S (some ⟨g1, 0, none⟩) (some ⟨g2, 0, none⟩) rs.length rs.length rs w' n2 K1 K2)
  have A1 := Lib.hid (fun W D a cap w' (O : OwnS W w' a xs) hD => markO W D h1 wd1 a cap xs 1 (by omega) (by omega) n1 w' O hD)
  have A2 := Lib.hid (fun w' g (O : Mine w' (some ⟨g, 0, none⟩) rs.length) => markInt64S (some ⟨g, 0, none⟩) rs.length rs.length (1 + xs.length) (by omega) (by omega) n2 w' O)
  have K := Lib.hid (fun W D a cap w' (O : OwnS W w' a zs) hD => markO W D H Wd a cap zs 1 (by omega) (by omega) (by omega) w' O hD)
  have HH := Lib.hid (fun a cap w' (m : Marks w' a zs.length 1) => heldMatrix H Wd a zs.length cap 1 (by omega) (by omega) (by omega) w' m)
  clear HS HI hx hy
  have L2 := Lib.hid (lay w (.cells #[.int .i64 h1, .int .i64 wd1, .slice a xs.length cap1] 24))
  have X2 := Bx.top w (.int .i64 h1) (.int .i64 wd1) (.slice a xs.length cap1) 24
  have ii : (rs.length : Int) ≤ 1048576 := by omega
  go_enter Try.func3, Try.ntmps3
  go_wp2_with fail
  refine (SZ1.out _).mono ?_
  rintro e w1 ⟨rfl, b1⟩
  have X2 := X2.below b1
  have B := chain L2.out b1
  have hX := Lib.hid X2
  obtain ⟨-, c0, c1, c2, -⟩ := X2
  clear b1
  go_wp2_with fail
  refine (T1.out _ B).mono ?_
  rintro e u1 ⟨g1, rfl, K1⟩
  have B := chain B K1.below
  have hX := Lib.hid (hX.out.below K1.below)
  clear c0 c1 c2
  go_wp2_with fail
  refine (T2.out _ B).mono ?_
  rintro e u2 ⟨g2, rfl, K2⟩
  have B := chain B K2.below
  have hX := Lib.hid (hX.out.below K2.below)
  go_wp2_with fail
  refine (S.out _ _ _ (K1.words.below K2.below) K2.words).mono ?_
  rintro e u3 ⟨a0, cap0, rfl, O0, b3⟩
  have hO := B.size
  have D0 := Lib.hid (fun (q : zs ≠ []) b o (e : a0 = some ⟨b, o, none⟩) => Nat.lt_succ_of_lt (O0.lt q b o e))
  have O0 := O0.from hO
  have l3 := chain b3 (lay u3 (.cells #[.int .i64 H, .int .i64 Wd, .slice a0 zs.length cap0] 26))
  have X2 := hX.out.below l3
  have X6 := Bx.top u3 (.int .i64 H) (.int .i64 Wd) (.slice a0 zs.length cap0) 26
  have O0 := O0.below (lay u3 (.cells #[.int .i64 H, .int .i64 Wd, .slice a0 zs.length cap0] 26))
  have B := chain B l3
  have s0 := X2.lt
  have hB := B.size
  rw [World.size_alloc] at s0 hB
  have HX := Lib.hid (And.intro X2 X6)
  obtain ⟨-, c0, c1, c2, -⟩ := X2
  clear K1 K2 b3 l3 X6 hX hO
  go_wp2_with fail
  refine (T1.out _ B).mono ?_
  rintro e v1 ⟨g1, rfl, K1⟩
  have l1 := chain K1.below (lay v1 (.cells #[.int .i64 h1, .int .i64 wd1, .slice (some ⟨g1, 0, none⟩) xs.length xs.length] 26))
  have B1 := chain B l1
  have hs1 := K1.below.size
  rw [World.size_alloc] at hs1
  have X8 := Bx.top v1 (.int .i64 h1) (.int .i64 wd1) (.slice (some ⟨g1, 0, none⟩) xs.length xs.length) 26
  have O1 := (ownK K1).below (lay v1 (.cells #[.int .i64 h1, .int .i64 wd1, .slice (some ⟨g1, 0, none⟩) xs.length xs.length] 26))
  have O0 := O0.below l1
  have D1 := Lib.hid (ownK K1).lt
  have HX := Lib.hid (And.intro (HX.out.1.below l1) (And.intro (HX.out.2.below l1) X8))
  clear c0 c1 c2 l1 B X8 K1
  go_wp2_with fail
  refine (T2.out _ B1).mono ?_
  rintro e v2 ⟨g2, rfl, K2⟩
  have l2 := K2.below
  have B2 := chain B1 l2
  have hs2 := l2.size
  rw [World.size_alloc] at hs2
  have hg2 := K2.new
  rw [World.size_alloc] at hg2
  have hg2' := K2.lt
  have O2 := ownK K2
  have O0 := O0.below l2
  have O1 := O1.below l2
  have HX := Lib.hid (And.intro (HX.out.1.below l2) (And.intro (HX.out.2.1.below l2) (HX.out.2.2.below l2)))
  clear l2 B1 K2
  obtain ⟨-, c0, c1, c2, -⟩ := HX.out.2.2
  go_wp2_with fail
  refine (I.out _ _ _ O1.words O2.words).mono ?_
  rintro e v3 ⟨ag, capg, rfl, OG, b3⟩
  have l3 := chain b3 (lay v3 (.cells #[.int .i64 H, .int .i64 Wd, .slice ag zs.length capg] 26))
  have B3 := chain B2 l3
  have hs3 := b3.size
  have X10 := Bx.top v3 (.int .i64 H) (.int .i64 Wd) (.slice ag zs.length capg) 26
  have DG := Lib.hid OG.lt
  have OG := OG.below (lay v3 (.cells #[.int .i64 H, .int .i64 Wd, .slice ag zs.length capg] 26))
  have O0 := O0.below l3
  have O1 := O1.below l3
  have O2 := O2.below l3
  have HX := Lib.hid (And.intro (HX.out.1.below l3) (And.intro (HX.out.2.1.below l3) (And.intro (HX.out.2.2.below l3) X10)))
  clear c0 c1 c2 l3 b3 B2
  obtain ⟨-, c0, c1, c2, -⟩ := HX.out.2.1
  obtain ⟨-, d0, d1, d2, -⟩ := X10
  go_wp2_with fail
  refine (Q.out _ _ _ _ _ OG.words O0.words).mono ?_
  rintro e v4 ⟨rfl, b4⟩
  have B4 := chain B3 b4
  have HX := Lib.hid (fun V (k : Below v4.heap.size v4 V) => And.intro (HX.out.1.below (chain b4 k)) (And.intro (HX.out.2.1.below (chain b4 k)) (And.intro (HX.out.2.2.1.below (chain b4 k)) (HX.out.2.2.2.below (chain b4 k)))))
  have O0 := O0.below b4
  have OG := OG.below b4
  have O1 := O1.below b4
  have O2 := O2.below b4
  have HO := Lib.hid (fun V (k : Below v4.heap.size v4 V) => And.intro (O0.below k) (And.intro (OG.below k) (And.intro (O1.below k) (O2.below k))))
  have Z1 := O1.words
  have Z2 := O2.words
  clear c0 c1 c2 d0 d1 d2 B3 O0 OG O1 O2 b4
  obtain ⟨⟨-, c0, c1, c2, -⟩, -, ⟨-, m0, m1, m2, -⟩, -⟩ := HX.out v4 (Below.refl _ _)
  go_upto_region 13 with fail
  go_cut [56] (fun s wx => s = .bool false ∧ Below v4.heap.size v4 wx)
  case first =>
    have Bd := B4.drew
    go_region_with (first
      | ((with_reducible refine (T1.out _ Bd).mono ?_); rintro e u1 ⟨g3, rfl, K3⟩; have k3 := undrew K3.below; have n1 := Z1.below k3; have n2 := K3.words; obtain ⟨⟨-, c0, c1, c2, -⟩, -, ⟨-, m0, m1, m2, -⟩, -⟩ := HX.out u1 k3)
      | ((with_reducible refine (Q1.out _ _ _ ?_ ?_).mono ?_); assumption; assumption; rintro e u3 ⟨rfl, b4⟩))
    all_goals (go_wp2_with fail; go_meet)
    all_goals exact ⟨rfl, chain k3 b4⟩
  case rest =>
    obtain ⟨rfl, bq⟩ := hcut
    clear c0 c1 c2 m0 m1 m2 Z1
    have B5 := chain B4 bq
    have Z2 := Z2.below bq
    go_wp2_with fail
    refine (T2.out _ B5).mono ?_
    rintro e v5 ⟨g3, rfl, K3⟩
    have bq := chain bq K3.below
    go_wp2_with fail
    refine (Q2.out _ _ _ (Z2.below K3.below) K3.words).mono ?_
    rintro e v5b ⟨rfl, q, hq⟩
    have bq := chain bq (below_of_eq hq)
    clear B5 Z2 K3 hq
    obtain ⟨X2, X6, X8, X10⟩ := HX.out _ bq
    obtain ⟨O0, OG, O1, O2⟩ := HO.out _ bq
    have B5 := chain B4 bq
    clear HX HO B4 bq
    have HX := Lib.hid (And.intro X2 (And.intro X6 X10))
    obtain ⟨-, m0, m1, m2, -⟩ := X8
    clear X2 X6 X10
    go_wp2_with fail
    refine (A1.out _ v1.heap.size _ _ _ O1 D1.out).mono ?_
    rintro e v6 ⟨rfl, M, r, g6, hr⟩
    rw [World.size_alloc] at hr
    have hr := Lib.hid hr
    have X2 := HX.out.1.grown g6 (fun c hc => by have := hr.out c hc; omega)
    have X6 := HX.out.2.1.grown g6 (fun c hc => by have := hr.out c hc; omega)
    have X10 := HX.out.2.2.grown g6 (fun c hc => by have := hr.out c hc; omega)
    have O0 := O0.grown g6 D0.out (fun c hc => (hr.out c hc).1)
    have OG := OG.grown' g6 (fun c hc => by have := hr.out c hc; omega)
    have O2 := O2.grown' g6 (fun c hc => by have := hr.out c hc; rw [World.size_alloc]; omega)
    have B6 := B5.grown g6 B5.size (fun c hc => by have := (hr.out c hc).1; omega)
    clear HX m0 m1 m2 O1 B5 g6 hr M
    have HX := Lib.hid (And.intro X2 (And.intro X6 X10))
    clear X2 X6 X10
    go_wp2_with fail
    refine (A2.out _ _ O2.mine).mono ?_
    rintro e v7 ⟨rfl, M, g7⟩
    have hr : ∀ c, rowOf (some ⟨g2, 0, none⟩) = some c → c = g2 := fun c hc => by simpa [rowOf] using hc.symm
    have hr := Lib.hid hr
    have X2 := HX.out.1.grown g7 (fun c hc => by have := hr.out c hc; omega)
    have X6 := HX.out.2.1.grown g7 (fun c hc => by have := hr.out c hc; omega)
    have X10 := HX.out.2.2.grown g7 (fun c hc => by have := hr.out c hc; omega)
    have O0 := O0.grown g7 D0.out (fun c hc => by have := hr.out c hc; omega)
    have OG := OG.grown' g7 (fun c hc => by have := hr.out c hc; omega)
    have B7 := B6.grown g7 B6.size (fun c hc => by have := hr.out c hc; omega)
    clear HX O2 B6 g7 hr M
    have HX := Lib.hid (And.intro X2 (And.intro X6 X10))
    obtain ⟨-, p0, p1, p2, -⟩ := X6
    obtain ⟨-, q0, q1, q2, -⟩ := X10
    clear X2
    have t0 : decide ((1 : Int) + (xs.length : Int) + (rs.length : Int) < 0) = false := decide_eq_false (by omega)
    go_wp2_with fail
    refine (Q.out _ _ _ _ _ OG.words O0.words).mono ?_
    rintro e v8 ⟨rfl, b8⟩
    have O0 := O0.below b8
    have OG := OG.below b8
    have B8 := chain B7 b8
    have HX := Lib.hid (And.intro (HX.out.1.below b8) (And.intro (HX.out.2.1.below b8) (HX.out.2.2.below b8)))
    clear p0 p1 p2 q0 q1 q2 b8 B7
    obtain ⟨-, q0, q1, q2, -⟩ := HX.out.2.2
    go_wp2_with fail
    refine (K.out _ v3.heap.size _ _ _ OG DG.out).mono ?_
    rintro e v9 ⟨rfl, M, r, g9, hr⟩
    have hr := Lib.hid hr
    have X2 := HX.out.1.grown g9 (fun c hc => by have := hr.out c hc; omega)
    have X6 := HX.out.2.1.grown g9 (fun c hc => by have := hr.out c hc; omega)
    have X10 := HX.out.2.2.grown g9 (fun c hc => by have := hr.out c hc; omega)
    have O0 := O0.grown g9 D0.out (fun c hc => by have := (hr.out c hc).1; omega)
    have B9 := B8.grown g9 B8.size (fun c hc => by have := (hr.out c hc).1; omega)
    clear HX q0 q1 q2 OG B8 g9 hr
    have HX := Lib.hid (And.intro X2 (And.intro X6 X10))
    obtain ⟨-, q0, q1, q2, -⟩ := X10
    clear X2 X6
    go_wp2_with fail
    refine (HH.out _ _ _ M).mono ?_
    rintro e v10 ⟨rfl, b10⟩
    have B := chain B9 b10
    have HX := Lib.hid (And.intro (HX.out.1.below b10) (And.intro (HX.out.2.1.below b10) (HX.out.2.2.below b10)))
    have O0 := O0.below b10
    have M := M.below b10
    clear q0 q1 q2 B9 b10
    obtain ⟨-, c0, c1, c2, -⟩ := HX.out.1
    go_wp2_with fail
    refine (T1.out _ B).mono ?_
    rintro e u1 ⟨g1', rfl, K1⟩
    have B := chain B K1.below
    have HX := Lib.hid (And.intro (HX.out.2.1.below K1.below) (HX.out.2.2.below K1.below))
    have O0 := O0.below K1.below
    have M := M.below K1.below
    clear c0 c1 c2
    go_wp2_with fail
    refine (T2.out _ B).mono ?_
    rintro e u2 ⟨g2', rfl, K2⟩
    have B := chain B K2.below
    have HX := Lib.hid (And.intro (HX.out.1.below K2.below) (HX.out.2.below K2.below))
    have O0 := O0.below K2.below
    have M := M.below K2.below
    go_wp2_with fail
    refine (I.out _ _ _ (K1.words.below K2.below) K2.words).mono ?_
    rintro e u3 ⟨a3, cap3, rfl, O3, b3⟩
    have l3 := chain b3 (lay u3 (.cells #[.int .i64 H, .int .i64 Wd, .slice a3 zs.length cap3] 26))
    have X15 := Bx.top u3 (.int .i64 H) (.int .i64 Wd) (.slice a3 zs.length cap3) 26
    have O3 := O3.below (lay u3 (.cells #[.int .i64 H, .int .i64 Wd, .slice a3 zs.length cap3] 26))
    have X6 := HX.out.1.below l3
    have X10 := Lib.hid (HX.out.2.below l3)
    have O0 := O0.below l3
    have M := M.below l3
    have B := chain B l3
    clear K1 K2 HX b3 l3
    obtain ⟨-, p0, p1, p2, -⟩ := X6
    obtain ⟨-, d0, d1, d2, -⟩ := X15
    go_wp2_with fail
    refine (Q.out _ _ _ _ _ O3.words O0.words).mono ?_
    rintro e v12 ⟨rfl, b12⟩
    have M := M.below b12
    have B12 := chain B b12
    clear p0 p1 p2 d0 d1 d2 O3 O0
    obtain ⟨-, p0, p1, p2, -⟩ := X10.out.below b12
    go_wp2_with fail
    refine (HH.out _ _ _ M).mono ?_
    rintro e v13 ⟨rfl, b13⟩
    go_wp2
    go_ret
    exact ⟨rfl, chain B12 b13⟩
end Go.Proofs.Ytbnjgehgaellmaa.Gf2
