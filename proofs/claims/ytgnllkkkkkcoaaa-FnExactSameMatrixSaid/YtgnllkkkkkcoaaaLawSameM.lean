/-
  The exact law of SameMatrix: the program's answer is the model's, and both matrices are left as they were.
-/
import Derived.Test.YtgnllkkkkkcoaaaSameM
import Derived.Test.YtgnllkkkkkcoaaaLawMatOk
namespace Go.Proofs.Ytgnllkkkkkcoaaa.Sa
open Go.RowKit Go.Proofs.Ytgnllkkkkkcoaaa.At Go.Proofs.Ytgnllkkkkkcoaaa.MixC Go.Proofs.Ytgnllkkkkkcoaaa.Ml Go.Proofs.Ytgnllkkkkkcoaaa.Mo
set_option linter.unusedVariables false

set_option maxRecDepth 100000 in
set_option maxHeartbeats 4000000 in
theorem fnSameMatrix (h1 wd1 : Int) (a : Option Addr) (len1 cap1 : Nat) (z1 : List Int) (h2 wd2 : Int) (b : Option Addr) (len2 cap2 : Nat) (z2 : List Int) (w : World)
    (w1 : (Lit.int .i64 h1).wf = true) (w2 : (Lit.int .i64 wd1).wf = true) (w0 : IsRow .i64 w a len1 cap1 z1) (w3 : (Lit.int .i64 h2).wf = true) (w4 : (Lit.int .i64 wd2).wf = true) (w5 : IsRow .i64 w b len2 cap2 z2) :
    Calls Try.prog 10 #[mval h1 wd1 (.slice a len1 cap1), mval h2 wd2 (.slice b len2 cap2)] w fun e w' => e = .returned (.bool true) ∧ Below w.heap.size w w' := by
  have hl1 := Mo.IsRow.len_le w0
  have hl2 := Mo.IsRow.len_le w5
  obtain ⟨hx, hlen1⟩ := IsRow.words w0
  obtain ⟨hy, hlen2⟩ := IsRow.words w5
  generalize z1.take len1 = xs at hx hlen1
  generalize z2.take len2 = ys at hy hlen2
  clear w0 w1 w2 w3 w4 w5
  have SZ1 := szMatrix h1 wd1 a len1 cap1 1048576 hl1 (by omega) (by omega)
  by_cases q1 : (len1 : Int) ≤ 1048576
  · simp only [if_pos q1] at SZ1
    have SZ2 := szMatrix h2 wd2 b len2 cap2 (1048576 - len1) hl2 (by omega) (by omega)
    by_cases q2 : (len2 : Int) ≤ 1048576 - len1
    · simp only [if_pos q2] at SZ2
      have SZ1 := Lib.hid SZ1
      have SZ2 := Lib.hid SZ2
      have n1 : xs.length ≤ 2097152 := by omega
      have n2 : ys.length ≤ 2097152 := by omega
      have T1 := Lib.hid (fun w' (x : Below w.heap.size w w') => toMatrix h1 wd1 a cap1 xs w' n1 (hx.below x))
      have T2 := Lib.hid (fun w' (x : Below w.heap.size w w') => toMatrix h2 wd2 b cap2 ys w' n2 (hy.below x))
      have S := Lib.hid (fun w' g1 g2 (K1 : Words w' (some ⟨g1, 0, none⟩) xs) (K2 : Words w' (some ⟨g2, 0, none⟩) ys) => specSame h1 wd1 h2 wd2 (some ⟨g1, 0, none⟩) (some ⟨g2, 0, none⟩) xs.length ys.length xs ys w' n1 n2 K1 K2)
      have I := Lib.hid (fun w' g1 g2 (K1 : Words w' (some ⟨g1, 0, none⟩) xs) (K2 : Words w' (some ⟨g2, 0, none⟩) ys) => implSame h1 wd1 h2 wd2 (some ⟨g1, 0, none⟩) (some ⟨g2, 0, none⟩) xs.length ys.length xs ys w' n1 n2 K1 K2)
      have Q1 := Lib.hid (fun w' g1 g2 (K1 : Words w' (some ⟨g1, 0, none⟩) xs) (K2 : Words w' (some ⟨g2, 0, none⟩) xs) => eqMatrix h1 wd1 (some ⟨g1, 0, none⟩) (some ⟨g2, 0, none⟩) xs.length xs.length xs w' n1 K1 K2)
      have Q2 := Lib.hid (fun w' g1 g2 (K1 : Words w' (some ⟨g1, 0, none⟩) ys) (K2 : Words w' (some ⟨g2, 0, none⟩) ys) => eqMatrix h2 wd2 (some ⟨g1, 0, none⟩) (some ⟨g2, 0, none⟩) ys.length ys.length ys w' n2 K1 K2)
      have L := Lib.hid lay
      subst hlen1
      subst hlen2
      clear hx hy
      generalize sameM h1 wd1 xs h2 wd2 ys = ok at S I
      have L0 := Lib.hid (lay2 w)
      go_enter Try.func10, Try.ntmps10
      go_wp2_with fail
      refine (SZ1.out _).mono ?_
      rintro e w1 ⟨rfl, b1⟩
      have r1 := box3 b1
      have r2 := box3' b1
      simp only [World.size_alloc] at r1 r2
      obtain ⟨c0, c1, c2, -, -, -⟩ := r1
      obtain ⟨d0, d1, d2, -, -, -⟩ := r2
      go_wp2_with fail
      refine (SZ2.out _).mono ?_
      rintro e w2 ⟨rfl, b2⟩
      have bb := chain b1 b2
      have B := chain (L0.out _ _) bb
      clear c0 c1 c2 d0 d1 d2 b1 b2
      have r1 := box3 bb
      have r2 := box3' bb
      simp only [World.size_alloc] at r1 r2
      obtain ⟨c0, c1, c2, -, -, -⟩ := r1
      obtain ⟨d0, d1, d2, -, -, -⟩ := r2
      go_upto_region 8 with fail
      go_cut [6] (fun s6 wx => s6 = .bool ok ∧ Below ((w.alloc (.cells #[.int .i64 h1, .int .i64 wd1, .slice a xs.length cap1] 30)).alloc (.cells #[.int .i64 h2, .int .i64 wd2, .slice b ys.length cap2] 30)).heap.size ((w.alloc (.cells #[.int .i64 h1, .int .i64 wd1, .slice a xs.length cap1] 30)).alloc (.cells #[.int .i64 h2, .int .i64 wd2, .slice b ys.length cap2] 30)) wx ∧ Below w.heap.size w wx)
      case first =>
        have Bd := B.drew
        have bd := bb.drew
        go_region_with (first
          | ((with_reducible refine (T1.out _ ?_).mono ?_); assumption; rintro e u1 ⟨g1, rfl, K1⟩; have Bx1 : Below w.heap.size w u1 := chain (by assumption) K1.below; have bx1 : Below ((w.alloc (.cells #[.int .i64 h1, .int .i64 wd1, .slice a xs.length cap1] 30)).alloc (.cells #[.int .i64 h2, .int .i64 wd2, .slice b ys.length cap2] 30)).heap.size ((w.alloc (.cells #[.int .i64 h1, .int .i64 wd1, .slice a xs.length cap1] 30)).alloc (.cells #[.int .i64 h2, .int .i64 wd2, .slice b ys.length cap2] 30)) u1 := chain (by assumption) K1.below; have r1 := box3 bx1; have r2 := box3' bx1; simp only [World.size_alloc] at r1 r2; obtain ⟨m0, m1, m2, -, -, -⟩ := r1; obtain ⟨l0, l1, l2, -, -, -⟩ := r2; have X1 := K1.words; (try have X2b := X2.below K1.below))
          | ((with_reducible refine (T2.out _ ?_).mono ?_); assumption; rintro e u2 ⟨g2, rfl, K2⟩; have Bx2 : Below w.heap.size w u2 := chain (by assumption) K2.below; have bx2 : Below ((w.alloc (.cells #[.int .i64 h1, .int .i64 wd1, .slice a xs.length cap1] 30)).alloc (.cells #[.int .i64 h2, .int .i64 wd2, .slice b ys.length cap2] 30)).heap.size ((w.alloc (.cells #[.int .i64 h1, .int .i64 wd1, .slice a xs.length cap1] 30)).alloc (.cells #[.int .i64 h2, .int .i64 wd2, .slice b ys.length cap2] 30)) u2 := chain (by assumption) K2.below; have r1 := box3 bx2; have r2 := box3' bx2; simp only [World.size_alloc] at r1 r2; obtain ⟨m0, m1, m2, -, -, -⟩ := r1; obtain ⟨l0, l1, l2, -, -, -⟩ := r2; have X2 := K2.words; (try have X1b := X1.below K2.below))
          | ((with_reducible refine (S.out _ _ _ ?_ ?_).mono ?_); assumption; assumption; rintro e u3 ⟨rfl, b3⟩))
        all_goals (go_wp2_with fail; go_meet)
        all_goals exact ⟨rfl, chain (by assumption) b3, chain (by assumption) b3⟩
      case rest =>
        clear bb B c0 c1 c2 d0 d1 d2
        obtain ⟨rfl, bb, B⟩ := hcut
        have r1 := box3 bb
        have r2 := box3' bb
        simp only [World.size_alloc] at r1 r2
        obtain ⟨c0, c1, c2, -, -, -⟩ := r1
        obtain ⟨d0, d1, d2, -, -, -⟩ := r2
        go_wp2_with fail
        refine (T1.out _ B).mono ?_
        rintro e v1 ⟨g1, rfl, K1⟩
        have b1 := chain bb K1.below
        have B1 := chain B K1.below
        clear c0 c1 c2 d0 d1 d2
        have r1 := box3 b1
        have r2 := box3' b1
        have hz := b1.size
        simp only [World.size_alloc] at r1 r2 hz
        obtain ⟨c0, c1, c2, -, -, -⟩ := r1
        obtain ⟨d0, d1, d2, -, -, -⟩ := r2
        have hz1 : w.heap.size + 1 < v1.heap.size := by omega
        have hz0 : w.heap.size < v1.heap.size := by omega
        go_wp2_with fail
        refine (T2.out _ (chain B1 (L.out v1 (.cells #[.int .i64 h1, .int .i64 wd1, .slice (some ⟨g1, 0, none⟩) xs.length xs.length] 33)))).mono ?_
        rintro e v2 ⟨g2, rfl, K2⟩
        have Y1 := (K1.words.below (L.out v1 (.cells #[.int .i64 h1, .int .i64 wd1, .slice (some ⟨g1, 0, none⟩) xs.length xs.length] 33))).below K2.below
        have Y2 := K2.words
        have b2 := chain (chain b1 (L.out v1 (.cells #[.int .i64 h1, .int .i64 wd1, .slice (some ⟨g1, 0, none⟩) xs.length xs.length] 33))) K2.below
        have B2 := chain (chain B1 (L.out v1 (.cells #[.int .i64 h1, .int .i64 wd1, .slice (some ⟨g1, 0, none⟩) xs.length xs.length] 33))) K2.below
        have k2 := K2.below
        have r3 := box3 k2
        have hz2 := k2.size
        rw [World.size_alloc] at hz2
        have hz2 : v1.heap.size < v2.heap.size := by omega
        obtain ⟨e0, e1, e2, -, -, -⟩ := r3
        clear K1 K2 c0 c1 c2 d0 d1 d2
        go_wp2_with fail
        refine (I.out _ g1 g2 (Y1.below (L.out v2 (.cells #[.int .i64 h2, .int .i64 wd2, .slice (some ⟨g2, 0, none⟩) ys.length ys.length] 33))) (Y2.below (L.out v2 (.cells #[.int .i64 h2, .int .i64 wd2, .slice (some ⟨g2, 0, none⟩) ys.length ys.length] 33)))).mono ?_
        rintro e v3 ⟨rfl, b3⟩
        have Z1 := (Y1.below (L.out v2 (.cells #[.int .i64 h2, .int .i64 wd2, .slice (some ⟨g2, 0, none⟩) ys.length ys.length] 33))).below b3
        have Z2 := (Y2.below (L.out v2 (.cells #[.int .i64 h2, .int .i64 wd2, .slice (some ⟨g2, 0, none⟩) ys.length ys.length] 33))).below b3
        have bW := chain (chain b2 (L.out v2 (.cells #[.int .i64 h2, .int .i64 wd2, .slice (some ⟨g2, 0, none⟩) ys.length ys.length] 33))) b3
        have BW := chain (chain B2 (L.out v2 (.cells #[.int .i64 h2, .int .i64 wd2, .slice (some ⟨g2, 0, none⟩) ys.length ys.length] 33))) b3
        have bX := chain (chain k2 (L.out v2 (.cells #[.int .i64 h2, .int .i64 wd2, .slice (some ⟨g2, 0, none⟩) ys.length ys.length] 33))) b3
        clear e0 e1 e2 Y1 Y2 b1 b2 B1 B2 k2 bb B
        have H : ∀ vv, Below v3.heap.size v3 vv → _ := fun vv (q : Below v3.heap.size v3 vv) => And.intro (box3 (chain bW q)) (And.intro (box3' (chain bW q)) (And.intro (box3 (chain bX q)) (box3 (chain b3 q))))
        simp only [World.size_alloc] at H
        have HH := Lib.hid H
        clear H
        obtain ⟨⟨c0, c1, c2, -⟩, ⟨d0, d1, d2, -⟩, ⟨e0, e1, e2, -⟩, ⟨i0, i1, i2, -⟩⟩ := HH.out v3 (Below.refl _ _)
        go_upto_region 14 with fail
        go_cut [39] (fun s wx => s = .bool false ∧ Below v3.heap.size v3 wx)
        case first =>
          have Bd := BW.drew
          go_region_with (first
            | ((with_reducible refine (T1.out _ Bd).mono ?_); rintro e u1 ⟨g3, rfl, K3⟩; have k3 := undrew K3.below; have n1 := Z1.below k3; have n2 := K3.words; obtain ⟨⟨m0, m1, m2, -⟩, ⟨l0, l1, l2, -⟩, ⟨p0, p1, p2, -⟩, -⟩ := HH.out u1 k3)
            | ((with_reducible refine (Q1.out _ _ _ ?_ ?_).mono ?_); assumption; assumption; rintro e u3 ⟨rfl, b4⟩))
          all_goals (go_wp2_with fail; go_meet)
          all_goals exact ⟨rfl, chain k3 b4⟩
        case rest =>
          obtain ⟨rfl, bq⟩ := hcut
          clear c0 c1 c2 d0 d1 d2 e0 e1 e2 i0 i1 i2
          obtain ⟨⟨c0, c1, c2, -⟩, ⟨d0, d1, d2, -⟩, ⟨e0, e1, e2, -⟩, ⟨i0, i1, i2, -⟩⟩ := HH.out wc bq
          have BC := chain BW bq
          have Bd := BC.drew
          have Z2c := Z2.below bq
          go_wp2_with fail
          go_region_with (first
            | ((with_reducible refine (T2.out _ Bd).mono ?_); rintro e u1 ⟨g3, rfl, K3⟩; have k3 := undrew K3.below; have n1 := Z2c.below k3; have n2 := K3.words; obtain ⟨⟨m0, m1, m2, -⟩, ⟨l0, l1, l2, -⟩, -, ⟨p0, p1, p2, -⟩⟩ := HH.out u1 (chain bq k3))
            | ((with_reducible refine (Q2.out _ _ _ ?_ ?_).mono ?_); assumption; assumption; rintro e u3 ⟨rfl, b4⟩))
          all_goals
            go_wp2
            go_ret
            exact ⟨rfl, chain (chain BC k3) b4⟩
    · simp only [if_neg q2] at SZ2
      have SZ1 := Lib.hid SZ1
      have SZ2 := Lib.hid SZ2
      have L0 := Lib.hid (lay2 w)
      go_enter Try.func10, Try.ntmps10
      go_wp2_with fail
      refine (SZ1.out _).mono ?_
      rintro e w1 ⟨rfl, b1⟩
      have r1 := box3 b1
      have r2 := box3' b1
      simp only [World.size_alloc] at r1 r2
      obtain ⟨c0, c1, c2, -, -, -⟩ := r1
      obtain ⟨d0, d1, d2, -, -, -⟩ := r2
      go_wp2_with fail
      refine (SZ2.out _).mono ?_
      rintro e w2 ⟨rfl, b2⟩
      go_wp2
      go_ret
      exact ⟨rfl, chain (chain (L0.out _ _) b1) b2⟩
  · simp only [if_neg q1] at SZ1
    have SZ1 := Lib.hid SZ1
    have L0 := Lib.hid (lay2 w)
    go_enter Try.func10, Try.ntmps10
    go_wp2_with fail
    refine (SZ1.out _).mono ?_
    rintro e w1 ⟨rfl, b1⟩
    go_wp2
    go_ret
    exact ⟨rfl, chain (L0.out _ _) b1⟩
end Go.Proofs.Ytgnllkkkkkcoaaa.Sa
