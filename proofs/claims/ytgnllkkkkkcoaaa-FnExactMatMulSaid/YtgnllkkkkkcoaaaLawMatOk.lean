/-
  The exact law of MatrixOk: the program's answer is the model's, and the matrix is left as it was.
-/
import Derived.Test.YtgnllkkkkkcoaaaMatOk
import Derived.Deep.RegionWith
namespace Go.Proofs.Ytgnllkkkkkcoaaa.Mo
open Go.RowKit Go.Proofs.Ytgnllkkkkkcoaaa.At Go.Proofs.Ytgnllkkkkkcoaaa.MixC Go.Proofs.Ytgnllkkkkkcoaaa.Ml
set_option linter.unusedVariables false
theorem chain {w a b : World} (h : Below w.heap.size w a) (k : Below a.heap.size a b) : Below w.heap.size w b := h.trans (k.mono h.size)
theorem undrew {V w1 : World} (h : Below V.drew.heap.size V.drew w1) : Below V.heap.size V w1 := ⟨h.os, h.tape, h.output, h.size, h.block⟩
theorem IsRow.len_le {k : IntKind} {w : World} {a : Option Addr} {len cap : Nat} {zs : List Int} (h : IsRow k w a len cap zs) : len ≤ 9223372036854775807 := by
  rcases h with ⟨_, rfl, _, _⟩ | ⟨_, _, h1, h2, _⟩
  · omega
  · unfold maxLen at h2; omega

set_option maxRecDepth 100000 in
set_option maxHeartbeats 1000000 in
theorem fnMatrixOk (h wd : Int) (a : Option Addr) (len cap : Nat) (z : List Int) (w : World) (wh : (Lit.int .i64 h).wf = true) (ww : (Lit.int .i64 wd).wf = true) (w0 : IsRow .i64 w a len cap z) :
    Calls Try.prog 5 #[mval h wd (.slice a len cap)] w fun e w' => e = .returned (.bool true) ∧ Below w.heap.size w w' := by
  have hl := IsRow.len_le w0
  obtain ⟨hw, hlen⟩ := IsRow.words w0
  generalize z.take len = zs at hw hlen
  clear w0 wh ww
  have SZ := szMatrix h wd a len cap 1048576 hl (by omega) (by omega)
  by_cases q : (len : Int) ≤ 1048576
  · simp only [if_pos q] at SZ
    have SZ := Lib.hid SZ
    have T := Lib.hid (fun w' (b : Below w.heap.size w w') => toMatrix h wd a cap zs w' (by omega) (hw.below b))
    have S := Lib.hid (fun w' g (K : Words w' (some ⟨g, 0, none⟩) zs) => specOk h wd (some ⟨g, 0, none⟩) zs.length zs w' (by omega) K)
    have I := Lib.hid (fun w' g (K : Words w' (some ⟨g, 0, none⟩) zs) => implOk h wd (some ⟨g, 0, none⟩) zs.length zs w' (by omega) K)
    have Q := Lib.hid (fun w' g1 g2 (K1 : Words w' (some ⟨g1, 0, none⟩) zs) (K2 : Words w' (some ⟨g2, 0, none⟩) zs) => eqMatrix h wd (some ⟨g1, 0, none⟩) (some ⟨g2, 0, none⟩) zs.length zs.length zs w' (by omega) K1 K2)
    have lay0 : ∀ (v : World) x, Below v.heap.size v (v.alloc x) := fun v x => (Below.refl _ _).alloc (Nat.le_refl _) _
    have L0 := Lib.hid lay0
    clear lay0
    subst hlen
    clear hw
    generalize okM h wd zs = ok at S I
    go_enter Try.func5, Try.ntmps5
    go_wp2_with fail
    refine (SZ.out _).mono ?_
    rintro e w1 ⟨rfl, b1⟩
    obtain ⟨c0, c1, c2, -, -, -⟩ := box3 b1
    have B1 := chain (L0.out _ _) b1
    go_wp2_with fail
    refine (T.out _ B1).mono ?_
    rintro e w2 ⟨g1, rfl, K1⟩
    go_wp2_with fail
    refine (S.out _ g1 K1.words).mono ?_
    rintro e w3 ⟨rfl, b3⟩
    have b13 := chain (chain b1 K1.below) b3
    have B3 := chain (chain B1 K1.below) b3
    clear c0 c1 c2 b1 B1 K1 b3
    obtain ⟨c0, c1, c2, -, -, -⟩ := box3 b13
    go_wp2_with fail
    refine (T.out _ B3).mono ?_
    rintro e w4 ⟨g2, rfl, K2⟩
    have X2 := K2.words.below (L0.out _ (.cells #[.int .i64 h, .int .i64 wd, .slice (some ⟨g2, 0, none⟩) zs.length zs.length] 33))
    go_wp2_with fail
    refine (I.out _ g2 X2).mono ?_
    rintro e w5 ⟨rfl, b5⟩
    have b15 := chain (chain (chain b13 K2.below) (L0.out _ _)) b5
    have B5 := chain (chain (chain B3 K2.below) (L0.out _ _)) b5
    have X5 := X2.below b5
    clear c0 c1 c2
    obtain ⟨c0, c1, c2, -, -, -⟩ := box3 b15
    obtain ⟨d0, d1, d2, -, -, -⟩ := box3 b5
    have hlt : w4.heap.size < w5.heap.size := by have := b5.size; rw [World.size_alloc] at this; omega
    clear X2 K2 b13 B3
    go_wp2_with fail
    go_region_with (first | (refine (T.out _ B5.drew).mono ?_; rintro e w6 ⟨g3, rfl, K3⟩; have Y5 := X5.below (undrew K3.below); have Y3 := K3.words; have B6 := chain B5 (undrew K3.below); obtain ⟨e0, e1, e2, -, -, -⟩ := box3 (chain b5 (undrew K3.below))) | (refine (Q.out _ _ _ (by assumption) (by assumption)).mono ?_; rintro e w7 ⟨rfl, b7⟩))
    all_goals
      go_wp2
      go_ret
      exact ⟨rfl, chain B6 b7⟩
  · simp only [if_neg q] at SZ
    have SZ := Lib.hid SZ
    go_enter Try.func5, Try.ntmps5
    go_wp2_with fail
    refine (SZ.out _).mono ?_
    rintro e w1 ⟨rfl, b1⟩
    go_wp2
    go_ret
    exact ⟨rfl, chain ((Below.refl _ _).alloc (Nat.le_refl _) _) b1⟩
end Go.Proofs.Ytgnllkkkkkcoaaa.Mo
