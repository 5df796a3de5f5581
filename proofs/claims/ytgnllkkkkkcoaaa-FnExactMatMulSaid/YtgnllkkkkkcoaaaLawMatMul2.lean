/-
  The exact law of MatMul: all inputs.
-/
import Derived.Test.YtgnllkkkkkcoaaaLawMatMul
import Derived.Test.YtgnllkkkkkcoaaaLawMatOk
namespace Go.Proofs.Ytgnllkkkkkcoaaa.Gf2
open Go.RowKit Go.Proofs.Ytgnllkkkkkcoaaa.At Go.Proofs.Ytgnllkkkkkcoaaa.MixC Go.Proofs.Ytgnllkkkkkcoaaa.Ml Go.Proofs.Ytgnllkkkkkcoaaa.Gr Go.Proofs.Ytgnllkkkkkcoaaa.Gj Go.Proofs.Ytgnllkkkkkcoaaa.GfS
set_option linter.unusedVariables false

/-- A matrix of which a call with wrong dimensions says nothing: what the call returns. -/
theorem badM_cases (h1 wd1 h2 wd2 : Int) (xs ys : List Int) (n1 : xs.length ≤ 2097152) (n2 : ys.length ≤ 2097152) :
    ∃ H Wd err zs, zs.length ≤ 1000000 ∧
      (∀ w a b c1 c2, Words w a xs → Words w b ys → Calls Try.prog 28 #[mval h1 wd1 (.slice a xs.length c1), mval h2 wd2 (.slice b ys.length c2)] w (MatErr H Wd zs err w)) ∧
      (∀ w a b c1 c2, Words w a xs → Words w b ys → Calls Try.prog 29 #[mval h1 wd1 (.slice a xs.length c1), mval h2 wd2 (.slice b ys.length c2)] w (MatErr H Wd zs err w)) := by
  rcases ho1 : Go.Proofs.Ytgnllkkkkkcoaaa.Mo.okM h1 wd1 xs with _ | _
  · exact ⟨0, 0, 1, [], by simp, fun w a b c1 c2 x y => specMatMul_bad1 h1 wd1 h2 wd2 xs ys ho1 n1 n2 w a b c1 c2 x y, fun w a b c1 c2 x y => implMatMul_bad1 h1 wd1 h2 wd2 xs ys ho1 n1 n2 w a b c1 c2 x y⟩
  · rcases ho2 : Go.Proofs.Ytgnllkkkkkcoaaa.Mo.okM h2 wd2 ys with _ | _
    · exact ⟨0, 0, 1, [], by simp, fun w a b c1 c2 x y => specMatMul_bad2 h1 wd1 h2 wd2 xs ys ho1 ho2 n1 n2 w a b c1 c2 x y, fun w a b c1 c2 x y => implMatMul_bad2 h1 wd1 h2 wd2 xs ys ho1 ho2 n1 n2 w a b c1 c2 x y⟩
    · by_cases ne : wd1 = h2
      · subst ne
        obtain ⟨⟨h11, h8, w1, w8⟩, _, _⟩ := Go.Proofs.Ytgnllkkkkkcoaaa.Mo.okM_out ho1
        obtain ⟨⟨_, _, k1, k8⟩, _, _⟩ := Go.Proofs.Ytgnllkkkkkcoaaa.Mo.okM_out ho2
        obtain ⟨h, rfl⟩ := Int.eq_ofNat_of_zero_le (show 0 ≤ h1 by omega)
        obtain ⟨n, rfl⟩ := Int.eq_ofNat_of_zero_le (show 0 ≤ wd1 by omega)
        obtain ⟨k, rfl⟩ := Int.eq_ofNat_of_zero_le (show 0 ≤ wd2 by omega)
        have hm : h * k ≤ 8 * 8 := Nat.mul_le_mul (by omega) (by omega)
        exact ⟨h, k, 0, flat h k (fun i j => dotZ (ofL n xs) (ofL k ys) i j n), by rw [flat_length]; omega, fun w a b c1 c2 x y => specMatMul h n k xs ys ho1 ho2 w a b c1 c2 x y, fun w a b c1 c2 x y => implMatMul h n k a b c1 c2 xs ys ho1 ho2 w x y⟩
      · exact ⟨0, 0, 2, [], by simp, fun w a b c1 c2 x y => specMatMul_bad3 h1 wd1 h2 wd2 xs ys ho1 ho2 ne n1 n2 w a b c1 c2 x y, fun w a b c1 c2 x y => implMatMul_bad3 h1 wd1 h2 wd2 xs ys ho1 ho2 ne n1 n2 w a b c1 c2 x y⟩

set_option maxRecDepth 100000 in
theorem fnMatMul (h1 wd1 : Int) (a : Option Addr) (len1 cap1 : Nat) (z1 : List Int) (h2 wd2 : Int) (b : Option Addr) (len2 cap2 : Nat) (z2 : List Int) (w : World)
    (w1 : (Lit.int .i64 h1).wf = true) (w2 : (Lit.int .i64 wd1).wf = true) (w0 : IsRow .i64 w a len1 cap1 z1) (w3 : (Lit.int .i64 h2).wf = true) (w4 : (Lit.int .i64 wd2).wf = true) (w5 : IsRow .i64 w b len2 cap2 z2) :
    Calls Try.prog 7 #[mval h1 wd1 (.slice a len1 cap1), mval h2 wd2 (.slice b len2 cap2)] w fun e w' => e = .returned (.bool true) ∧ Below w.heap.size w w' := by
  have hl1 := Go.Proofs.Ytgnllkkkkkcoaaa.Mo.IsRow.len_le w0
  have hl2 := Go.Proofs.Ytgnllkkkkkcoaaa.Mo.IsRow.len_le w5
  obtain ⟨hx, hlen1⟩ := IsRow.words w0
  obtain ⟨hy, hlen2⟩ := IsRow.words w5
  generalize z1.take len1 = xs at hx hlen1
  generalize z2.take len2 = ys at hy hlen2
  clear w0 w1 w2 w3 w4 w5
  have SZ1 := szMatrix h1 wd1 a len1 cap1 1048576 hl1 (by omega) (by omega)
  by_cases q1 : (len1 : Int) ≤ 1048576
  · by_cases q2 : (len2 : Int) ≤ 1048576 - len1
    · obtain ⟨H, Wd, err, zs, hn, HS, HI⟩ := badM_cases h1 wd1 h2 wd2 xs ys (by omega) (by omega)
      subst hlen1
      subst hlen2
      exact matMulLaw h1 wd1 h2 wd2 xs ys H Wd err zs hn a cap1 b cap2 w (by omega) (by omega) q2 hx hy HS HI
    · have SZ2 := szMatrix h2 wd2 b len2 cap2 (1048576 - len1) hl2 (by omega) (by omega)
      simp only [if_pos q1] at SZ1
      simp only [if_neg q2] at SZ2
      have SZ1 := Lib.hid SZ1
      have SZ2 := Lib.hid SZ2
      have L2 := Lib.hid (chain (lay w (.cells #[.int .i64 h1, .int .i64 wd1, .slice a len1 cap1] 30)) (lay _ (.cells #[.int .i64 h2, .int .i64 wd2, .slice b len2 cap2] 30)))
      have X3 := Bx.top (w.alloc (.cells #[.int .i64 h1, .int .i64 wd1, .slice a len1 cap1] 30)) (.int .i64 h2) (.int .i64 wd2) (.slice b len2 cap2) 30
      rw [World.size_alloc] at X3
      go_enter Try.func7, Try.ntmps7
      go_wp2_with fail
      refine (SZ1.out _).mono ?_
      rintro e w1 ⟨rfl, b1⟩
      obtain ⟨-, c0, c1, c2, -⟩ := X3.below b1
      go_wp2_with fail
      refine (SZ2.out _).mono ?_
      rintro e w2 ⟨rfl, b2⟩
      go_wp2
      go_ret
      exact ⟨rfl, chain (chain L2.out b1) b2⟩
  · simp only [if_neg q1] at SZ1
    have SZ1 := Lib.hid SZ1
    have L2 := Lib.hid (chain (lay w (.cells #[.int .i64 h1, .int .i64 wd1, .slice a len1 cap1] 30)) (lay _ (.cells #[.int .i64 h2, .int .i64 wd2, .slice b len2 cap2] 30)))
    go_enter Try.func7, Try.ntmps7
    go_wp2_with fail
    refine (SZ1.out _).mono ?_
    rintro e w1 ⟨rfl, b1⟩
    go_wp2
    go_ret
    exact ⟨rfl, chain L2.out b1⟩
end Go.Proofs.Ytgnllkkkkkcoaaa.Gf2
