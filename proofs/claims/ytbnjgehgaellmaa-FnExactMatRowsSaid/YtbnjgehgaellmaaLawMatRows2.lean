/-
  The exact law of MatRows: the program answers as the model, and matrix and rows are left as they were. No condition.
-/
import Derived.Test.YtbnjgehgaellmaaLawMatRows
import Derived.Test.YtbnjgehgaellmaaLawMatOk
import Derived.Test.YtbnjgehgaellmaaMrI
namespace Go.Proofs.Ytbnjgehgaellmaa.Gf2
open Go.RowKit Go.Proofs.Ytbnjgehgaellmaa.At Go.Proofs.Ytbnjgehgaellmaa.MixC Go.Proofs.Ytbnjgehgaellmaa.Ml Go.Proofs.Ytbnjgehgaellmaa.Gr Go.Proofs.Ytbnjgehgaellmaa.Gj Go.Proofs.Ytbnjgehgaellmaa.GfS
set_option linter.unusedVariables false

theorem first_bad (p : Nat → Prop) : ∀ n : Nat, ∃ m, m ≤ n ∧ (∀ i, i < m → p i) ∧ (m < n → ¬ p m)
  | 0 => ⟨0, Nat.le_refl _, fun i h => absurd h (Nat.not_lt_zero _), fun h => absurd h (Nat.lt_irrefl _)⟩
  | n + 1 => by
    obtain ⟨m, h1, h2, h3⟩ := first_bad p n
    by_cases q : m < n
    · exact ⟨m, by omega, h2, fun _ => h3 q⟩
    · obtain rfl : m = n := by omega
      by_cases r : p m
      · exact ⟨m + 1, Nat.le_refl _, fun i hi => by
          by_cases e : i = m
          · rw [e]; exact r
          · exact h2 i (by omega), fun h => absurd h (Nat.lt_irrefl _)⟩
      · exact ⟨m, Nat.le_succ _, h2, fun _ => r⟩
theorem rows_cases (h1 wd1 : Int) (xs rs : List Int) (n1 : xs.length ≤ 2097152) :
    ∃ H Wd err zs, zs.length ≤ 1000000 ∧
      (∀ w a b, Words w a xs → Words w b rs → Calls Try.prog 10 #[mval h1 wd1 (.slice a xs.length xs.length), .slice b rs.length rs.length] w (MatErr H Wd zs err w)) ∧
      (∀ w a b, Words w a xs → Words w b rs → Calls Try.prog 13 #[mval h1 wd1 (.slice a xs.length xs.length), .slice b rs.length rs.length] w (MatErr H Wd zs err w)) := by
  rcases ho : Go.Proofs.Ytbnjgehgaellmaa.Mo.okM h1 wd1 xs with _ | _
  · exact ⟨0, 0, 1, [], by simp, fun w a b x y => specMatRows_bad1 h1 wd1 xs ho n1 w a b _ _ _ x, fun w a b x y => implMatRows_bad1 h1 wd1 xs ho n1 w a b _ _ _ x⟩
  · by_cases hn : rs.length < 1 ∨ 8 < rs.length
    · exact ⟨0, 0, 4, [], by simp, fun w a b x y => specMatRows_bad2 h1 wd1 xs ho n1 w a b _ _ _ hn x, fun w a b x y => implMatRows_bad2 h1 wd1 xs ho n1 w a b _ _ _ hn x⟩
    · obtain ⟨⟨a1, a8, b1, b8⟩, lx, ex⟩ := Go.Proofs.Ytbnjgehgaellmaa.Mo.okM_out ho
      obtain ⟨h, rfl⟩ : ∃ h : Nat, h1 = (h : Int) := ⟨h1.toNat, by omega⟩
      obtain ⟨wd, rfl⟩ : ∃ k : Nat, wd1 = (k : Int) := ⟨wd1.toNat, by omega⟩
      obtain ⟨m, hm, hok, hbad⟩ := first_bad (fun i => 0 ≤ rs.getD i 0 ∧ rs.getD i 0 < h) rs.length
      by_cases e : m = rs.length
      · have q : rs.length * wd ≤ 8 * 8 := Nat.mul_le_mul (by omega) (by omega)
        exact ⟨rs.length, wd, 0, flat rs.length wd (rowsM rs (ofL wd xs)), by rw [flat_length]; omega,
          fun w a b x y => specMatRows h wd rs.length m xs rs a b _ ho (by omega) (by omega) rfl hm hok hbad _ _ _ _ (fun _ => ⟨rfl, rfl, rfl, rfl⟩) (fun l => absurd l (by omega)) w x y,
          fun w a b x y => implMatRows h wd rs.length m xs rs a b _ ho (by omega) (by omega) rfl hm hok hbad _ _ _ _ (fun _ => ⟨rfl, rfl, rfl, rfl⟩) (fun l => absurd l (by omega)) w x y⟩
      · exact ⟨0, 0, 2, [], by simp,
          fun w a b x y => specMatRows h wd rs.length m xs rs a b _ ho (by omega) (by omega) rfl hm hok hbad _ _ _ _ (fun l => absurd l e) (fun _ => ⟨rfl, rfl, rfl, rfl⟩) w x y,
          fun w a b x y => implMatRows h wd rs.length m xs rs a b _ ho (by omega) (by omega) rfl hm hok hbad _ _ _ _ (fun l => absurd l e) (fun _ => ⟨rfl, rfl, rfl, rfl⟩) w x y⟩
set_option maxRecDepth 100000 in
theorem fnMatRows (h1 wd1 : Int) (a : Option Addr) (len1 cap1 : Nat) (z1 : List Int) (b : Option Addr) (len2 cap2 : Nat) (z2 : List Int) (w : World)
    (w1 : (Lit.int .i64 h1).wf = true) (w2 : (Lit.int .i64 wd1).wf = true) (w0 : IsRow .i64 w a len1 cap1 z1) (w3 : IsRow .i64 w b len2 cap2 z2) :
    Calls Try.prog 3 #[mval h1 wd1 (.slice a len1 cap1), .slice b len2 cap2] w fun e w' => e = .returned (.bool true) ∧ Below w.heap.size w w' := by
  have hl1 := Go.Proofs.Ytbnjgehgaellmaa.Mo.IsRow.len_le w0
  have hl2 := Go.Proofs.Ytbnjgehgaellmaa.Mo.IsRow.len_le w3
  obtain ⟨hx, hlen1⟩ := IsRow.words w0
  obtain ⟨hy, hlen2⟩ := IsRow.words w3
  generalize z1.take len1 = xs at hx hlen1
  generalize z2.take len2 = ys at hy hlen2
  clear w0 w1 w2 w3
  have SZ1 := szMatrix h1 wd1 a len1 cap1 1048576 hl1 (by omega) (by omega)
  have L2 := Lib.hid (lay w (.cells #[.int .i64 h1, .int .i64 wd1, .slice a len1 cap1] 24))
  by_cases q2 : (len2 : Int) ≤ 1048576
  · by_cases q1 : (len1 : Int) ≤ 1048576
    · obtain ⟨H, Wd, err, zs, hn, HS, HI⟩ := rows_cases h1 wd1 xs ys (by omega)
      subst hlen1
      subst hlen2
      exact matRowsLaw h1 wd1 xs ys H Wd err zs hn a cap1 b cap2 w (by omega) (by omega) hx hy HS HI
    · have d2 : decide ((1048576 : Int) < (len2 : Int)) = false := decide_eq_false (by omega)
      simp only [if_neg q1] at SZ1
      have SZ1 := Lib.hid SZ1
      go_enter Try.func3, Try.ntmps3
      go_wp2_with fail
      refine (SZ1.out _).mono ?_
      rintro e w1 ⟨rfl, b1⟩
      go_wp2
      go_ret
      exact ⟨rfl, chain L2.out b1⟩
  · have d2 : decide ((1048576 : Int) < (len2 : Int)) = true := decide_eq_true (by omega)
    clear SZ1
    go_enter Try.func3, Try.ntmps3
    go_wp2
    go_ret
    exact ⟨rfl, L2.out⟩
end Go.Proofs.Ytbnjgehgaellmaa.Gf2
