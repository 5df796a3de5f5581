/-
  What the model's exported functions on the field GF(256) return.
-/
import Derived.Test.YtbbenadihfhfmabGfSpec
namespace Go.Proofs.Ytbbenadihfhfmab.GfS
open Go.RowKit Go.Proofs.Ytbbenadihfhfmab.GfI

theorem GfAdd_bad (a b : Int) (h : isElt a = false ∨ isElt b = false) (w : World) :
    Calls Try.prog 20 #[.int .i64 a, .int .i64 b] w fun e w' => e = .returned (.tuple #[.int .i64 0, .int .i64 2]) ∧ w = w' := by
  by_cases ha : isElt a = true
  · have hb : isElt b = false := by rcases h with h | h; exact absurd (ha.symm.trans h) (by simp); exact h
    clear h
    go_enter Try.func20, Try.ntmps20
    go_wp2_with fail
    refine (l02Byte a _).mono ?_
    rintro e w1 ⟨rfl, rfl⟩
    go_wp2_with fail
    refine (l02Byte b _).mono ?_
    rintro e w1 ⟨rfl, rfl⟩
    go_wp2
    go_ret2
    exact ⟨rfl, rfl⟩
  · have ha : isElt a = false := by simpa using ha
    clear h
    go_enter Try.func20, Try.ntmps20
    go_wp2_with fail
    refine (l02Byte a _).mono ?_
    rintro e w1 ⟨rfl, rfl⟩
    go_wp2
    go_ret2
    exact ⟨rfl, rfl⟩

theorem GfMul_bad (a b : Int) (h : isElt a = false ∨ isElt b = false) (w : World) :
    Calls Try.prog 22 #[.int .i64 a, .int .i64 b] w fun e w' => e = .returned (.tuple #[.int .i64 0, .int .i64 2]) ∧ w = w' := by
  by_cases ha : isElt a = true
  · have hb : isElt b = false := by rcases h with h | h; exact absurd (ha.symm.trans h) (by simp); exact h
    clear h
    go_enter Try.func22, Try.ntmps22
    go_wp2_with fail
    refine (l02Byte a _).mono ?_
    rintro e w1 ⟨rfl, rfl⟩
    go_wp2_with fail
    refine (l02Byte b _).mono ?_
    rintro e w1 ⟨rfl, rfl⟩
    go_wp2
    go_ret2
    exact ⟨rfl, rfl⟩
  · have ha : isElt a = false := by simpa using ha
    clear h
    go_enter Try.func22, Try.ntmps22
    go_wp2_with fail
    refine (l02Byte a _).mono ?_
    rintro e w1 ⟨rfl, rfl⟩
    go_wp2
    go_ret2
    exact ⟨rfl, rfl⟩

theorem GfDiv_bad (a b : Int) (h : isElt a = false ∨ isElt b = false) (w : World) :
    Calls Try.prog 26 #[.int .i64 a, .int .i64 b] w fun e w' => e = .returned (.tuple #[.int .i64 0, .int .i64 2]) ∧ w = w' := by
  by_cases ha : isElt a = true
  · have hb : isElt b = false := by rcases h with h | h; exact absurd (ha.symm.trans h) (by simp); exact h
    clear h
    go_enter Try.func26, Try.ntmps26
    go_wp2_with fail
    refine (l02Byte a _).mono ?_
    rintro e w1 ⟨rfl, rfl⟩
    go_wp2_with fail
    refine (l02Byte b _).mono ?_
    rintro e w1 ⟨rfl, rfl⟩
    go_wp2
    go_ret2
    exact ⟨rfl, rfl⟩
  · have ha : isElt a = false := by simpa using ha
    clear h
    go_enter Try.func26, Try.ntmps26
    go_wp2_with fail
    refine (l02Byte a _).mono ?_
    rintro e w1 ⟨rfl, rfl⟩
    go_wp2
    go_ret2
    exact ⟨rfl, rfl⟩

theorem GfAdd_ok (a b : Int) (h0 : 0 ≤ a) (h1 : a ≤ 255) (g0 : 0 ≤ b) (g1 : b ≤ 255) (w : World) :
    Calls Try.prog 20 #[.int .i64 a, .int .i64 b] w fun e w' => e = .returned (.tuple #[.int .i64 (bits .xor .i64 a b), .int .i64 0]) ∧ w = w' := by
  have ha := elt_yes h0 h1
  have hb := elt_yes g0 g1
  go_enter Try.func20, Try.ntmps20
  go_wp2_with fail
  refine (l02Byte a _).mono ?_
  rintro e w1 ⟨rfl, rfl⟩
  go_wp2_with fail
  refine (l02Byte b _).mono ?_
  rintro e w1 ⟨rfl, rfl⟩
  go_wp2
  go_ret2
  exact ⟨rfl, rfl⟩

theorem GfMul_ok (a b : Int) (h0 : 0 ≤ a) (h1 : a ≤ 255) (g0 : 0 ≤ b) (g1 : b ≤ 255) (w : World) :
    Calls Try.prog 22 #[.int .i64 a, .int .i64 b] w fun e w' => e = .returned (.tuple #[.int .i64 (mulZ a b), .int .i64 0]) ∧ w = w' := by
  have ha := elt_yes h0 h1
  have hb := elt_yes g0 g1
  go_enter Try.func22, Try.ntmps22
  go_wp2_with fail
  refine (l02Byte a _).mono ?_
  rintro e w1 ⟨rfl, rfl⟩
  go_wp2_with fail
  refine (l02Byte b _).mono ?_
  rintro e w1 ⟨rfl, rfl⟩
  go_wp2_with fail
  refine (l02Times a b h0 h1 g0 _).mono ?_
  rintro e w1 ⟨rfl, rfl⟩
  go_wp2
  go_ret2
  exact ⟨rfl, rfl⟩

theorem GfDiv_ok (a b : Int) (h0 : 0 ≤ a) (h1 : a ≤ 255) (g0 : 1 ≤ b) (g1 : b ≤ 255) (w : World) :
    Calls Try.prog 26 #[.int .i64 a, .int .i64 b] w fun e w' => e = .returned (.tuple #[.int .i64 (mulZ a (invZ b)), .int .i64 0]) ∧ w = w' := by
  have g00 : 0 ≤ b := by omega
  have hi := invZ_lt g00 g1
  have ha := elt_yes h0 h1
  have hb := elt_yes g00 g1
  go_enter Try.func26, Try.ntmps26
  go_wp2_with fail
  refine (l02Byte a _).mono ?_
  rintro e w1 ⟨rfl, rfl⟩
  go_wp2_with fail
  refine (l02Byte b _).mono ?_
  rintro e w1 ⟨rfl, rfl⟩
  go_wp2_with fail
  refine (l02Inv b g00 g1 _).mono ?_
  rintro e w1 ⟨rfl, rfl⟩
  go_wp2_with fail
  refine (l02Times a _ h0 h1 hi.1 _).mono ?_
  rintro e w2 ⟨rfl, rfl⟩
  go_wp2
  go_ret2
  exact ⟨rfl, rfl⟩

theorem GfDiv_zero (a : Int) (h0 : 0 ≤ a) (h1 : a ≤ 255) (w : World) :
    Calls Try.prog 26 #[.int .i64 a, .int .i64 0] w fun e w' => e = .returned (.tuple #[.int .i64 0, .int .i64 3]) ∧ w = w' := by
  have g0 : (0 : Int) ≤ 0 := by omega
  have g1 : (0 : Int) ≤ 255 := by omega
  have ha := elt_yes h0 h1
  have hb := elt_yes g0 g1
  go_enter Try.func26, Try.ntmps26
  go_wp2_with fail
  refine (l02Byte a _).mono ?_
  rintro e w1 ⟨rfl, rfl⟩
  go_wp2_with fail
  refine (l02Byte 0 _).mono ?_
  rintro e w1 ⟨rfl, rfl⟩
  go_wp2
  go_ret2
  exact ⟨rfl, rfl⟩

theorem GfInv_bad (a : Int) (h : isElt a = false) (w : World) :
    Calls Try.prog 24 #[.int .i64 a] w fun e w' => e = .returned (.tuple #[.int .i64 0, .int .i64 2]) ∧ w = w' := by
  go_enter Try.func24, Try.ntmps24
  go_wp2_with fail
  refine (l02Byte a _).mono ?_
  rintro e w1 ⟨rfl, rfl⟩
  go_wp2
  go_ret2
  exact ⟨rfl, rfl⟩

theorem GfInv_zero (w : World) :
    Calls Try.prog 24 #[.int .i64 0] w fun e w' => e = .returned (.tuple #[.int .i64 0, .int .i64 3]) ∧ w = w' := by
  have h0 : (0 : Int) ≤ 0 := by omega
  have h1 : (0 : Int) ≤ 255 := by omega
  have ha := elt_yes h0 h1
  go_enter Try.func24, Try.ntmps24
  go_wp2_with fail
  refine (l02Byte 0 _).mono ?_
  rintro e w1 ⟨rfl, rfl⟩
  go_wp2
  go_ret2
  exact ⟨rfl, rfl⟩

theorem GfInv_ok (a : Int) (h0 : 1 ≤ a) (h1 : a ≤ 255) (w : World) :
    Calls Try.prog 24 #[.int .i64 a] w fun e w' => e = .returned (.tuple #[.int .i64 (invZ a), .int .i64 0]) ∧ w = w' := by
  have h00 : 0 ≤ a := by omega
  have ha := elt_yes h00 h1
  go_enter Try.func24, Try.ntmps24
  go_wp2_with fail
  refine (l02Byte a _).mono ?_
  rintro e w1 ⟨rfl, rfl⟩
  go_wp2_with fail
  refine (l02Inv a h00 h1 _).mono ?_
  rintro e w1 ⟨rfl, rfl⟩
  go_wp2
  go_ret2
  exact ⟨rfl, rfl⟩

theorem GfPow_bad (a n : Int) (h : isElt a = false ∨ n < 0) (w : World) :
    Calls Try.prog 28 #[.int .i64 a, .int .i64 n] w fun e w' => e = .returned (.tuple #[.int .i64 0, .int .i64 2]) ∧ w = w' := by
  by_cases ha : isElt a = true
  · have hn : n < 0 := by rcases h with h | h; exact absurd (ha.symm.trans h) (by simp); exact h
    clear h
    go_enter Try.func28, Try.ntmps28
    go_wp2_with fail
    refine (l02Byte a _).mono ?_
    rintro e w1 ⟨rfl, rfl⟩
    go_wp2
    go_ret2
    exact ⟨rfl, rfl⟩
  · have ha : isElt a = false := by simpa using ha
    clear h
    go_enter Try.func28, Try.ntmps28
    go_wp2_with fail
    refine (l02Byte a _).mono ?_
    rintro e w1 ⟨rfl, rfl⟩
    go_wp2
    go_ret2
    exact ⟨rfl, rfl⟩

theorem GfPow_ok (a n : Int) (h0 : 0 ≤ a) (h1 : a ≤ 255) (n0 : 0 ≤ n) (n1 : n ≤ 9223372036854775807) (w : World) :
    Calls Try.prog 28 #[.int .i64 a, .int .i64 n] w fun e w' => e = .returned (.tuple #[.int .i64 (powZ a n), .int .i64 0]) ∧ w = w' := by
  have ha := elt_yes h0 h1
  go_enter Try.func28, Try.ntmps28
  go_wp2_with fail
  refine (l02Byte a _).mono ?_
  rintro e w1 ⟨rfl, rfl⟩
  go_wp2_with fail
  refine (l02Pow a n h0 h1 n0 n1 _).mono ?_
  rintro e w1 ⟨rfl, rfl⟩
  go_wp2
  go_ret2
  exact ⟨rfl, rfl⟩
end Go.Proofs.Ytbbenadihfhfmab.GfS
