/-
  The exact law of CodeMatrix.
-/
import Derived.Test.YtgnllkkkkkcoaaaLawCode2
namespace Go.Proofs.Ytgnllkkkkkcoaaa.Gf2
open Go.RowKit Go.Proofs.Ytgnllkkkkkcoaaa.At Go.Proofs.Ytgnllkkkkkcoaaa.MixC Go.Proofs.Ytgnllkkkkkcoaaa.Ml Go.Proofs.Ytgnllkkkkkcoaaa.Gr Go.Proofs.Ytgnllkkkkkcoaaa.Gj Go.Proofs.Ytgnllkkkkkcoaaa.GfS
set_option linter.unusedVariables false

set_option maxRecDepth 100000 in
set_option maxHeartbeats 2000000 in
theorem codeMatrixLaw (k m : Int) (H Wd err : Int) (zs : List Int) (hn : zs.length ≤ 1000000)
    (HS : ∀ w, Calls Try.prog 35 #[.int .i64 k, .int .i64 m] w (MatErr H Wd zs err w)) (HI : ∀ w, Calls Try.prog 36 #[.int .i64 k, .int .i64 m] w (MatErr H Wd zs err w)) (w : World) :
    Calls Try.prog 9 #[.int .i64 k, .int .i64 m] w fun e w' => e = .returned (.bool true) ∧ Below w.heap.size w w' := by
  have S := Lib.hid HS
  have I := Lib.hid HI
  have Q := Lib.hid (fun w' a b c1 c2 (x : Words w' a zs) (y : Words w' b zs) => eqMatrix H Wd a b c1 c2 zs w' (by omega) x y)
  have K := Lib.hid (fun W D a cap w' (O : OwnS W w' a zs) hD => markO W D H Wd a cap zs 1 (by omega) (by omega) (by omega) w' O hD)
  have HH := Lib.hid (fun a cap w' (m : Marks w' a zs.length 1) => heldMatrix H Wd a zs.length cap 1 (by omega) (by omega) (by omega) w' m)
  clear HS HI
  go_enter Try.func9, Try.ntmps9
  go_wp2_with fail
  refine (S.out _).mono ?_
  rintro e w1 ⟨a1, cap1, rfl, O1, b1⟩
  have X3 := Bx.top w1 (.int .i64 H) (.int .i64 Wd) (.slice a1 zs.length cap1) 33
  have l1 := lay w1 (.cells #[.int .i64 H, .int .i64 Wd, .slice a1 zs.length cap1] 33)
  have hz1 := b1.size
  have D1 := Lib.hid (fun (q : zs ≠ []) b o (e : a1 = some ⟨b, o, none⟩) => Nat.lt_succ_of_lt (O1.lt q b o e))
  go_wp2_with fail
  refine (I.out _).mono ?_
  rintro e w2 ⟨a2, cap2, rfl, O2, b2⟩
  have hz2 := b2.size
  rw [World.size_alloc] at hz2
  have l2 := lay w2 (.cells #[.int .i64 H, .int .i64 Wd, .slice a2 zs.length cap2] 33)
  have X3 := (X3.below b2).below l2
  have X5 := Bx.top w2 (.int .i64 H) (.int .i64 Wd) (.slice a2 zs.length cap2) 33
  have O1 := ((O1.below l1).below b2).below l2
  have D2 := Lib.hid O2.lt
  have O2 := O2.below l2
  have B2 := chain (chain (chain b1 l1) b2) l2
  have hX := Lib.hid (And.intro X3 X5)
  obtain ⟨-, c0, c1, c2, -⟩ := X3
  obtain ⟨-, d0, d1, d2, -⟩ := X5
  clear b1 l1 b2 l2
  go_wp2_with fail
  refine (Q.out _ _ _ _ _ O2.words O1.words).mono ?_
  rintro e w3 ⟨rfl, b3⟩
  have O1 := O1.below b3
  have O2 := O2.below b3
  have X3 := hX.out.1.below b3
  have X5 := hX.out.2.below b3
  have B3 := chain B2 b3
  have hX := Lib.hid (And.intro X3 X5)
  clear c0 c1 c2 d0 d1 d2 b3 B2
  obtain ⟨-, c0, c1, c2, -⟩ := X3
  obtain ⟨-, d0, d1, d2, -⟩ := X5
  go_wp2_with fail
  refine (K.out _ w2.heap.size _ _ _ O2 D2.out).mono ?_
  rintro e w4 ⟨rfl, M, r, g4, hr⟩
  rw [World.size_alloc] at hr
  have hr := Lib.hid hr
  have X3 := hX.out.1.grown g4 (fun c hc => by have := hr.out c hc; omega)
  have X5 := hX.out.2.grown g4 (fun c hc => by have := hr.out c hc; omega)
  have O1 := O1.grown g4 (C := w1.heap.size + 1) D1.out (fun c hc => (hr.out c hc).1)
  have B4 := B3.grown g4 B3.size (fun c hc => by have := (hr.out c hc).1; omega)
  have hX := Lib.hid (And.intro X3 X5)
  clear c0 c1 c2 d0 d1 d2 g4 B3 O2 hr
  obtain ⟨-, c0, c1, c2, -⟩ := X3
  obtain ⟨-, d0, d1, d2, -⟩ := X5
  go_wp2_with fail
  refine (HH.out _ _ _ M).mono ?_
  rintro e w5 ⟨rfl, b5⟩
  have X3 := hX.out.1.below b5
  have X5 := hX.out.2.below b5
  have O1 := O1.below b5
  have M := M.below b5
  have B5 := chain B4 b5
  clear c0 c1 c2 d0 d1 d2 b5 B4
  go_wp2_with fail
  refine (I.out _).mono ?_
  rintro e w6 ⟨a3, cap3, rfl, O3, b6⟩
  have l6 := lay w6 (.cells #[.int .i64 H, .int .i64 Wd, .slice a3 zs.length cap3] 33)
  have X3 := (X3.below b6).below l6
  have X5 := (X5.below b6).below l6
  have X9 := Bx.top w6 (.int .i64 H) (.int .i64 Wd) (.slice a3 zs.length cap3) 33
  have O1 := (O1.below b6).below l6
  have O3 := O3.below l6
  have M := (M.below b6).below l6
  have B6 := chain (chain B5 b6) l6
  have hX5 := Lib.hid X5
  obtain ⟨-, c0, c1, c2, -⟩ := X3
  obtain ⟨-, d0, d1, d2, -⟩ := X9
  clear X5 l6 b6 B5
  go_wp2_with fail
  refine (Q.out _ _ _ _ _ O3.words O1.words).mono ?_
  rintro e w7 ⟨rfl, b7⟩
  have M := M.below b7
  have B7 := chain B6 b7
  clear c0 c1 c2 d0 d1 d2 O1 O3
  obtain ⟨-, c0, c1, c2, -⟩ := hX5.out.below b7
  go_wp2_with fail
  refine (HH.out _ _ _ M).mono ?_
  rintro e w8 ⟨rfl, b8⟩
  go_wp2
  go_ret
  exact ⟨rfl, chain B7 b8⟩

set_option maxRecDepth 100000 in
theorem specCodeMatrix (k m h : Nat) (k1 : 1 ≤ k) (hh : (k : Int) + (m : Int) = (h : Int)) (h8 : h ≤ 8) (w : World) :
    Calls Try.prog 35 #[.int .i64 k, .int .i64 m] w (MatErr h k (flat h k (codeM k)) 0 w) := by
  have C := Lib.hid (l03CodeI k m h k1 hh h8)
  have R0 := Bx.top w (.int .i64 0) (.int .i64 0) (.slice none 0 0) 33
  have d1 : (k : Int) ≤ 8 := by omega
  have d2 : (m : Int) ≤ 8 - (k : Int) := by omega
  clear hh
  go_enter Try.func35, Try.ntmps35
  go_wp2_with fail
  refine (C.out _).mono ?_
  rintro e w1 ⟨a, L, cap, rfl, hL, I, b1⟩
  obtain ⟨-, c0, c1, c2, f0, f1, f2⟩ := R0.below b1
  have b2 := chain (lay w _) b1
  have O := (I.own (Nat.le_refl _)).1
  have O2 := Lib.hid (err_res (h := h) (wd := k) (err := 0) (cap := cap) hL (O.box w (by simp) (.int .i64 h) (.int .i64 k) (.slice a L cap)) (Below.box b2 (.int .i64 h) (.int .i64 k) (.slice a L cap)))
  clear R0 b1 hL O I b2
  go_wp2
  exact bodyPost_ret (v := .tuple #[mval h k (.slice a L cap), .int .i64 0]) (by simp [results, Try.results35, go_sem, *]) rfl O2.out

set_option maxRecDepth 100000 in
theorem specCodeMatrix_bad (k m : Int) (h : k < 1 ∨ m < 0 ∨ 8 < k ∨ 8 - k < m) (wk : (Lit.int .i64 k).wf = true) (w : World) :
    Calls Try.prog 35 #[.int .i64 k, .int .i64 m] w (MatErr 0 0 [] 2 w) := by
  have F := Lib.hid (err_res (h := 0) (wd := 0) (err := 2) (L := 0) (cap := 0) (a := none) rfl (.inl rfl) (lay w (.cells #[.int .i64 0, .int .i64 0, .slice none 0 0] 33)))
  have q : k < 1 ∨ (1 ≤ k ∧ m < 0) ∨ (1 ≤ k ∧ 0 ≤ m ∧ 8 < k) ∨ (1 ≤ k ∧ 0 ≤ m ∧ k ≤ 8 ∧ 8 - k < m) := by omega
  clear h wk
  rcases q with q | ⟨q, q2⟩ | ⟨q, q2, q3⟩ | ⟨q, q2, q3, q4⟩ <;>
  · go_enter Try.func35, Try.ntmps35
    go_wp2
    exact bodyPost_ret (v := .tuple #[mval 0 0 (.slice none 0 0), .int .i64 2]) (by simp [results, Try.results35, go_sem]) rfl F.out

set_option maxRecDepth 100000 in
theorem implCodeMatrix_bad (k m : Int) (h : k < 1 ∨ m < 0 ∨ 8 < k ∨ 8 - k < m) (wk : (Lit.int .i64 k).wf = true) (w : World) :
    Calls Try.prog 36 #[.int .i64 k, .int .i64 m] w (MatErr 0 0 [] 2 w) := by
  have F := Lib.hid (err_res (h := 0) (wd := 0) (err := 2) (L := 0) (cap := 0) (a := none) rfl (.inl rfl) (lay w (.cells #[.int .i64 0, .int .i64 0, .slice none 0 0] 33)))
  have q : k < 1 ∨ (1 ≤ k ∧ 8 < k) ∨ (1 ≤ k ∧ k ≤ 8 ∧ m < 0) ∨ (1 ≤ k ∧ k ≤ 8 ∧ 0 ≤ m ∧ 8 - k < m) := by omega
  clear h wk
  rcases q with q | ⟨q, q2⟩ | ⟨q, q2, q3⟩ | ⟨q, q2, q3, q4⟩ <;>
  · go_enter Try.func36, Try.ntmps36
    go_wp2
    exact bodyPost_ret (v := .tuple #[mval 0 0 (.slice none 0 0), .int .i64 2]) (by simp [results, Try.results36, go_sem]) rfl F.out

theorem fnCodeMatrix (k m : Int) (w : World) (wk : (Lit.int .i64 k).wf = true) (wm : (Lit.int .i64 m).wf = true) :
    Calls Try.prog 9 #[.int .i64 k, .int .i64 m] w fun e w' => e = .returned (.bool true) ∧ Below w.heap.size w w' := by
  by_cases d : k < 1 ∨ m < 0 ∨ 8 < k ∨ 8 - k < m
  · exact codeMatrixLaw k m 0 0 2 [] (by simp) (specCodeMatrix_bad k m d wk) (implCodeMatrix_bad k m d wk) w
  · obtain ⟨a, rfl⟩ := Int.eq_ofNat_of_zero_le (show 0 ≤ k by omega)
    obtain ⟨b, rfl⟩ := Int.eq_ofNat_of_zero_le (show 0 ≤ m by omega)
    have hm : (a + b) * a ≤ 8 * 8 := Nat.mul_le_mul (by omega) (by omega)
    exact codeMatrixLaw a b ((a + b : Nat) : Int) a 0 (flat (a + b) a (codeM a)) (by rw [flat_length]; omega) (specCodeMatrix a b (a + b) (by omega) (by omega) (by omega)) (implCode a b (a + b) (by omega) (by omega) (by omega)) w
end Go.Proofs.Ytgnllkkkkkcoaaa.Gf2
