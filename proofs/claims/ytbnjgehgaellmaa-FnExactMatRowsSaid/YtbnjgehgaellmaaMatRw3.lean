/-
  The rows of a matrix: what both functions return where there are none.
-/
import Derived.Test.YtbnjgehgaellmaaMatRw2
namespace Go.Proofs.Ytbnjgehgaellmaa.Gf2
open Go.RowKit Go.Proofs.Ytbnjgehgaellmaa.At Go.Proofs.Ytbnjgehgaellmaa.MixC Go.Proofs.Ytbnjgehgaellmaa.Ml Go.Proofs.Ytbnjgehgaellmaa.Gr Go.Proofs.Ytbnjgehgaellmaa.Gj Go.Proofs.Ytbnjgehgaellmaa.GfI
open Go.Proofs.Ytbnjgehgaellmaa.Mo (okM implOk l03OK BoolB okM_out)
set_option linter.unusedVariables false

set_option maxRecDepth 100000 in
theorem specMatRows_bad1 (h wd : Int) (xs : List Int) (o1 : okM h wd xs = false) (n1 : xs.length ≤ 2097152) (w : World) (a b : Option Addr) (n c1 c2 : Nat) (WA : Words w a xs) :
    Calls Try.prog 10 #[mval h wd (.slice a xs.length c1), .slice b n c2] w (MatErr 0 0 [] 1 w) := by
  have OA := fun v (q : Below w.heap.size w v) => l03OK h wd a c1 xs v n1 (WA.below q)
  rw [o1] at OA
  obtain ⟨lxn, hlxn⟩ : ∃ l, l = xs.length := ⟨_, rfl⟩
  rw [← hlxn] at OA ⊢
  have OA := Lib.hid OA
  have l2 := chain (lay w (.cells #[.int .i64 h, .int .i64 wd, .slice a lxn c1] 26)) (lay _ (.cells #[.int .i64 0, .int .i64 0, .slice none 0 0] 26))
  have t4 := Bx.top (w.alloc (.cells #[.int .i64 h, .int .i64 wd, .slice a lxn c1] 26)) (.int .i64 0) (.int .i64 0) (.slice none 0 0) 26
  simp only [World.size_alloc] at t4
  clear o1 hlxn WA n1
  go_enter Try.func10, Try.ntmps10
  go_wp2_with fail
  refine (OA.out _ l2).mono ?_
  rintro e v1 ⟨rfl, b1⟩
  have B2 := chain l2 b1
  obtain ⟨-, r0, r1, r2, s0, s1, s2⟩ := t4.below b1
  clear t4 b1 l2
  have RES := Lib.hid (err_res (h := 0) (wd := 0) (err := 1) (L := 0) (cap := 0) (a := none) rfl (.inl rfl) (((B2.setCell (p := ⟨w.heap.size + 1, 0, none⟩) (by show _ ≤ w.heap.size + 1; omega) (.int .i64 0)).setCell (p := ⟨w.heap.size + 1, 1, none⟩) (by show _ ≤ w.heap.size + 1; omega) (.int .i64 0)).setCell (p := ⟨w.heap.size + 1, 2, none⟩) (by show _ ≤ w.heap.size + 1; omega) (.slice none 0 0)))
  clear B2
  go_wp2
  exact bodyPost_ret (v := .tuple #[mval 0 0 (.slice none 0 0), .int .i64 1]) (by simp [results, Try.results10, go_sem, *]) rfl RES.out

set_option maxRecDepth 100000 in
theorem specMatRows_bad2 (h wd : Int) (xs : List Int) (o1 : okM h wd xs = true) (n1 : xs.length ≤ 2097152) (w : World) (a b : Option Addr) (n c1 c2 : Nat) (hn : n < 1 ∨ 8 < n) (WA : Words w a xs) :
    Calls Try.prog 10 #[mval h wd (.slice a xs.length c1), .slice b n c2] w (MatErr 0 0 [] 4 w) := by
  have OA := fun v (q : Below w.heap.size w v) => l03OK h wd a c1 xs v n1 (WA.below q)
  rw [o1] at OA
  obtain ⟨lxn, hlxn⟩ : ∃ l, l = xs.length := ⟨_, rfl⟩
  rw [← hlxn] at OA ⊢
  have OA := Lib.hid OA
  have l2 := chain (lay w (.cells #[.int .i64 h, .int .i64 wd, .slice a lxn c1] 26)) (lay _ (.cells #[.int .i64 0, .int .i64 0, .slice none 0 0] 26))
  have t4 := Bx.top (w.alloc (.cells #[.int .i64 h, .int .i64 wd, .slice a lxn c1] 26)) (.int .i64 0) (.int .i64 0) (.slice none 0 0) 26
  simp only [World.size_alloc] at t4
  clear o1 hlxn WA n1
  have hz : n = 0 ∨ (¬ n = 0 ∧ 8 < n) := by omega
  clear hn
  rcases hz with rfl | ⟨q0, q8⟩
  · go_enter Try.func10, Try.ntmps10
    go_wp2_with fail
    refine (OA.out _ l2).mono ?_
    rintro e v1 ⟨rfl, b1⟩
    have B2 := chain l2 b1
    obtain ⟨-, r0, r1, r2, s0, s1, s2⟩ := t4.below b1
    clear t4 b1 l2
    have RES := Lib.hid (err_res (h := 0) (wd := 0) (err := 4) (L := 0) (cap := 0) (a := none) rfl (.inl rfl) (((B2.setCell (p := ⟨w.heap.size + 1, 0, none⟩) (by show _ ≤ w.heap.size + 1; omega) (.int .i64 0)).setCell (p := ⟨w.heap.size + 1, 1, none⟩) (by show _ ≤ w.heap.size + 1; omega) (.int .i64 0)).setCell (p := ⟨w.heap.size + 1, 2, none⟩) (by show _ ≤ w.heap.size + 1; omega) (.slice none 0 0)))
    clear B2
    go_wp2
    exact bodyPost_ret (v := .tuple #[mval 0 0 (.slice none 0 0), .int .i64 4]) (by simp [results, Try.results10, go_sem, *]) rfl RES.out
  · have i1 : (8 : Int) < (n : Int) := by omega
    have i2 : (1 : Int) ≤ (n : Int) := by omega
    have i3 : ((n : Int) == 0) = false := by rw [beq_eq_false_iff_ne]; omega
    go_enter Try.func10, Try.ntmps10
    go_wp2_with fail
    refine (OA.out _ l2).mono ?_
    rintro e v1 ⟨rfl, b1⟩
    have B2 := chain l2 b1
    obtain ⟨-, r0, r1, r2, s0, s1, s2⟩ := t4.below b1
    clear t4 b1 l2
    have RES := Lib.hid (err_res (h := 0) (wd := 0) (err := 4) (L := 0) (cap := 0) (a := none) rfl (.inl rfl) (((B2.setCell (p := ⟨w.heap.size + 1, 0, none⟩) (by show _ ≤ w.heap.size + 1; omega) (.int .i64 0)).setCell (p := ⟨w.heap.size + 1, 1, none⟩) (by show _ ≤ w.heap.size + 1; omega) (.int .i64 0)).setCell (p := ⟨w.heap.size + 1, 2, none⟩) (by show _ ≤ w.heap.size + 1; omega) (.slice none 0 0)))
    clear B2
    go_wp2
    exact bodyPost_ret (v := .tuple #[mval 0 0 (.slice none 0 0), .int .i64 4]) (by simp [results, Try.results10, go_sem, *]) rfl RES.out

set_option maxRecDepth 100000 in
theorem implMatRows_bad1 (h wd : Int) (xs : List Int) (o1 : okM h wd xs = false) (n1 : xs.length ≤ 2097152) (w : World) (a b : Option Addr) (n c1 c2 : Nat) (WA : Words w a xs) :
    Calls Try.prog 13 #[mval h wd (.slice a xs.length c1), .slice b n c2] w (MatErr 0 0 [] 1 w) := by
  have OA := fun v (q : Below w.heap.size w v) => implOk h wd a c1 xs v n1 (WA.below q)
  rw [o1] at OA
  obtain ⟨lxn, hlxn⟩ : ∃ l, l = xs.length := ⟨_, rfl⟩
  rw [← hlxn] at OA ⊢
  have OA := Lib.hid OA
  have l2 := chain (lay w (.cells #[.int .i64 h, .int .i64 wd, .slice a lxn c1] 26)) (lay _ (.cells #[.int .i64 0, .int .i64 0, .slice none 0 0] 26))
  have t4 := Bx.top (w.alloc (.cells #[.int .i64 h, .int .i64 wd, .slice a lxn c1] 26)) (.int .i64 0) (.int .i64 0) (.slice none 0 0) 26
  simp only [World.size_alloc] at t4
  clear o1 hlxn WA n1
  go_enter Try.func13, Try.ntmps13
  go_wp2_with fail
  refine (OA.out _ l2).mono ?_
  rintro e v1 ⟨rfl, b1⟩
  have B2 := chain l2 b1
  obtain ⟨-, r0, r1, r2, s0, s1, s2⟩ := t4.below b1
  clear t4 b1 l2
  have RES := Lib.hid (err_res (h := 0) (wd := 0) (err := 1) (L := 0) (cap := 0) (a := none) rfl (.inl rfl) (((B2.setCell (p := ⟨w.heap.size + 1, 0, none⟩) (by show _ ≤ w.heap.size + 1; omega) (.int .i64 0)).setCell (p := ⟨w.heap.size + 1, 1, none⟩) (by show _ ≤ w.heap.size + 1; omega) (.int .i64 0)).setCell (p := ⟨w.heap.size + 1, 2, none⟩) (by show _ ≤ w.heap.size + 1; omega) (.slice none 0 0)))
  clear B2
  go_wp2
  exact bodyPost_ret (v := .tuple #[mval 0 0 (.slice none 0 0), .int .i64 1]) (by simp [results, Try.results13, go_sem, *]) rfl RES.out

set_option maxRecDepth 100000 in
theorem implMatRows_bad2 (h wd : Int) (xs : List Int) (o1 : okM h wd xs = true) (n1 : xs.length ≤ 2097152) (w : World) (a b : Option Addr) (n c1 c2 : Nat) (hn : n < 1 ∨ 8 < n) (WA : Words w a xs) :
    Calls Try.prog 13 #[mval h wd (.slice a xs.length c1), .slice b n c2] w (MatErr 0 0 [] 4 w) := by
  have OA := fun v (q : Below w.heap.size w v) => implOk h wd a c1 xs v n1 (WA.below q)
  rw [o1] at OA
  obtain ⟨lxn, hlxn⟩ : ∃ l, l = xs.length := ⟨_, rfl⟩
  rw [← hlxn] at OA ⊢
  have OA := Lib.hid OA
  have l2 := chain (lay w (.cells #[.int .i64 h, .int .i64 wd, .slice a lxn c1] 26)) (lay _ (.cells #[.int .i64 0, .int .i64 0, .slice none 0 0] 26))
  have t4 := Bx.top (w.alloc (.cells #[.int .i64 h, .int .i64 wd, .slice a lxn c1] 26)) (.int .i64 0) (.int .i64 0) (.slice none 0 0) 26
  simp only [World.size_alloc] at t4
  clear o1 hlxn WA n1
  have hz : n = 0 ∨ (¬ n = 0 ∧ 8 < n) := by omega
  clear hn
  rcases hz with rfl | ⟨q0, q8⟩
  · go_enter Try.func13, Try.ntmps13
    go_wp2_with fail
    refine (OA.out _ l2).mono ?_
    rintro e v1 ⟨rfl, b1⟩
    have B2 := chain l2 b1
    obtain ⟨-, r0, r1, r2, s0, s1, s2⟩ := t4.below b1
    clear t4 b1 l2
    have RES := Lib.hid (err_res (h := 0) (wd := 0) (err := 4) (L := 0) (cap := 0) (a := none) rfl (.inl rfl) (((B2.setCell (p := ⟨w.heap.size + 1, 0, none⟩) (by show _ ≤ w.heap.size + 1; omega) (.int .i64 0)).setCell (p := ⟨w.heap.size + 1, 1, none⟩) (by show _ ≤ w.heap.size + 1; omega) (.int .i64 0)).setCell (p := ⟨w.heap.size + 1, 2, none⟩) (by show _ ≤ w.heap.size + 1; omega) (.slice none 0 0)))
    clear B2
    go_wp2
    exact bodyPost_ret (v := .tuple #[mval 0 0 (.slice none 0 0), .int .i64 4]) (by simp [results, Try.results13, go_sem, *]) rfl RES.out
  · have i1 : (8 : Int) < (n : Int) := by omega
    have i2 : (1 : Int) ≤ (n : Int) := by omega
    have i3 : ((n : Int) == 0) = false := by rw [beq_eq_false_iff_ne]; omega
    go_enter Try.func13, Try.ntmps13
    go_wp2_with fail
    refine (OA.out _ l2).mono ?_
    rintro e v1 ⟨rfl, b1⟩
    have B2 := chain l2 b1
    obtain ⟨-, r0, r1, r2, s0, s1, s2⟩ := t4.below b1
    clear t4 b1 l2
    have RES := Lib.hid (err_res (h := 0) (wd := 0) (err := 4) (L := 0) (cap := 0) (a := none) rfl (.inl rfl) (((B2.setCell (p := ⟨w.heap.size + 1, 0, none⟩) (by show _ ≤ w.heap.size + 1; omega) (.int .i64 0)).setCell (p := ⟨w.heap.size + 1, 1, none⟩) (by show _ ≤ w.heap.size + 1; omega) (.int .i64 0)).setCell (p := ⟨w.heap.size + 1, 2, none⟩) (by show _ ≤ w.heap.size + 1; omega) (.slice none 0 0)))
    clear B2
    go_wp2
    exact bodyPost_ret (v := .tuple #[mval 0 0 (.slice none 0 0), .int .i64 4]) (by simp [results, Try.results13, go_sem, *]) rfl RES.out
end Go.Proofs.Ytbnjgehgaellmaa.Gf2
