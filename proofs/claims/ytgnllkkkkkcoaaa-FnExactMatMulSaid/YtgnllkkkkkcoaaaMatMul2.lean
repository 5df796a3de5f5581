/-
  The product of two matrices: what the model's function returns; what both return where there is no product.
-/
import Derived.Test.YtgnllkkkkkcoaaaMatMul
import Derived.Test.YtgnllkkkkkcoaaaL03Mul
namespace Go.Proofs.Ytgnllkkkkkcoaaa.Gf2
open Go.RowKit Go.Proofs.Ytgnllkkkkkcoaaa.At Go.Proofs.Ytgnllkkkkkcoaaa.MixC Go.Proofs.Ytgnllkkkkkcoaaa.Ml Go.Proofs.Ytgnllkkkkkcoaaa.Gr Go.Proofs.Ytgnllkkkkkcoaaa.Gj Go.Proofs.Ytgnllkkkkkcoaaa.GfI
open Go.Proofs.Ytgnllkkkkkcoaaa.Mo (okM implOk l03OK BoolB okM_out)
set_option linter.unusedVariables false

set_option maxRecDepth 100000 in
theorem implMatMul_bad1 (h1 wd1 h2 wd2 : Int) (xs ys : List Int) (o1 : okM h1 wd1 xs = false) (n1 : xs.length ≤ 2097152) (n2 : ys.length ≤ 2097152) (w : World) (a b : Option Addr) (c1 c2 : Nat) (WA : Words w a xs) (WB : Words w b ys) :
    Calls Try.prog 29 #[mval h1 wd1 (.slice a xs.length c1), mval h2 wd2 (.slice b ys.length c2)] w (MatErr 0 0 [] 1 w) := by
  have OA := fun v (q : Below w.heap.size w v) => implOk h1 wd1 a c1 xs v n1 (WA.below q)
  have OB := fun v (q : Below w.heap.size w v) => implOk h2 wd2 b c2 ys v n2 (WB.below q)
  rw [o1] at OA
  obtain ⟨lxn, hlxn⟩ : ∃ l, l = xs.length := ⟨_, rfl⟩
  obtain ⟨lyn, hlyn⟩ : ∃ l, l = ys.length := ⟨_, rfl⟩
  rw [← hlxn] at OA ⊢
  rw [← hlyn] at OB ⊢
  have OA := Lib.hid OA
  have OB := Lib.hid OB
  have l3 := chain (chain (lay w (.cells #[.int .i64 h1, .int .i64 wd1, .slice a lxn c1] 33)) (lay _ (.cells #[.int .i64 h2, .int .i64 wd2, .slice b lyn c2] 33))) (lay _ (.cells #[.int .i64 0, .int .i64 0, .slice none 0 0] 33))
  have t2 := ((Bx.top w (.int .i64 h1) (.int .i64 wd1) (.slice a lxn c1) 33).alloc (.cells #[.int .i64 h2, .int .i64 wd2, .slice b lyn c2] 33)).alloc (.cells #[.int .i64 0, .int .i64 0, .slice none 0 0] 33)
  have t3 := (Bx.top (w.alloc (.cells #[.int .i64 h1, .int .i64 wd1, .slice a lxn c1] 33)) (.int .i64 h2) (.int .i64 wd2) (.slice b lyn c2) 33).alloc (.cells #[.int .i64 0, .int .i64 0, .slice none 0 0] 33)
  have t4 := Bx.top ((w.alloc (.cells #[.int .i64 h1, .int .i64 wd1, .slice a lxn c1] 33)).alloc (.cells #[.int .i64 h2, .int .i64 wd2, .slice b lyn c2] 33)) (.int .i64 0) (.int .i64 0) (.slice none 0 0) 33
  simp only [World.size_alloc] at t3 t4
  clear o1 hlxn hlyn WA WB n1 n2
  go_enter Try.func29, Try.ntmps29
  go_wp2_with fail
  refine (OA.out _ l3).mono ?_
  rintro e v1 ⟨rfl, b1⟩
  have B1 := chain l3 b1
  obtain ⟨-, r0, r1, r2, s0, s1, s2⟩ := t4.below b1
  have B2 := B1
  clear t2 t3 t4 b1 l3 B1
  have RES := Lib.hid (err_res (h := 0) (wd := 0) (err := 1) (L := 0) (cap := 0) (a := none) rfl (.inl rfl) (((B2.setCell (p := ⟨w.heap.size + 1 + 1, 0, none⟩) (by show _ ≤ w.heap.size + 1 + 1; omega) (.int .i64 0)).setCell (p := ⟨w.heap.size + 1 + 1, 1, none⟩) (by show _ ≤ w.heap.size + 1 + 1; omega) (.int .i64 0)).setCell (p := ⟨w.heap.size + 1 + 1, 2, none⟩) (by show _ ≤ w.heap.size + 1 + 1; omega) (.slice none 0 0)))
  clear B2
  go_wp2
  exact bodyPost_ret (v := .tuple #[mval 0 0 (.slice none 0 0), .int .i64 1]) (by simp [results, Try.results29, go_sem, *]) rfl RES.out

set_option maxRecDepth 100000 in
theorem implMatMul_bad2 (h1 wd1 h2 wd2 : Int) (xs ys : List Int) (o1 : okM h1 wd1 xs = true) (o2 : okM h2 wd2 ys = false) (n1 : xs.length ≤ 2097152) (n2 : ys.length ≤ 2097152) (w : World) (a b : Option Addr) (c1 c2 : Nat) (WA : Words w a xs) (WB : Words w b ys) :
    Calls Try.prog 29 #[mval h1 wd1 (.slice a xs.length c1), mval h2 wd2 (.slice b ys.length c2)] w (MatErr 0 0 [] 1 w) := by
  have OA := fun v (q : Below w.heap.size w v) => implOk h1 wd1 a c1 xs v n1 (WA.below q)
  have OB := fun v (q : Below w.heap.size w v) => implOk h2 wd2 b c2 ys v n2 (WB.below q)
  rw [o1] at OA
  rw [o2] at OB
  obtain ⟨lxn, hlxn⟩ : ∃ l, l = xs.length := ⟨_, rfl⟩
  obtain ⟨lyn, hlyn⟩ : ∃ l, l = ys.length := ⟨_, rfl⟩
  rw [← hlxn] at OA ⊢
  rw [← hlyn] at OB ⊢
  have OA := Lib.hid OA
  have OB := Lib.hid OB
  have l3 := chain (chain (lay w (.cells #[.int .i64 h1, .int .i64 wd1, .slice a lxn c1] 33)) (lay _ (.cells #[.int .i64 h2, .int .i64 wd2, .slice b lyn c2] 33))) (lay _ (.cells #[.int .i64 0, .int .i64 0, .slice none 0 0] 33))
  have t2 := ((Bx.top w (.int .i64 h1) (.int .i64 wd1) (.slice a lxn c1) 33).alloc (.cells #[.int .i64 h2, .int .i64 wd2, .slice b lyn c2] 33)).alloc (.cells #[.int .i64 0, .int .i64 0, .slice none 0 0] 33)
  have t3 := (Bx.top (w.alloc (.cells #[.int .i64 h1, .int .i64 wd1, .slice a lxn c1] 33)) (.int .i64 h2) (.int .i64 wd2) (.slice b lyn c2) 33).alloc (.cells #[.int .i64 0, .int .i64 0, .slice none 0 0] 33)
  have t4 := Bx.top ((w.alloc (.cells #[.int .i64 h1, .int .i64 wd1, .slice a lxn c1] 33)).alloc (.cells #[.int .i64 h2, .int .i64 wd2, .slice b lyn c2] 33)) (.int .i64 0) (.int .i64 0) (.slice none 0 0) 33
  simp only [World.size_alloc] at t3 t4
  clear o1 o2 hlxn hlyn WA WB n1 n2
  go_enter Try.func29, Try.ntmps29
  go_wp2_with fail
  refine (OA.out _ l3).mono ?_
  rintro e v1 ⟨rfl, b1⟩
  have B1 := chain l3 b1
  have t2 := t2.below b1
  have t3 := t3.below b1
  have t4 := t4.below b1
  have HT := Lib.hid (And.intro t2 (And.intro t3 t4))
  obtain ⟨-, c0, c1', c2', -⟩ := t3
  clear t2 t4 b1 l3
  go_wp2_with fail
  refine (OB.out _ B1).mono ?_
  rintro e v2 ⟨rfl, b2⟩
  have B2 := chain B1 b2
  obtain ⟨-, r0, r1, r2, s0, s1, s2⟩ := HT.out.2.2.below b2
  obtain ⟨-, d0, d1, d2, -⟩ := HT.out.1.below b2
  obtain ⟨-, e0, e1, e2, -⟩ := HT.out.2.1.below b2
  clear c0 c1' c2' b2 HT B1
  have RES := Lib.hid (err_res (h := 0) (wd := 0) (err := 1) (L := 0) (cap := 0) (a := none) rfl (.inl rfl) (((B2.setCell (p := ⟨w.heap.size + 1 + 1, 0, none⟩) (by show _ ≤ w.heap.size + 1 + 1; omega) (.int .i64 0)).setCell (p := ⟨w.heap.size + 1 + 1, 1, none⟩) (by show _ ≤ w.heap.size + 1 + 1; omega) (.int .i64 0)).setCell (p := ⟨w.heap.size + 1 + 1, 2, none⟩) (by show _ ≤ w.heap.size + 1 + 1; omega) (.slice none 0 0)))
  clear B2
  go_wp2
  exact bodyPost_ret (v := .tuple #[mval 0 0 (.slice none 0 0), .int .i64 1]) (by simp [results, Try.results29, go_sem, *]) rfl RES.out

set_option maxRecDepth 100000 in
theorem implMatMul_bad3 (h1 wd1 h2 wd2 : Int) (xs ys : List Int) (o1 : okM h1 wd1 xs = true) (o2 : okM h2 wd2 ys = true) (ne : wd1 ≠ h2) (n1 : xs.length ≤ 2097152) (n2 : ys.length ≤ 2097152) (w : World) (a b : Option Addr) (c1 c2 : Nat) (WA : Words w a xs) (WB : Words w b ys) :
    Calls Try.prog 29 #[mval h1 wd1 (.slice a xs.length c1), mval h2 wd2 (.slice b ys.length c2)] w (MatErr 0 0 [] 2 w) := by
  have OA := fun v (q : Below w.heap.size w v) => implOk h1 wd1 a c1 xs v n1 (WA.below q)
  have OB := fun v (q : Below w.heap.size w v) => implOk h2 wd2 b c2 ys v n2 (WB.below q)
  rw [o1] at OA
  rw [o2] at OB
  obtain ⟨lxn, hlxn⟩ : ∃ l, l = xs.length := ⟨_, rfl⟩
  obtain ⟨lyn, hlyn⟩ : ∃ l, l = ys.length := ⟨_, rfl⟩
  rw [← hlxn] at OA ⊢
  rw [← hlyn] at OB ⊢
  have OA := Lib.hid OA
  have OB := Lib.hid OB
  have l3 := chain (chain (lay w (.cells #[.int .i64 h1, .int .i64 wd1, .slice a lxn c1] 33)) (lay _ (.cells #[.int .i64 h2, .int .i64 wd2, .slice b lyn c2] 33))) (lay _ (.cells #[.int .i64 0, .int .i64 0, .slice none 0 0] 33))
  have t2 := ((Bx.top w (.int .i64 h1) (.int .i64 wd1) (.slice a lxn c1) 33).alloc (.cells #[.int .i64 h2, .int .i64 wd2, .slice b lyn c2] 33)).alloc (.cells #[.int .i64 0, .int .i64 0, .slice none 0 0] 33)
  have t3 := (Bx.top (w.alloc (.cells #[.int .i64 h1, .int .i64 wd1, .slice a lxn c1] 33)) (.int .i64 h2) (.int .i64 wd2) (.slice b lyn c2) 33).alloc (.cells #[.int .i64 0, .int .i64 0, .slice none 0 0] 33)
  have t4 := Bx.top ((w.alloc (.cells #[.int .i64 h1, .int .i64 wd1, .slice a lxn c1] 33)).alloc (.cells #[.int .i64 h2, .int .i64 wd2, .slice b lyn c2] 33)) (.int .i64 0) (.int .i64 0) (.slice none 0 0) 33
  simp only [World.size_alloc] at t3 t4
  have tt : (wd1 != h2) = true := by rw [bne_iff_ne]; exact ne
  clear o1 o2 ne hlxn hlyn WA WB n1 n2
  go_enter Try.func29, Try.ntmps29
  go_wp2_with fail
  refine (OA.out _ l3).mono ?_
  rintro e v1 ⟨rfl, b1⟩
  have B1 := chain l3 b1
  have t2 := t2.below b1
  have t3 := t3.below b1
  have t4 := t4.below b1
  have HT := Lib.hid (And.intro t2 (And.intro t3 t4))
  obtain ⟨-, c0, c1', c2', -⟩ := t3
  clear t2 t4 b1 l3
  go_wp2_with fail
  refine (OB.out _ B1).mono ?_
  rintro e v2 ⟨rfl, b2⟩
  have B2 := chain B1 b2
  obtain ⟨-, r0, r1, r2, s0, s1, s2⟩ := HT.out.2.2.below b2
  obtain ⟨-, d0, d1, d2, -⟩ := HT.out.1.below b2
  obtain ⟨-, e0, e1, e2, -⟩ := HT.out.2.1.below b2
  clear c0 c1' c2' b2 HT B1
  have RES := Lib.hid (err_res (h := 0) (wd := 0) (err := 2) (L := 0) (cap := 0) (a := none) rfl (.inl rfl) (((B2.setCell (p := ⟨w.heap.size + 1 + 1, 0, none⟩) (by show _ ≤ w.heap.size + 1 + 1; omega) (.int .i64 0)).setCell (p := ⟨w.heap.size + 1 + 1, 1, none⟩) (by show _ ≤ w.heap.size + 1 + 1; omega) (.int .i64 0)).setCell (p := ⟨w.heap.size + 1 + 1, 2, none⟩) (by show _ ≤ w.heap.size + 1 + 1; omega) (.slice none 0 0)))
  clear B2
  go_wp2
  exact bodyPost_ret (v := .tuple #[mval 0 0 (.slice none 0 0), .int .i64 2]) (by simp [results, Try.results29, go_sem, *]) rfl RES.out

set_option maxRecDepth 100000 in
theorem specMatMul_bad1 (h1 wd1 h2 wd2 : Int) (xs ys : List Int) (o1 : okM h1 wd1 xs = false) (n1 : xs.length ≤ 2097152) (n2 : ys.length ≤ 2097152) (w : World) (a b : Option Addr) (c1 c2 : Nat) (WA : Words w a xs) (WB : Words w b ys) :
    Calls Try.prog 28 #[mval h1 wd1 (.slice a xs.length c1), mval h2 wd2 (.slice b ys.length c2)] w (MatErr 0 0 [] 1 w) := by
  have OA := fun v (q : Below w.heap.size w v) => l03OK h1 wd1 a c1 xs v n1 (WA.below q)
  have OB := fun v (q : Below w.heap.size w v) => l03OK h2 wd2 b c2 ys v n2 (WB.below q)
  rw [o1] at OA
  obtain ⟨lxn, hlxn⟩ : ∃ l, l = xs.length := ⟨_, rfl⟩
  obtain ⟨lyn, hlyn⟩ : ∃ l, l = ys.length := ⟨_, rfl⟩
  rw [← hlxn] at OA ⊢
  rw [← hlyn] at OB ⊢
  have OA := Lib.hid OA
  have OB := Lib.hid OB
  have l3 := chain (chain (lay w (.cells #[.int .i64 h1, .int .i64 wd1, .slice a lxn c1] 33)) (lay _ (.cells #[.int .i64 h2, .int .i64 wd2, .slice b lyn c2] 33))) (lay _ (.cells #[.int .i64 0, .int .i64 0, .slice none 0 0] 33))
  have t2 := ((Bx.top w (.int .i64 h1) (.int .i64 wd1) (.slice a lxn c1) 33).alloc (.cells #[.int .i64 h2, .int .i64 wd2, .slice b lyn c2] 33)).alloc (.cells #[.int .i64 0, .int .i64 0, .slice none 0 0] 33)
  have t3 := (Bx.top (w.alloc (.cells #[.int .i64 h1, .int .i64 wd1, .slice a lxn c1] 33)) (.int .i64 h2) (.int .i64 wd2) (.slice b lyn c2) 33).alloc (.cells #[.int .i64 0, .int .i64 0, .slice none 0 0] 33)
  have t4 := Bx.top ((w.alloc (.cells #[.int .i64 h1, .int .i64 wd1, .slice a lxn c1] 33)).alloc (.cells #[.int .i64 h2, .int .i64 wd2, .slice b lyn c2] 33)) (.int .i64 0) (.int .i64 0) (.slice none 0 0) 33
  simp only [World.size_alloc] at t3 t4
  clear o1 hlxn hlyn WA WB n1 n2
  go_enter Try.func28, Try.ntmps28
  go_wp2_with fail
  refine (OA.out _ l3).mono ?_
  rintro e v1 ⟨rfl, b1⟩
  have B1 := chain l3 b1
  obtain ⟨-, r0, r1, r2, s0, s1, s2⟩ := t4.below b1
  have B2 := B1
  clear t2 t3 t4 b1 l3 B1
  have RES := Lib.hid (err_res (h := 0) (wd := 0) (err := 1) (L := 0) (cap := 0) (a := none) rfl (.inl rfl) (((B2.setCell (p := ⟨w.heap.size + 1 + 1, 0, none⟩) (by show _ ≤ w.heap.size + 1 + 1; omega) (.int .i64 0)).setCell (p := ⟨w.heap.size + 1 + 1, 1, none⟩) (by show _ ≤ w.heap.size + 1 + 1; omega) (.int .i64 0)).setCell (p := ⟨w.heap.size + 1 + 1, 2, none⟩) (by show _ ≤ w.heap.size + 1 + 1; omega) (.slice none 0 0)))
  clear B2
  go_wp2
  exact bodyPost_ret (v := .tuple #[mval 0 0 (.slice none 0 0), .int .i64 1]) (by simp [results, Try.results28, go_sem, *]) rfl RES.out

set_option maxRecDepth 100000 in
theorem specMatMul_bad2 (h1 wd1 h2 wd2 : Int) (xs ys : List Int) (o1 : okM h1 wd1 xs = true) (o2 : okM h2 wd2 ys = false) (n1 : xs.length ≤ 2097152) (n2 : ys.length ≤ 2097152) (w : World) (a b : Option Addr) (c1 c2 : Nat) (WA : Words w a xs) (WB : Words w b ys) :
    Calls Try.prog 28 #[mval h1 wd1 (.slice a xs.length c1), mval h2 wd2 (.slice b ys.length c2)] w (MatErr 0 0 [] 1 w) := by
  have OA := fun v (q : Below w.heap.size w v) => l03OK h1 wd1 a c1 xs v n1 (WA.below q)
  have OB := fun v (q : Below w.heap.size w v) => l03OK h2 wd2 b c2 ys v n2 (WB.below q)
  rw [o1] at OA
  rw [o2] at OB
  obtain ⟨lxn, hlxn⟩ : ∃ l, l = xs.length := ⟨_, rfl⟩
  obtain ⟨lyn, hlyn⟩ : ∃ l, l = ys.length := ⟨_, rfl⟩
  rw [← hlxn] at OA ⊢
  rw [← hlyn] at OB ⊢
  have OA := Lib.hid OA
  have OB := Lib.hid OB
  have l3 := chain (chain (lay w (.cells #[.int .i64 h1, .int .i64 wd1, .slice a lxn c1] 33)) (lay _ (.cells #[.int .i64 h2, .int .i64 wd2, .slice b lyn c2] 33))) (lay _ (.cells #[.int .i64 0, .int .i64 0, .slice none 0 0] 33))
  have t2 := ((Bx.top w (.int .i64 h1) (.int .i64 wd1) (.slice a lxn c1) 33).alloc (.cells #[.int .i64 h2, .int .i64 wd2, .slice b lyn c2] 33)).alloc (.cells #[.int .i64 0, .int .i64 0, .slice none 0 0] 33)
  have t3 := (Bx.top (w.alloc (.cells #[.int .i64 h1, .int .i64 wd1, .slice a lxn c1] 33)) (.int .i64 h2) (.int .i64 wd2) (.slice b lyn c2) 33).alloc (.cells #[.int .i64 0, .int .i64 0, .slice none 0 0] 33)
  have t4 := Bx.top ((w.alloc (.cells #[.int .i64 h1, .int .i64 wd1, .slice a lxn c1] 33)).alloc (.cells #[.int .i64 h2, .int .i64 wd2, .slice b lyn c2] 33)) (.int .i64 0) (.int .i64 0) (.slice none 0 0) 33
  simp only [World.size_alloc] at t3 t4
  clear o1 o2 hlxn hlyn WA WB n1 n2
  go_enter Try.func28, Try.ntmps28
  go_wp2_with fail
  refine (OA.out _ l3).mono ?_
  rintro e v1 ⟨rfl, b1⟩
  have B1 := chain l3 b1
  have t2 := t2.below b1
  have t3 := t3.below b1
  have t4 := t4.below b1
  have HT := Lib.hid (And.intro t2 (And.intro t3 t4))
  obtain ⟨-, c0, c1', c2', -⟩ := t3
  clear t2 t4 b1 l3
  go_wp2_with fail
  refine (OB.out _ B1).mono ?_
  rintro e v2 ⟨rfl, b2⟩
  have B2 := chain B1 b2
  obtain ⟨-, r0, r1, r2, s0, s1, s2⟩ := HT.out.2.2.below b2
  obtain ⟨-, d0, d1, d2, -⟩ := HT.out.1.below b2
  obtain ⟨-, e0, e1, e2, -⟩ := HT.out.2.1.below b2
  clear c0 c1' c2' b2 HT B1
  have RES := Lib.hid (err_res (h := 0) (wd := 0) (err := 1) (L := 0) (cap := 0) (a := none) rfl (.inl rfl) (((B2.setCell (p := ⟨w.heap.size + 1 + 1, 0, none⟩) (by show _ ≤ w.heap.size + 1 + 1; omega) (.int .i64 0)).setCell (p := ⟨w.heap.size + 1 + 1, 1, none⟩) (by show _ ≤ w.heap.size + 1 + 1; omega) (.int .i64 0)).setCell (p := ⟨w.heap.size + 1 + 1, 2, none⟩) (by show _ ≤ w.heap.size + 1 + 1; omega) (.slice none 0 0)))
  clear B2
  go_wp2
  exact bodyPost_ret (v := .tuple #[mval 0 0 (.slice none 0 0), .int .i64 1]) (by simp [results, Try.results28, go_sem, *]) rfl RES.out

set_option maxRecDepth 100000 in
theorem specMatMul_bad3 (h1 wd1 h2 wd2 : Int) (xs ys : List Int) (o1 : okM h1 wd1 xs = true) (o2 : okM h2 wd2 ys = true) (ne : wd1 ≠ h2) (n1 : xs.length ≤ 2097152) (n2 : ys.length ≤ 2097152) (w : World) (a b : Option Addr) (c1 c2 : Nat) (WA : Words w a xs) (WB : Words w b ys) :
    Calls Try.prog 28 #[mval h1 wd1 (.slice a xs.length c1), mval h2 wd2 (.slice b ys.length c2)] w (MatErr 0 0 [] 2 w) := by
  have OA := fun v (q : Below w.heap.size w v) => l03OK h1 wd1 a c1 xs v n1 (WA.below q)
  have OB := fun v (q : Below w.heap.size w v) => l03OK h2 wd2 b c2 ys v n2 (WB.below q)
  rw [o1] at OA
  rw [o2] at OB
  obtain ⟨lxn, hlxn⟩ : ∃ l, l = xs.length := ⟨_, rfl⟩
  obtain ⟨lyn, hlyn⟩ : ∃ l, l = ys.length := ⟨_, rfl⟩
  rw [← hlxn] at OA ⊢
  rw [← hlyn] at OB ⊢
  have OA := Lib.hid OA
  have OB := Lib.hid OB
  have l3 := chain (chain (lay w (.cells #[.int .i64 h1, .int .i64 wd1, .slice a lxn c1] 33)) (lay _ (.cells #[.int .i64 h2, .int .i64 wd2, .slice b lyn c2] 33))) (lay _ (.cells #[.int .i64 0, .int .i64 0, .slice none 0 0] 33))
  have t2 := ((Bx.top w (.int .i64 h1) (.int .i64 wd1) (.slice a lxn c1) 33).alloc (.cells #[.int .i64 h2, .int .i64 wd2, .slice b lyn c2] 33)).alloc (.cells #[.int .i64 0, .int .i64 0, .slice none 0 0] 33)
  have t3 := (Bx.top (w.alloc (.cells #[.int .i64 h1, .int .i64 wd1, .slice a lxn c1] 33)) (.int .i64 h2) (.int .i64 wd2) (.slice b lyn c2) 33).alloc (.cells #[.int .i64 0, .int .i64 0, .slice none 0 0] 33)
  have t4 := Bx.top ((w.alloc (.cells #[.int .i64 h1, .int .i64 wd1, .slice a lxn c1] 33)).alloc (.cells #[.int .i64 h2, .int .i64 wd2, .slice b lyn c2] 33)) (.int .i64 0) (.int .i64 0) (.slice none 0 0) 33
  simp only [World.size_alloc] at t3 t4
  have tt : (wd1 != h2) = true := by rw [bne_iff_ne]; exact ne
  clear o1 o2 ne hlxn hlyn WA WB n1 n2
  go_enter Try.func28, Try.ntmps28
  go_wp2_with fail
  refine (OA.out _ l3).mono ?_
  rintro e v1 ⟨rfl, b1⟩
  have B1 := chain l3 b1
  have t2 := t2.below b1
  have t3 := t3.below b1
  have t4 := t4.below b1
  have HT := Lib.hid (And.intro t2 (And.intro t3 t4))
  obtain ⟨-, c0, c1', c2', -⟩ := t3
  clear t2 t4 b1 l3
  go_wp2_with fail
  refine (OB.out _ B1).mono ?_
  rintro e v2 ⟨rfl, b2⟩
  have B2 := chain B1 b2
  obtain ⟨-, r0, r1, r2, s0, s1, s2⟩ := HT.out.2.2.below b2
  obtain ⟨-, d0, d1, d2, -⟩ := HT.out.1.below b2
  obtain ⟨-, e0, e1, e2, -⟩ := HT.out.2.1.below b2
  clear c0 c1' c2' b2 HT B1
  have RES := Lib.hid (err_res (h := 0) (wd := 0) (err := 2) (L := 0) (cap := 0) (a := none) rfl (.inl rfl) (((B2.setCell (p := ⟨w.heap.size + 1 + 1, 0, none⟩) (by show _ ≤ w.heap.size + 1 + 1; omega) (.int .i64 0)).setCell (p := ⟨w.heap.size + 1 + 1, 1, none⟩) (by show _ ≤ w.heap.size + 1 + 1; omega) (.int .i64 0)).setCell (p := ⟨w.heap.size + 1 + 1, 2, none⟩) (by show _ ≤ w.heap.size + 1 + 1; omega) (.slice none 0 0)))
  clear B2
  go_wp2
  exact bodyPost_ret (v := .tuple #[mval 0 0 (.slice none 0 0), .int .i64 2]) (by simp [results, Try.results28, go_sem, *]) rfl RES.out

set_option maxRecDepth 100000 in
theorem specMatMul (h1 n k : Nat) (xs ys : List Int) (o1 : okM h1 n xs = true) (o2 : okM n k ys = true) (w : World) (a b : Option Addr) (c1 c2 : Nat) (WA : Words w a xs) (WB : Words w b ys) :
    Calls Try.prog 28 #[mval h1 n (.slice a xs.length c1), mval n k (.slice b ys.length c2)] w (MatErr h1 k (flat h1 k (fun i j => dotZ (ofL n xs) (ofL k ys) i j n)) 0 w) := by
  obtain ⟨⟨h11, h8, n1, n8⟩, lx, ex⟩ := okM_out o1
  obtain ⟨⟨_, _, k1, k8⟩, ly, ey⟩ := okM_out o2
  have lx' : xs.length = h1 * n := by have : (xs.length : Int) = ((h1 * n : Nat) : Int) := by rw [lx, Int.natCast_mul]
                                      omega
  have ly' : ys.length = n * k := by have : (ys.length : Int) = ((n * k : Nat) : Int) := by rw [ly, Int.natCast_mul]
                                     omega
  have q1 : h1 * n ≤ 8 * 8 := Nat.mul_le_mul (by omega) (by omega)
  have q2 : n * k ≤ 8 * 8 := Nat.mul_le_mul (by omega) (by omega)
  have OA := fun v (q : Below w.heap.size w v) => l03OK h1 n a c1 xs v (by omega) (WA.below q)
  have OB := fun v (q : Below w.heap.size w v) => l03OK n k b c2 ys v (by omega) (WB.below q)
  have MU := fun v (q : Below w.heap.size w v) => l03MulI h1 n k (by omega) (by omega) (by omega) (by omega) (by omega) (by omega) a b c1 c2 xs ys lx' ly' (ofL_els lx' ex) (ofL_els ly' ey) v (WA.below q) (WB.below q)
  rw [o1] at OA
  rw [o2] at OB
  obtain ⟨lxn, hlxn⟩ : ∃ l, l = xs.length := ⟨_, rfl⟩
  obtain ⟨lyn, hlyn⟩ : ∃ l, l = ys.length := ⟨_, rfl⟩
  rw [← hlxn] at OA ⊢
  rw [← hlyn] at OB ⊢
  rw [← hlxn, ← hlyn] at MU
  have OA := Lib.hid OA
  have OB := Lib.hid OB
  have MU := Lib.hid MU
  have l3 := chain (chain (lay w (.cells #[.int .i64 h1, .int .i64 n, .slice a lxn c1] 33)) (lay _ (.cells #[.int .i64 n, .int .i64 k, .slice b lyn c2] 33))) (lay _ (.cells #[.int .i64 0, .int .i64 0, .slice none 0 0] 33))
  have t2 := ((Bx.top w (.int .i64 h1) (.int .i64 n) (.slice a lxn c1) 33).alloc (.cells #[.int .i64 n, .int .i64 k, .slice b lyn c2] 33)).alloc (.cells #[.int .i64 0, .int .i64 0, .slice none 0 0] 33)
  have t3 := (Bx.top (w.alloc (.cells #[.int .i64 h1, .int .i64 n, .slice a lxn c1] 33)) (.int .i64 n) (.int .i64 k) (.slice b lyn c2) 33).alloc (.cells #[.int .i64 0, .int .i64 0, .slice none 0 0] 33)
  have t4 := Bx.top ((w.alloc (.cells #[.int .i64 h1, .int .i64 n, .slice a lxn c1] 33)).alloc (.cells #[.int .i64 n, .int .i64 k, .slice b lyn c2] 33)) (.int .i64 0) (.int .i64 0) (.slice none 0 0) 33
  simp only [World.size_alloc] at t3 t4
  have hz3 := l3.size
  simp only [World.size_alloc] at hz3
  clear lx ly lx' ly' ex ey o1 o2 hlxn hlyn WA WB q1 q2
  go_enter Try.func28, Try.ntmps28
  go_wp2_with fail
  refine (OA.out _ l3).mono ?_
  rintro e v1 ⟨rfl, b1⟩
  have B1 := chain l3 b1
  have hb1 := b1.size
  simp only [World.size_alloc] at hb1
  have t2 := t2.below b1
  have t3 := t3.below b1
  have t4 := t4.below b1
  have HT := Lib.hid (And.intro t2 (And.intro t3 t4))
  obtain ⟨-, c0, c1', c2', -⟩ := t3
  clear t2 t4 b1 l3
  go_wp2_with fail
  refine (OB.out _ B1).mono ?_
  rintro e v2 ⟨rfl, b2⟩
  have B2 := chain B1 b2
  have hv2 : w.heap.size + 1 + 1 < v2.heap.size := by have := b2.size; omega
  have R2 := Lib.hid (HT.out.2.2.below b2)
  obtain ⟨-, d0, d1, d2, -⟩ := HT.out.1.below b2
  obtain ⟨-, e0, e1, e2, -⟩ := HT.out.2.1.below b2
  clear c0 c1' c2' b2 HT B1
  go_wp2_with fail
  refine (MU.out _ B2).mono ?_
  rintro e v3 ⟨aa, L, cap, rfl, hL, I, b3⟩
  have B3 := chain B2 b3
  obtain ⟨-, r0, r1, r2, s0, s1, s2⟩ := R2.out.below b3
  have RES := Lib.hid (fin_res (w := w) (h := h1) (wd := k) (err := 0) (cap := cap) hL (I.own (Nat.le_refl _)).1 B3 hv2 (by omega) (by omega) (.int .i64 h1) (.int .i64 k) (.slice aa L cap))
  clear B3 b3 I hL B2 R2 d0 d1 d2 e0 e1 e2
  go_wp2
  exact bodyPost_ret (v := .tuple #[mval h1 k (.slice aa L cap), .int .i64 0]) (by simp [results, Try.results28, go_sem, *]) rfl RES.out
end Go.Proofs.Ytgnllkkkkkcoaaa.Gf2
