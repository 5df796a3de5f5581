/-
  The product of two matrices: what the program's function returns.
-/
import Derived.Test.YtgnllkkkkkcoaaaMul2
import Derived.Test.YtgnllkkkkkcoaaaMatOk
import Derived.Test.YtgnllkkkkkcoaaaUnit
namespace Go.Proofs.Ytgnllkkkkkcoaaa.Gf2
open Go.RowKit Go.Proofs.Ytgnllkkkkkcoaaa.At Go.Proofs.Ytgnllkkkkkcoaaa.MixC Go.Proofs.Ytgnllkkkkkcoaaa.Ml Go.Proofs.Ytgnllkkkkkcoaaa.Gr Go.Proofs.Ytgnllkkkkkcoaaa.Gj Go.Proofs.Ytgnllkkkkkcoaaa.GfI
open Go.Proofs.Ytgnllkkkkkcoaaa.Mo (okM implOk BoolB okM_out)
set_option linter.unusedVariables false

theorem ofL_els {h n : Nat} {xs : List Int} (hx : xs.length = h * n) (he : ∀ z ∈ xs, 0 ≤ z ∧ z ≤ 255) : Els h n (ofL n xs) := by
  intro i j hi hj
  have hlt : i * n + j < xs.length := by rw [hx]; exact flat_lt hi hj
  unfold ofL
  rw [List.getD_eq_getElem?_getD, List.getElem?_eq_getElem hlt]
  exact he _ (List.getElem_mem hlt)

theorem fin_res {w v2 u4 : World} {a : Option Addr} {q L cap : Nat} {zs : List Int} {h wd err : Int} (hL : L = zs.length) (O : OwnS v2 u4 a zs) (B : Below w.heap.size w u4) (hq : q < v2.heap.size) (hq0 : w.heap.size ≤ q) (hv : w.heap.size ≤ v2.heap.size) (x y z : Value) :
    MatErr h wd zs err w (.returned (.tuple #[mval h wd (.slice a L cap), .int .i64 err])) (((u4.setCell ⟨q, 0, none⟩ x).setCell ⟨q, 1, none⟩ y).setCell ⟨q, 2, none⟩ z) :=
  ⟨a, cap, by rw [hL], (((O.far (p := ⟨q, 0, none⟩) hq x).far (p := ⟨q, 1, none⟩) hq y).far (p := ⟨q, 2, none⟩) hq z).from hv, ((B.setCell hq0 _).setCell hq0 _).setCell hq0 _⟩

set_option maxRecDepth 100000 in
set_option maxHeartbeats 4000000 in
theorem implMatMul (h n k : Nat) (a b : Option Addr) (c1 c2 : Nat) (xs ys : List Int) (o1 : okM h n xs = true) (o2 : okM n k ys = true) (w : World) (WA : Words w a xs) (WB : Words w b ys) :
    Calls Try.prog 29 #[mval h n (.slice a xs.length c1), mval n k (.slice b ys.length c2)] w (MatErr h k (flat h k (fun i j => dotZ (ofL n xs) (ofL k ys) i j n)) 0 w) := by
  obtain ⟨⟨h1, h8, n1, n8⟩, lx, ex⟩ := okM_out o1
  obtain ⟨⟨_, _, k1, k8⟩, ly, ey⟩ := okM_out o2
  have lx' : xs.length = h * n := by have : (xs.length : Int) = ((h * n : Nat) : Int) := by rw [lx, Int.natCast_mul]
                                     omega
  have ly' : ys.length = n * k := by have : (ys.length : Int) = ((n * k : Nat) : Int) := by rw [ly, Int.natCast_mul]
                                     omega
  have q1 : h * n ≤ 8 * 8 := Nat.mul_le_mul (by omega) (by omega)
  have q2 : n * k ≤ 8 * 8 := Nat.mul_le_mul (by omega) (by omega)
  obtain ⟨lxn, hlxn⟩ : ∃ l, l = xs.length := ⟨_, rfl⟩
  obtain ⟨lyn, hlyn⟩ : ∃ l, l = ys.length := ⟨_, rfl⟩
  have OA := fun v (b : Below w.heap.size w v) => implOk h n a c1 xs v (by omega) (WA.below b)
  have OB := fun v (q : Below w.heap.size w v) => implOk n k b c2 ys v (by omega) (WB.below q)
  have GA := fun v (b : Below w.heap.size w v) => gridOf h n (by omega) (by omega) a c1 xs lx' v (WA.below b)
  have GB := fun v (q : Below w.heap.size w v) => gridOf n k (by omega) (by omega) b c2 ys ly' v (WB.below q)
  rw [o1, ← hlxn] at OA
  rw [o2, ← hlyn] at OB
  rw [← hlxn] at GA ⊢
  rw [← hlyn] at GB ⊢
  have MU := Lib.hid (fun ga gb v (x : Mat .i64 0 v ga h n (ofL n xs)) (y : Mat .i64 0 v gb n k (ofL k ys)) => multiply h n k ga gb (h * n) (n * k) (ofL n xs) (ofL k ys) (by omega) (by omega) (by omega) rfl rfl (ofL_els lx' ex) (ofL_els ly' ey) v x y)
  have OA := Lib.hid OA
  have OB := Lib.hid OB
  have GA := Lib.hid GA
  have GB := Lib.hid GB
  have LF := Lib.hid (flat_length h k (fun i j => dotZ (ofL n xs) (ofL k ys) i j n))
  have l3 := chain (chain (lay w (.cells #[.int .i64 h, .int .i64 n, .slice a lxn c1] 33)) (lay _ (.cells #[.int .i64 n, .int .i64 k, .slice b lyn c2] 33))) (lay _ (.cells #[.int .i64 0, .int .i64 0, .slice none 0 0] 33))
  have t2 := ((Bx.top w (.int .i64 h) (.int .i64 n) (.slice a lxn c1) 33).alloc (.cells #[.int .i64 n, .int .i64 k, .slice b lyn c2] 33)).alloc (.cells #[.int .i64 0, .int .i64 0, .slice none 0 0] 33)
  have t3 := (Bx.top (w.alloc (.cells #[.int .i64 h, .int .i64 n, .slice a lxn c1] 33)) (.int .i64 n) (.int .i64 k) (.slice b lyn c2) 33).alloc (.cells #[.int .i64 0, .int .i64 0, .slice none 0 0] 33)
  have t4 := Bx.top ((w.alloc (.cells #[.int .i64 h, .int .i64 n, .slice a lxn c1] 33)).alloc (.cells #[.int .i64 n, .int .i64 k, .slice b lyn c2] 33)) (.int .i64 0) (.int .i64 0) (.slice none 0 0) 33
  have hz3 := l3.size
  simp only [World.size_alloc] at t3 t4 hz3
  clear lx ly lx' ly' ex ey o1 o2 hlxn hlyn WA WB q1 q2
  go_enter Try.func29, Try.ntmps29
  go_wp2_with fail
  refine (OA.out _ l3).mono ?_
  rintro e v1 ⟨rfl, b1⟩
  have B1 := chain l3 b1
  have t3 := t3.below b1
  have t2 := t2.below b1
  have t4 := t4.below b1
  have HT := Lib.hid (And.intro t2 (And.intro t3 t4))
  obtain ⟨-, c0, c1', c2', -⟩ := t3
  have hb1 := b1.size
  simp only [World.size_alloc] at hb1
  clear t2 t4 b1 l3 hz3
  go_wp2_with fail
  refine (OB.out _ B1).mono ?_
  rintro e v2 ⟨rfl, b2⟩
  have B2 := chain B1 b2
  have F := Lib.hid (fun v (q : Below v2.heap.size v2 v) => And.intro (HT.out.1.below (chain b2 q)) (And.intro (HT.out.2.1.below (chain b2 q)) (And.intro (HT.out.2.2.below (chain b2 q)) (chain B2 q))))
  have hv2 : w.heap.size + 1 + 1 < v2.heap.size := by have := b2.size; omega
  clear c0 c1' c2' b2 HT B1
  obtain ⟨⟨-, c0, c1', c2', -⟩, ⟨-, d0, d1, d2, -⟩, -, -⟩ := F.out v2 (Below.refl _ _)
  have Bd : Below v2.heap.size v2 v2.drew := (Below.refl _ _).drew
  go_wp2_with fail
  go_region_with (first
    | ((with_reducible refine (GA.out _ ?_).mono ?_); exact (F.out _ (by assumption)).2.2.2; rintro e u1 ⟨g1, rfl, M1, bq⟩; have M1z := matMono M1 (Nat.zero_le _); (try have M2y := M2z.below bq); have bu1 : Below v2.heap.size v2 u1 := chain (by assumption) bq; obtain ⟨-, ⟨-, l0, l1, l2, -⟩, -, -⟩ := F.out u1 bu1)
    | ((with_reducible refine (GB.out _ ?_).mono ?_); exact (F.out _ (by assumption)).2.2.2; rintro e u2 ⟨g2, rfl, M2, bq⟩; have M2z := matMono M2 (Nat.zero_le _); (try have M1y := M1z.below bq); have bu2 : Below v2.heap.size v2 u2 := chain (by assumption) bq; obtain ⟨⟨-, m0, m1, m2, -⟩, -, -, -⟩ := F.out u2 bu2)
    | ((with_reducible refine (MU.out _ _ _ ?_ ?_).mono ?_); assumption; assumption; rintro e u3 ⟨g3, rfl, M3, bq⟩; have M3 := matMono (C := v2.heap.size) M3 (Below.size (by assumption)); have bu3 : Below v2.heap.size v2 u3 := chain (by assumption) bq)
    | ((with_reducible refine (matrixOf h k (some ⟨g3, 0, none⟩) (h * k) (h * k) _).mono ?_); rintro e u4 ⟨rfl, bq4⟩; have bu4 : Below v2.heap.size v2 u4 := chain bu3 bq4; have M4 := M3.below bq4; obtain ⟨-, -, ⟨-, r0, r1, r2, s0, s1, s2⟩, -⟩ := F.out u4 bu4))
  all_goals
    have RES := Lib.hid (fin_res (w := w) (h := h) (wd := k) (err := 0) (cap := h * k) LF.out.symm (Mat_own M4 (Nat.le_refl _)) (F.out _ bu4).2.2.2 hv2 (by omega) (by omega) (.int .i64 h) (.int .i64 k) (.slice (some ⟨g3, 0, none⟩) (h * k) (h * k)))
    generalize h * k = L at *
    clear M1 M2 M3 M4 bq M1z M2z bu1 bu2 bu3 bq4 bu4 Bd
    go_wp2
    exact bodyPost_ret (v := .tuple #[mval h k (.slice (some ⟨g3, 0, none⟩) L L), .int .i64 0]) (by simp [results, Try.results29, go_sem, *]) rfl RES.out
end Go.Proofs.Ytgnllkkkkkcoaaa.Gf2
