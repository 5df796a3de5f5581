/-
  The exact law of Split.
-/
import Derived.Test.YtmpncbbecgljkaaPool
import Derived.Test.YtmpncbbecgljkaaOpenP
namespace Go.Proofs.Ytmpncbbecgljkaa.Po
open Go.RowKit Go.Proofs.Ytmpncbbecgljkaa.GfI Go.Proofs.Ytmpncbbecgljkaa.GfS Go.Proofs.Ytmpncbbecgljkaa.Cd
open Go.Proofs.Ytmpncbbecgljkaa.Sg (BxN)
set_option linter.unusedVariables false

/-- The pool that comes of a split, and the code. -/
def spOk (i k m n g r : Int) : Bool := okP i k m n g r && decide (2 * g ≤ 16)
def spG (i k m n g r x : Int) : Int := if spOk i k m n g r = true then x else 0
def spC (i k m n g r : Int) : Int := if okP i k m n g r = true then (if 2 * g ≤ 16 then 0 else 4) else 1
abbrev set6 (w : World) (b : Nat) (v0 v1 v2 v3 v4 v5 : Value) : World := (((((w.setCell ⟨b, 0, none⟩ v0).setCell ⟨b, 1, none⟩ v1).setCell ⟨b, 2, none⟩ v2).setCell ⟨b, 3, none⟩ v3).setCell ⟨b, 4, none⟩ v4).setCell ⟨b, 5, none⟩ v5
theorem put6 {w : World} {b : Nat} {a0 a1 a2 a3 a4 a5 : Value} (h : BxN w b [a0, a1, a2, a3, a4, a5]) (v0 v1 v2 v3 v4 v5 : Value) : BxN (set6 w b v0 v1 v2 v3 v4 v5) b [v0, v1, v2, v3, v4, v5] :=
  (((((h.put 0 (by simp) v0).put 1 (by simp) v1).put 2 (by simp) v2).put 3 (by simp) v3).put 4 (by simp) v4).put 5 (by simp) v5
theorem below6 {w0 w : World} {N b : Nat} (h : Below N w0 w) (hb : N ≤ b) (v0 v1 v2 v3 v4 v5 : Value) : Below N w0 (set6 w b v0 v1 v2 v3 v4 v5) :=
  (((((h.setCell (p := ⟨b, 0, none⟩) hb v0).setCell (p := ⟨b, 1, none⟩) hb v1).setCell (p := ⟨b, 2, none⟩) hb v2).setCell (p := ⟨b, 3, none⟩) hb v3).setCell (p := ⟨b, 4, none⟩) hb v4).setCell (p := ⟨b, 5, none⟩) hb v5

set_option maxRecDepth 100000 in
set_option maxHeartbeats 2000000 in
theorem specSplit (i k m n g r : Int) (w : World) :
    Calls Try.prog 10 #[pval i k m n g r] w (fun e w' => e = .returned (.tuple #[if spOk i k m n g r = true then pval i k m n (g * 2) r else pval 0 0 0 0 0 0, .int .i64 (spC i k m n g r)]) ∧ Below w.heap.size w w') := by
  have X := Lib.hid ((BxN.new w #[.int .i64 i, .int .i64 k, .int .i64 m, .int .i64 n, .int .i64 g, .int .i64 r] 34).later (lay _ (.cells #[.int .i64 0, .int .i64 0, .int .i64 0, .int .i64 0, .int .i64 0, .int .i64 0] 34)))
  have Y := BxN.new (w.alloc (.cells #[.int .i64 i, .int .i64 k, .int .i64 m, .int .i64 n, .int .i64 g, .int .i64 r] 34)) #[.int .i64 0, .int .i64 0, .int .i64 0, .int .i64 0, .int .i64 0, .int .i64 0] 34
  rw [World.size_alloc] at Y
  have Y := Lib.hid Y
  have L := Lib.hid (chain (lay w (.cells #[.int .i64 i, .int .i64 k, .int .i64 m, .int .i64 n, .int .i64 g, .int .i64 r] 34)) (lay _ (.cells #[.int .i64 0, .int .i64 0, .int .i64 0, .int .i64 0, .int .i64 0, .int .i64 0] 34)))
  have O := l09OK i k m n g r
  unfold spOk spC
  cases q : okP i k m n g r
  · simp only [Bool.false_and, Bool.false_eq_true, if_false]
    rw [q] at O
    have O := Lib.hid O
    clear q
    go_enter Try.func10, Try.ntmps10
    go_wp2_with fail
    refine (O.out _).mono ?_
    rintro e w1 ⟨rfl, b1⟩
    have X1 := X.out.later b1
    have Y1 := Y.out.later b1
    have B1 := Lib.hid (chain L.out b1)
    have x0 := X1.cells 0 _ rfl
    have y0 := Y1.cells 0 _ rfl
    have yf0 := Y1.free 0
    have x1 := X1.cells 1 _ rfl
    have y1 := Y1.cells 1 _ rfl
    have yf1 := Y1.free 1
    have x2 := X1.cells 2 _ rfl
    have y2 := Y1.cells 2 _ rfl
    have yf2 := Y1.free 2
    have x3 := X1.cells 3 _ rfl
    have y3 := Y1.cells 3 _ rfl
    have yf3 := Y1.free 3
    have x4 := X1.cells 4 _ rfl
    have y4 := Y1.cells 4 _ rfl
    have yf4 := Y1.free 4
    have x5 := X1.cells 5 _ rfl
    have y5 := Y1.cells 5 _ rfl
    have yf5 := Y1.free 5
    have xf4 := X1.free 4
    have Z := Lib.hid (put6 Y1 (.int .i64 0) (.int .i64 0) (.int .i64 0) (.int .i64 0) (.int .i64 0) (.int .i64 0))
    have F := Lib.hid (below6 B1.out (b := w.heap.size + 1) (by omega) (.int .i64 0) (.int .i64 0) (.int .i64 0) (.int .i64 0) (.int .i64 0) (.int .i64 0))
    clear b1 X1 Y1
    go_wp2
    have z0 := Z.out.cells 0 _ rfl
    have z1 := Z.out.cells 1 _ rfl
    have z2 := Z.out.cells 2 _ rfl
    have z3 := Z.out.cells 3 _ rfl
    have z4 := Z.out.cells 4 _ rfl
    have z5 := Z.out.cells 5 _ rfl
    exact bodyPost_ret (v := .tuple #[pval 0 0 0 0 0 0, .int .i64 1]) (by simp [results, Try.results10, go_sem, *]) rfl ⟨rfl, F.out⟩
  · obtain ⟨_, _, _, ⟨g0, g1⟩, _⟩ := okP_out q
    rw [q] at O
    have O := Lib.hid O
    clear q
    have W1 : IntKind.i64.wrap (g * 2) = g * 2 := by rw [IntKind.wrap_i64]; omega
    have W2 : IntKind.i64.wrap (2 * g) = 2 * g := by rw [IntKind.wrap_i64]; omega
    by_cases h : 2 * g ≤ 16
    · simp only [decide_eq_true h, Bool.and_self, if_true, if_pos h]
      go_enter Try.func10, Try.ntmps10
      go_wp2_with fail
      refine (O.out _).mono ?_
      rintro e w1 ⟨rfl, b1⟩
      have X1 := X.out.later b1
      have Y1 := Y.out.later b1
      have B1 := Lib.hid (chain L.out b1)
      have x0 := X1.cells 0 _ rfl
      have y0 := Y1.cells 0 _ rfl
      have yf0 := Y1.free 0
      have x1 := X1.cells 1 _ rfl
      have y1 := Y1.cells 1 _ rfl
      have yf1 := Y1.free 1
      have x2 := X1.cells 2 _ rfl
      have y2 := Y1.cells 2 _ rfl
      have yf2 := Y1.free 2
      have x3 := X1.cells 3 _ rfl
      have y3 := Y1.cells 3 _ rfl
      have yf3 := Y1.free 3
      have x4 := X1.cells 4 _ rfl
      have y4 := Y1.cells 4 _ rfl
      have yf4 := Y1.free 4
      have x5 := X1.cells 5 _ rfl
      have y5 := Y1.cells 5 _ rfl
      have yf5 := Y1.free 5
      have xf4 := X1.free 4
      have Y2 := Y1.far (p := ⟨w.heap.size, 4, none⟩) (by dsimp only; omega) (.int .i64 (g * 2))
      have B2 := Lib.hid (B1.out.setCell (p := ⟨w.heap.size, 4, none⟩) (Nat.le_refl _) (.int .i64 (g * 2)))
      have Z := Lib.hid (put6 Y2 (.int .i64 i) (.int .i64 k) (.int .i64 m) (.int .i64 n) (.int .i64 (g * 2)) (.int .i64 r))
      have F := Lib.hid (below6 B2.out (b := w.heap.size + 1) (by omega) (.int .i64 i) (.int .i64 k) (.int .i64 m) (.int .i64 n) (.int .i64 (g * 2)) (.int .i64 r))
      clear b1 X1 Y1 Y2
      go_wp2
      have z0 := Z.out.cells 0 _ rfl
      have z1 := Z.out.cells 1 _ rfl
      have z2 := Z.out.cells 2 _ rfl
      have z3 := Z.out.cells 3 _ rfl
      have z4 := Z.out.cells 4 _ rfl
      have z5 := Z.out.cells 5 _ rfl
      exact bodyPost_ret (v := .tuple #[pval i k m n (g * 2) r, .int .i64 0]) (by simp [results, Try.results10, go_sem, *]) rfl ⟨rfl, F.out⟩
    · simp only [decide_eq_false h, Bool.and_false, Bool.false_eq_true, if_false, if_true, if_neg h]
      go_enter Try.func10, Try.ntmps10
      go_wp2_with fail
      refine (O.out _).mono ?_
      rintro e w1 ⟨rfl, b1⟩
      have X1 := X.out.later b1
      have Y1 := Y.out.later b1
      have B1 := Lib.hid (chain L.out b1)
      have x0 := X1.cells 0 _ rfl
      have y0 := Y1.cells 0 _ rfl
      have yf0 := Y1.free 0
      have x1 := X1.cells 1 _ rfl
      have y1 := Y1.cells 1 _ rfl
      have yf1 := Y1.free 1
      have x2 := X1.cells 2 _ rfl
      have y2 := Y1.cells 2 _ rfl
      have yf2 := Y1.free 2
      have x3 := X1.cells 3 _ rfl
      have y3 := Y1.cells 3 _ rfl
      have yf3 := Y1.free 3
      have x4 := X1.cells 4 _ rfl
      have y4 := Y1.cells 4 _ rfl
      have yf4 := Y1.free 4
      have x5 := X1.cells 5 _ rfl
      have y5 := Y1.cells 5 _ rfl
      have yf5 := Y1.free 5
      have xf4 := X1.free 4
      have Z := Lib.hid (put6 Y1 (.int .i64 0) (.int .i64 0) (.int .i64 0) (.int .i64 0) (.int .i64 0) (.int .i64 0))
      have F := Lib.hid (below6 B1.out (b := w.heap.size + 1) (by omega) (.int .i64 0) (.int .i64 0) (.int .i64 0) (.int .i64 0) (.int .i64 0) (.int .i64 0))
      clear b1 X1 Y1
      go_wp2
      have z0 := Z.out.cells 0 _ rfl
      have z1 := Z.out.cells 1 _ rfl
      have z2 := Z.out.cells 2 _ rfl
      have z3 := Z.out.cells 3 _ rfl
      have z4 := Z.out.cells 4 _ rfl
      have z5 := Z.out.cells 5 _ rfl
      exact bodyPost_ret (v := .tuple #[pval 0 0 0 0 0 0, .int .i64 4]) (by simp [results, Try.results10, go_sem, *]) rfl ⟨rfl, F.out⟩

set_option maxRecDepth 100000 in
set_option maxHeartbeats 2000000 in
theorem implSplit (i k m n g r : Int) (w : World) :
    Calls Try.prog 12 #[pval i k m n g r] w (fun e w' => e = .returned (.tuple #[if spOk i k m n g r = true then pval i k m n (g * 2) r else pval 0 0 0 0 0 0, .int .i64 (spC i k m n g r)]) ∧ Below w.heap.size w w') := by
  have X := Lib.hid ((BxN.new w #[.int .i64 i, .int .i64 k, .int .i64 m, .int .i64 n, .int .i64 g, .int .i64 r] 34).later (lay _ (.cells #[.int .i64 0, .int .i64 0, .int .i64 0, .int .i64 0, .int .i64 0, .int .i64 0] 34)))
  have Y := BxN.new (w.alloc (.cells #[.int .i64 i, .int .i64 k, .int .i64 m, .int .i64 n, .int .i64 g, .int .i64 r] 34)) #[.int .i64 0, .int .i64 0, .int .i64 0, .int .i64 0, .int .i64 0, .int .i64 0] 34
  rw [World.size_alloc] at Y
  have Y := Lib.hid Y
  have L := Lib.hid (chain (lay w (.cells #[.int .i64 i, .int .i64 k, .int .i64 m, .int .i64 n, .int .i64 g, .int .i64 r] 34)) (lay _ (.cells #[.int .i64 0, .int .i64 0, .int .i64 0, .int .i64 0, .int .i64 0, .int .i64 0] 34)))
  have O := implPoolOk i k m n g r
  unfold spOk spC
  cases q : okP i k m n g r
  · simp only [Bool.false_and, Bool.false_eq_true, if_false]
    rw [q] at O
    have O := Lib.hid O
    clear q
    go_enter Try.func12, Try.ntmps12
    go_wp2_with fail
    refine (O.out _).mono ?_
    rintro e w1 ⟨rfl, b1⟩
    have X1 := X.out.later b1
    have Y1 := Y.out.later b1
    have B1 := Lib.hid (chain L.out b1)
    have x0 := X1.cells 0 _ rfl
    have y0 := Y1.cells 0 _ rfl
    have yf0 := Y1.free 0
    have x1 := X1.cells 1 _ rfl
    have y1 := Y1.cells 1 _ rfl
    have yf1 := Y1.free 1
    have x2 := X1.cells 2 _ rfl
    have y2 := Y1.cells 2 _ rfl
    have yf2 := Y1.free 2
    have x3 := X1.cells 3 _ rfl
    have y3 := Y1.cells 3 _ rfl
    have yf3 := Y1.free 3
    have x4 := X1.cells 4 _ rfl
    have y4 := Y1.cells 4 _ rfl
    have yf4 := Y1.free 4
    have x5 := X1.cells 5 _ rfl
    have y5 := Y1.cells 5 _ rfl
    have yf5 := Y1.free 5
    have xf4 := X1.free 4
    have Z := Lib.hid (put6 Y1 (.int .i64 0) (.int .i64 0) (.int .i64 0) (.int .i64 0) (.int .i64 0) (.int .i64 0))
    have F := Lib.hid (below6 B1.out (b := w.heap.size + 1) (by omega) (.int .i64 0) (.int .i64 0) (.int .i64 0) (.int .i64 0) (.int .i64 0) (.int .i64 0))
    clear b1 X1 Y1
    go_wp2
    have z0 := Z.out.cells 0 _ rfl
    have z1 := Z.out.cells 1 _ rfl
    have z2 := Z.out.cells 2 _ rfl
    have z3 := Z.out.cells 3 _ rfl
    have z4 := Z.out.cells 4 _ rfl
    have z5 := Z.out.cells 5 _ rfl
    exact bodyPost_ret (v := .tuple #[pval 0 0 0 0 0 0, .int .i64 1]) (by simp [results, Try.results12, go_sem, *]) rfl ⟨rfl, F.out⟩
  · obtain ⟨_, _, _, ⟨g0, g1⟩, _⟩ := okP_out q
    rw [q] at O
    have O := Lib.hid O
    clear q
    have W1 : IntKind.i64.wrap (g * 2) = g * 2 := by rw [IntKind.wrap_i64]; omega
    have W2 : IntKind.i64.wrap (2 * g) = 2 * g := by rw [IntKind.wrap_i64]; omega
    by_cases h : 2 * g ≤ 16
    · simp only [decide_eq_true h, Bool.and_self, if_true, if_pos h]
      go_enter Try.func12, Try.ntmps12
      go_wp2_with fail
      refine (O.out _).mono ?_
      rintro e w1 ⟨rfl, b1⟩
      have X1 := X.out.later b1
      have Y1 := Y.out.later b1
      have B1 := Lib.hid (chain L.out b1)
      have x0 := X1.cells 0 _ rfl
      have y0 := Y1.cells 0 _ rfl
      have yf0 := Y1.free 0
      have x1 := X1.cells 1 _ rfl
      have y1 := Y1.cells 1 _ rfl
      have yf1 := Y1.free 1
      have x2 := X1.cells 2 _ rfl
      have y2 := Y1.cells 2 _ rfl
      have yf2 := Y1.free 2
      have x3 := X1.cells 3 _ rfl
      have y3 := Y1.cells 3 _ rfl
      have yf3 := Y1.free 3
      have x4 := X1.cells 4 _ rfl
      have y4 := Y1.cells 4 _ rfl
      have yf4 := Y1.free 4
      have x5 := X1.cells 5 _ rfl
      have y5 := Y1.cells 5 _ rfl
      have yf5 := Y1.free 5
      have xf4 := X1.free 4
      have Y2 := Y1.far (p := ⟨w.heap.size, 4, none⟩) (by dsimp only; omega) (.int .i64 (g * 2))
      have B2 := Lib.hid (B1.out.setCell (p := ⟨w.heap.size, 4, none⟩) (Nat.le_refl _) (.int .i64 (g * 2)))
      have Z := Lib.hid (put6 Y2 (.int .i64 i) (.int .i64 k) (.int .i64 m) (.int .i64 n) (.int .i64 (g * 2)) (.int .i64 r))
      have F := Lib.hid (below6 B2.out (b := w.heap.size + 1) (by omega) (.int .i64 i) (.int .i64 k) (.int .i64 m) (.int .i64 n) (.int .i64 (g * 2)) (.int .i64 r))
      clear b1 X1 Y1 Y2
      go_wp2
      have z0 := Z.out.cells 0 _ rfl
      have z1 := Z.out.cells 1 _ rfl
      have z2 := Z.out.cells 2 _ rfl
      have z3 := Z.out.cells 3 _ rfl
      have z4 := Z.out.cells 4 _ rfl
      have z5 := Z.out.cells 5 _ rfl
      exact bodyPost_ret (v := .tuple #[pval i k m n (g * 2) r, .int .i64 0]) (by simp [results, Try.results12, go_sem, *]) rfl ⟨rfl, F.out⟩
    · simp only [decide_eq_false h, Bool.and_false, Bool.false_eq_true, if_false, if_true, if_neg h]
      go_enter Try.func12, Try.ntmps12
      go_wp2_with fail
      refine (O.out _).mono ?_
      rintro e w1 ⟨rfl, b1⟩
      have X1 := X.out.later b1
      have Y1 := Y.out.later b1
      have B1 := Lib.hid (chain L.out b1)
      have x0 := X1.cells 0 _ rfl
      have y0 := Y1.cells 0 _ rfl
      have yf0 := Y1.free 0
      have x1 := X1.cells 1 _ rfl
      have y1 := Y1.cells 1 _ rfl
      have yf1 := Y1.free 1
      have x2 := X1.cells 2 _ rfl
      have y2 := Y1.cells 2 _ rfl
      have yf2 := Y1.free 2
      have x3 := X1.cells 3 _ rfl
      have y3 := Y1.cells 3 _ rfl
      have yf3 := Y1.free 3
      have x4 := X1.cells 4 _ rfl
      have y4 := Y1.cells 4 _ rfl
      have yf4 := Y1.free 4
      have x5 := X1.cells 5 _ rfl
      have y5 := Y1.cells 5 _ rfl
      have yf5 := Y1.free 5
      have xf4 := X1.free 4
      have Y2 := Y1.far (p := ⟨w.heap.size, 4, none⟩) (by dsimp only; omega) (.int .i64 (g * 2))
      have B2 := Lib.hid (B1.out.setCell (p := ⟨w.heap.size, 4, none⟩) (Nat.le_refl _) (.int .i64 (g * 2)))
      have Z := Lib.hid (put6 Y2 (.int .i64 0) (.int .i64 0) (.int .i64 0) (.int .i64 0) (.int .i64 0) (.int .i64 0))
      have F := Lib.hid (below6 B2.out (b := w.heap.size + 1) (by omega) (.int .i64 0) (.int .i64 0) (.int .i64 0) (.int .i64 0) (.int .i64 0) (.int .i64 0))
      clear b1 X1 Y1 Y2
      go_wp2
      have z0 := Z.out.cells 0 _ rfl
      have z1 := Z.out.cells 1 _ rfl
      have z2 := Z.out.cells 2 _ rfl
      have z3 := Z.out.cells 3 _ rfl
      have z4 := Z.out.cells 4 _ rfl
      have z5 := Z.out.cells 5 _ rfl
      exact bodyPost_ret (v := .tuple #[pval 0 0 0 0 0 0, .int .i64 4]) (by simp [results, Try.results12, go_sem, *]) rfl ⟨rfl, F.out⟩

set_option maxRecDepth 100000 in
set_option maxHeartbeats 2000000 in
theorem fnSplit (i k m n g r : Int) (w : World) (w0 : True) :
    Calls Try.prog 4 #[pval i k m n g r] w fun e w' => e = .returned (.bool true) ∧ Below w.heap.size w w' := by
  have X := Lib.hid (BxN.new w #[.int .i64 i, .int .i64 k, .int .i64 m, .int .i64 n, .int .i64 g, .int .i64 r] 31)
  have L := Lib.hid (lay w (.cells #[.int .i64 i, .int .i64 k, .int .i64 m, .int .i64 n, .int .i64 g, .int .i64 r] 31))
  have T := Lib.hid (toPool i k m n g r)
  have S := specSplit i k m n g r
  have I := implSplit i k m n g r
  clear w0
  obtain ⟨i', k', m', n', g', r', hv⟩ : ∃ i' k' m' n' g' r', (if spOk i k m n g r = true then pval i k m n (g * 2) r else pval 0 0 0 0 0 0) = pval i' k' m' n' g' r' := by
    split
    · exact ⟨_, _, _, _, _, _, rfl⟩
    · exact ⟨_, _, _, _, _, _, rfl⟩
  rw [hv] at S I
  have S := Lib.hid S
  have I := Lib.hid I
  have Q := Lib.hid (eqPool i' k' m' n' g' r')
  clear hv
  generalize spC i k m n g r = c at *
  go_enter Try.func4, Try.ntmps4
  go_wp2_with fail
  refine (T.out _).mono ?_
  rintro e w1 ⟨rfl, b1⟩
  have B1 := Lib.hid (chain L.out b1)
  have X1 := Lib.hid (X.out.later b1)
  clear b1
  go_wp2_with fail
  refine (S.out _).mono ?_
  rintro e w2 ⟨rfl, b2⟩
  have L2 := Lib.hid (lay w2 (.cells #[.int .i64 i', .int .i64 k', .int .i64 m', .int .i64 n', .int .i64 g', .int .i64 r'] 34))
  have N2 := Lib.hid (BxN.new w2 #[.int .i64 i', .int .i64 k', .int .i64 m', .int .i64 n', .int .i64 g', .int .i64 r'] 34)
  have B2 := Lib.hid (chain (chain B1.out b2) L2.out)
  have X2 := (X1.out.later b2).later L2.out
  have x0 := X2.cells 0 _ rfl
  have x1 := X2.cells 1 _ rfl
  have x2 := X2.cells 2 _ rfl
  have x3 := X2.cells 3 _ rfl
  have x4 := X2.cells 4 _ rfl
  have x5 := X2.cells 5 _ rfl
  clear b2 X2
  go_wp2_with fail
  refine (T.out _).mono ?_
  rintro e w3 ⟨rfl, b3⟩
  have B3 := Lib.hid (chain B2.out b3)
  have N3 := Lib.hid (N2.out.later b3)
  clear b3
  go_wp2_with fail
  refine (I.out _).mono ?_
  rintro e w4 ⟨rfl, b4⟩
  have L4 := Lib.hid (lay w4 (.cells #[.int .i64 i', .int .i64 k', .int .i64 m', .int .i64 n', .int .i64 g', .int .i64 r'] 34))
  have B4 := Lib.hid (chain (chain B3.out b4) L4.out)
  have N4 := (N3.out.later b4).later L4.out
  have n0 := N4.cells 0 _ rfl
  have n1 := N4.cells 1 _ rfl
  have n2 := N4.cells 2 _ rfl
  have n3 := N4.cells 3 _ rfl
  have n4 := N4.cells 4 _ rfl
  have n5 := N4.cells 5 _ rfl
  clear b4 N4
  go_wp2_with fail
  refine (Q.out _).mono ?_
  rintro e w5 ⟨rfl, b5⟩
  have B5 := Lib.hid (chain B4.out b5)
  clear b5
  go_wp2
  go_ret
  exact ⟨rfl, B5.out⟩
end Go.Proofs.Ytmpncbbecgljkaa.Po
