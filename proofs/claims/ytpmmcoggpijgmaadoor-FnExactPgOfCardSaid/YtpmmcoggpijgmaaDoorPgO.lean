/-
  The placement group of an object: the program and the model (written by tools/gen/pgof.py).
-/
import Derived.Test.YtpmmcoggpijgmaaDoorHsh
import Derived.Test.YtpmmcoggpijgmaaDoorDPg
import Derived.Test.YtpmmcoggpijgmaaDoorDPool
namespace Go.Proofs.YtpmmcoggpijgmaaDoor.Po
open Go.RowKit Go.Lib Go.Proofs.YtpmmcoggpijgmaaDoor.Nam Go.Proofs.YtpmmcoggpijgmaaDoor.GfI Go.Proofs.YtpmmcoggpijgmaaDoor.GfS
open Go.Proofs.YtpmmcoggpijgmaaDoor.Rd (RetW chainX undrewX)
open Go.Proofs.YtpmmcoggpijgmaaDoor.Sg (BxN)
set_option linter.unusedVariables false
set_option linter.unusedSimpArgs false

set_option maxRecDepth 100000 in
set_option maxHeartbeats 4000000 in
theorem specPgOf_pool (i k m n g r : Int) (s : ByteArray) (w : World) (h1 : okP i k m n g r = false) :
    Calls Tryd.prog 4 #[pval i k m n g r, .string s] w (RetW (.tuple #[.agg #[.int .i64 0, .int .i64 0], .bool false]) w) := by
  have OK := Lib.hid (fun w' => l09OK i k m n g r w')
  rw [h1] at OK
  clear h1
  have BH := Lib.hid (chainX w (lay1 w (.cells #[.int .i64 i, .int .i64 k, .int .i64 m, .int .i64 n, .int .i64 g, .int .i64 r] 32)) (lay1 _ (.cells #[.int .i64 0, .int .i64 0] 27)))
  have PH := Lib.hid ((BxN.new w #[.int .i64 i, .int .i64 k, .int .i64 m, .int .i64 n, .int .i64 g, .int .i64 r] 32).later (lay1 _ (.cells #[.int .i64 0, .int .i64 0] 27)))
  have G0 := BxN.new (w.alloc (.cells #[.int .i64 i, .int .i64 k, .int .i64 m, .int .i64 n, .int .i64 g, .int .i64 r] 32)) #[.int .i64 0, .int .i64 0] 27
  rw [World.size_alloc] at G0
  have GH := Lib.hid G0
  clear G0
  go_enter Tryd.func4, Tryd.ntmps4
  go_wp2_with fail
  refine (OK.out _).mono ?_
  rintro e w2 ⟨rfl, b2⟩
  have b9 := b2; (try replace b9 := undrewX b9); have PH := Lib.hid (PH.out.later b9); have GH := Lib.hid (GH.out.later b9); have BH := Lib.hid (chainX w BH.out b9); clear b9 b2; have p0 := PH.out.cells 0 _ rfl; have p1 := PH.out.cells 1 _ rfl; have p2 := PH.out.cells 2 _ rfl; have p3 := PH.out.cells 3 _ rfl; have p4 := PH.out.cells 4 _ rfl; have p5 := PH.out.cells 5 _ rfl; have q0 := GH.out.cells 0 _ rfl; have q1 := GH.out.cells 1 _ rfl; have gf := GH.out.free
  have FH := Lib.hid (show RetW (.tuple #[.agg #[.int .i64 0, .int .i64 0], .bool false]) w (.returned (.tuple #[.agg #[.int .i64 0, .int .i64 0], .bool false])) ((w2.setCell ⟨w.heap.size + 1, 0, none⟩ (.int .i64 0)).setCell ⟨w.heap.size + 1, 1, none⟩ (.int .i64 0)) from ⟨rfl, Below.setCell (p := ⟨w.heap.size + 1, 1, none⟩) (Below.setCell (p := ⟨w.heap.size + 1, 0, none⟩) BH.out (Nat.le_succ _) _) (Nat.le_succ _) _⟩)
  go_wp2
  exact bodyPost_ret (v := .tuple #[.agg #[.int .i64 0, .int .i64 0], .bool false]) (by simp [results, Tryd.results4, go_sem, *] <;> rfl) rfl FH.out
set_option maxRecDepth 100000 in
set_option maxHeartbeats 4000000 in
theorem specPgOf_name (i k m n g r : Int) (s : ByteArray) (w : World) (h1 : okP i k m n g r = true) (h2 : nameB s = false) :
    Calls Tryd.prog 4 #[pval i k m n g r, .string s] w (RetW (.tuple #[.agg #[.int .i64 0, .int .i64 0], .bool false]) w) := by
  have OK := Lib.hid (fun w' => l09OK i k m n g r w')
  rw [h1] at OK
  have NA := Lib.hid (fun w' => specName s w')
  rw [h2] at NA
  clear h1
  clear h2
  have BH := Lib.hid (chainX w (lay1 w (.cells #[.int .i64 i, .int .i64 k, .int .i64 m, .int .i64 n, .int .i64 g, .int .i64 r] 32)) (lay1 _ (.cells #[.int .i64 0, .int .i64 0] 27)))
  have PH := Lib.hid ((BxN.new w #[.int .i64 i, .int .i64 k, .int .i64 m, .int .i64 n, .int .i64 g, .int .i64 r] 32).later (lay1 _ (.cells #[.int .i64 0, .int .i64 0] 27)))
  have G0 := BxN.new (w.alloc (.cells #[.int .i64 i, .int .i64 k, .int .i64 m, .int .i64 n, .int .i64 g, .int .i64 r] 32)) #[.int .i64 0, .int .i64 0] 27
  rw [World.size_alloc] at G0
  have GH := Lib.hid G0
  clear G0
  go_enter Tryd.func4, Tryd.ntmps4
  go_wp2_with fail
  refine (OK.out _).mono ?_
  rintro e w2 ⟨rfl, b2⟩
  have b9 := b2; (try replace b9 := undrewX b9); have PH := Lib.hid (PH.out.later b9); have GH := Lib.hid (GH.out.later b9); have BH := Lib.hid (chainX w BH.out b9); clear b9 b2; have p0 := PH.out.cells 0 _ rfl; have p1 := PH.out.cells 1 _ rfl; have p2 := PH.out.cells 2 _ rfl; have p3 := PH.out.cells 3 _ rfl; have p4 := PH.out.cells 4 _ rfl; have p5 := PH.out.cells 5 _ rfl; have q0 := GH.out.cells 0 _ rfl; have q1 := GH.out.cells 1 _ rfl; have gf := GH.out.free
  go_wp2_with fail
  refine (NA.out _).mono ?_
  rintro e w3 ⟨rfl, rfl⟩
  have FH := Lib.hid (show RetW (.tuple #[.agg #[.int .i64 0, .int .i64 0], .bool false]) w (.returned (.tuple #[.agg #[.int .i64 0, .int .i64 0], .bool false])) ((w2.setCell ⟨w.heap.size + 1, 0, none⟩ (.int .i64 0)).setCell ⟨w.heap.size + 1, 1, none⟩ (.int .i64 0)) from ⟨rfl, Below.setCell (p := ⟨w.heap.size + 1, 1, none⟩) (Below.setCell (p := ⟨w.heap.size + 1, 0, none⟩) BH.out (Nat.le_succ _) _) (Nat.le_succ _) _⟩)
  go_wp2
  exact bodyPost_ret (v := .tuple #[.agg #[.int .i64 0, .int .i64 0], .bool false]) (by simp [results, Tryd.results4, go_sem, *] <;> rfl) rfl FH.out
set_option maxRecDepth 100000 in
set_option maxHeartbeats 4000000 in
theorem specPgOf_ok (i k m n g r : Int) (s : ByteArray) (w : World) (h1 : okP i k m n g r = true) (h2 : nameB s = true) :
    Calls Tryd.prog 4 #[pval i k m n g r, .string s] w (RetW (.tuple #[.agg #[.int .i64 i, .int .i64 (hsh s % g)], .bool true]) w) := by
  have OK := Lib.hid (fun w' => l09OK i k m n g r w')
  rw [h1] at OK
  have NA := Lib.hid (fun w' => specName s w')
  rw [h2] at NA
  have G := (okP_out h1).2.2.2.1
  have Z : 1 ≤ s.size ∧ s.size ≤ 8 := by unfold nameB at h2; rw [Bool.and_eq_true] at h2; have := of_decide_eq_true h2.1; omega
  have NO := Lib.hid (fun w' => l09No i k m n g r s Z.1 Z.2 G.1 G.2 w')
  generalize hsh s = H at *
  clear h1
  clear h2
  clear G Z
  have BH := Lib.hid (chainX w (lay1 w (.cells #[.int .i64 i, .int .i64 k, .int .i64 m, .int .i64 n, .int .i64 g, .int .i64 r] 32)) (lay1 _ (.cells #[.int .i64 0, .int .i64 0] 27)))
  have PH := Lib.hid ((BxN.new w #[.int .i64 i, .int .i64 k, .int .i64 m, .int .i64 n, .int .i64 g, .int .i64 r] 32).later (lay1 _ (.cells #[.int .i64 0, .int .i64 0] 27)))
  have G0 := BxN.new (w.alloc (.cells #[.int .i64 i, .int .i64 k, .int .i64 m, .int .i64 n, .int .i64 g, .int .i64 r] 32)) #[.int .i64 0, .int .i64 0] 27
  rw [World.size_alloc] at G0
  have GH := Lib.hid G0
  clear G0
  go_enter Tryd.func4, Tryd.ntmps4
  go_wp2_with fail
  refine (OK.out _).mono ?_
  rintro e w2 ⟨rfl, b2⟩
  have b9 := b2; (try replace b9 := undrewX b9); have PH := Lib.hid (PH.out.later b9); have GH := Lib.hid (GH.out.later b9); have BH := Lib.hid (chainX w BH.out b9); clear b9 b2; have p0 := PH.out.cells 0 _ rfl; have p1 := PH.out.cells 1 _ rfl; have p2 := PH.out.cells 2 _ rfl; have p3 := PH.out.cells 3 _ rfl; have p4 := PH.out.cells 4 _ rfl; have p5 := PH.out.cells 5 _ rfl; have q0 := GH.out.cells 0 _ rfl; have q1 := GH.out.cells 1 _ rfl; have gf := GH.out.free
  go_wp2_with fail
  refine (NA.out _).mono ?_
  rintro e w3 ⟨rfl, rfl⟩
  go_wp2_with fail
  go_region_held3 (fun w' => w'.cell? ⟨w.heap.size, 0, none⟩ = some (.int .i64 i) ∧ w'.cell? ⟨w.heap.size, 1, none⟩ = some (.int .i64 k) ∧ w'.cell? ⟨w.heap.size, 2, none⟩ = some (.int .i64 m) ∧ w'.cell? ⟨w.heap.size, 3, none⟩ = some (.int .i64 n) ∧ w'.cell? ⟨w.heap.size, 4, none⟩ = some (.int .i64 g) ∧ w'.cell? ⟨w.heap.size, 5, none⟩ = some (.int .i64 r)) (go_keep)
    ((first | (go_at_call 10; refine (NO.out _).mono ?_; rintro e w5 ⟨rfl, b2⟩; have b9 := b2; (try replace b9 := undrewX b9); have PH := Lib.hid (PH.out.later b9); have GH := Lib.hid (GH.out.later b9); have BH := Lib.hid (chainX w BH.out b9); clear b9 b2; have p0 := PH.out.cells 0 _ rfl; have p1 := PH.out.cells 1 _ rfl; have p2 := PH.out.cells 2 _ rfl; have p3 := PH.out.cells 3 _ rfl; have p4 := PH.out.cells 4 _ rfl; have p5 := PH.out.cells 5 _ rfl; have q0 := GH.out.cells 0 _ rfl; have q1 := GH.out.cells 1 _ rfl; have gf := GH.out.free)))
  all_goals
    have FH := Lib.hid (show ∀ u v W, Below w5.heap.size w5 W → RetW (.tuple #[.agg #[.int .i64 i, .int .i64 (H % g)], .bool true]) w (.returned (.tuple #[.agg #[.int .i64 i, .int .i64 (H % g)], .bool true])) ((W.setCell ⟨w.heap.size + 1, 0, none⟩ u).setCell ⟨w.heap.size + 1, 1, none⟩ v) from fun u v W b => ⟨rfl, Below.setCell (p := ⟨w.heap.size + 1, 1, none⟩) (Below.setCell (p := ⟨w.heap.size + 1, 0, none⟩) (chainX w BH.out b) (Nat.le_succ _) _) (Nat.le_succ _) _⟩)
    go_wp2
    exact bodyPost_ret (v := .tuple #[.agg #[.int .i64 i, .int .i64 (H % g)], .bool true]) (by simp [results, Tryd.results4, go_sem, *] <;> rfl) rfl (FH.out _ _ _ (Below.refl _ _))
set_option maxRecDepth 100000 in
set_option maxHeartbeats 4000000 in
theorem implPgOf_pool (i k m n g r : Int) (s : ByteArray) (w : World) (hs : s.size ≤ 9223372036854775807) (hT : Tabs w) (h1 : okP i k m n g r = false) :
    Calls Tryd.prog 6 #[pval i k m n g r, .string s] w (RetW (.tuple #[.agg #[.int .i64 0, .int .i64 0], .bool false]) w) := by
  have OK := Lib.hid (fun w' => implPoolOk i k m n g r w')
  rw [h1] at OK
  clear h1
  clear hT hs
  have BH := Lib.hid (chainX w (lay1 w (.cells #[.int .i64 i, .int .i64 k, .int .i64 m, .int .i64 n, .int .i64 g, .int .i64 r] 32)) (lay1 _ (.cells #[.int .i64 0, .int .i64 0] 27)))
  have PH := Lib.hid ((BxN.new w #[.int .i64 i, .int .i64 k, .int .i64 m, .int .i64 n, .int .i64 g, .int .i64 r] 32).later (lay1 _ (.cells #[.int .i64 0, .int .i64 0] 27)))
  have G0 := BxN.new (w.alloc (.cells #[.int .i64 i, .int .i64 k, .int .i64 m, .int .i64 n, .int .i64 g, .int .i64 r] 32)) #[.int .i64 0, .int .i64 0] 27
  rw [World.size_alloc] at G0
  have GH := Lib.hid G0
  clear G0
  go_enter Tryd.func6, Tryd.ntmps6
  go_wp2_with fail
  refine (OK.out _).mono ?_
  rintro e w2 ⟨rfl, b2⟩
  have b9 := b2; (try replace b9 := undrewX b9); have PH := Lib.hid (PH.out.later b9); have GH := Lib.hid (GH.out.later b9); have BH := Lib.hid (chainX w BH.out b9); clear b9 b2; have p0 := PH.out.cells 0 _ rfl; have p1 := PH.out.cells 1 _ rfl; have p2 := PH.out.cells 2 _ rfl; have p3 := PH.out.cells 3 _ rfl; have p4 := PH.out.cells 4 _ rfl; have p5 := PH.out.cells 5 _ rfl; have q0 := GH.out.cells 0 _ rfl; have q1 := GH.out.cells 1 _ rfl; have gf := GH.out.free
  have FH := Lib.hid (show RetW (.tuple #[.agg #[.int .i64 0, .int .i64 0], .bool false]) w (.returned (.tuple #[.agg #[.int .i64 0, .int .i64 0], .bool false])) ((w2.setCell ⟨w.heap.size + 1, 0, none⟩ (.int .i64 0)).setCell ⟨w.heap.size + 1, 1, none⟩ (.int .i64 0)) from ⟨rfl, Below.setCell (p := ⟨w.heap.size + 1, 1, none⟩) (Below.setCell (p := ⟨w.heap.size + 1, 0, none⟩) BH.out (Nat.le_succ _) _) (Nat.le_succ _) _⟩)
  go_wp2
  exact bodyPost_ret (v := .tuple #[.agg #[.int .i64 0, .int .i64 0], .bool false]) (by simp [results, Tryd.results6, go_sem, *] <;> rfl) rfl FH.out
set_option maxRecDepth 100000 in
set_option maxHeartbeats 4000000 in
theorem implPgOf_name (i k m n g r : Int) (s : ByteArray) (w : World) (hs : s.size ≤ 9223372036854775807) (hT : Tabs w) (h1 : okP i k m n g r = true) (h2 : nameB s = false) :
    Calls Tryd.prog 6 #[pval i k m n g r, .string s] w (RetW (.tuple #[.agg #[.int .i64 0, .int .i64 0], .bool false]) w) := by
  have OK := Lib.hid (fun w' => implPoolOk i k m n g r w')
  rw [h1] at OK
  have NA := Lib.hid (fun w' (t : Below w.heap.size w w') => implNameOk s hs w' (Utf8Tabs_below hT t))
  rw [h2] at NA
  clear h1
  clear h2
  clear hT hs
  have BH := Lib.hid (chainX w (lay1 w (.cells #[.int .i64 i, .int .i64 k, .int .i64 m, .int .i64 n, .int .i64 g, .int .i64 r] 32)) (lay1 _ (.cells #[.int .i64 0, .int .i64 0] 27)))
  have PH := Lib.hid ((BxN.new w #[.int .i64 i, .int .i64 k, .int .i64 m, .int .i64 n, .int .i64 g, .int .i64 r] 32).later (lay1 _ (.cells #[.int .i64 0, .int .i64 0] 27)))
  have G0 := BxN.new (w.alloc (.cells #[.int .i64 i, .int .i64 k, .int .i64 m, .int .i64 n, .int .i64 g, .int .i64 r] 32)) #[.int .i64 0, .int .i64 0] 27
  rw [World.size_alloc] at G0
  have GH := Lib.hid G0
  clear G0
  go_enter Tryd.func6, Tryd.ntmps6
  go_wp2_with fail
  refine (OK.out _).mono ?_
  rintro e w2 ⟨rfl, b2⟩
  have b9 := b2; (try replace b9 := undrewX b9); have PH := Lib.hid (PH.out.later b9); have GH := Lib.hid (GH.out.later b9); have BH := Lib.hid (chainX w BH.out b9); clear b9 b2; have p0 := PH.out.cells 0 _ rfl; have p1 := PH.out.cells 1 _ rfl; have p2 := PH.out.cells 2 _ rfl; have p3 := PH.out.cells 3 _ rfl; have p4 := PH.out.cells 4 _ rfl; have p5 := PH.out.cells 5 _ rfl; have q0 := GH.out.cells 0 _ rfl; have q1 := GH.out.cells 1 _ rfl; have gf := GH.out.free
  go_wp2_with fail
  refine (NA.out _ BH.out).mono ?_
  rintro e w3 ⟨rfl, b2⟩
  have b9 := b2; (try replace b9 := undrewX b9); have PH := Lib.hid (PH.out.later b9); have GH := Lib.hid (GH.out.later b9); have BH := Lib.hid (chainX w BH.out b9); clear b9 b2; have p0 := PH.out.cells 0 _ rfl; have p1 := PH.out.cells 1 _ rfl; have p2 := PH.out.cells 2 _ rfl; have p3 := PH.out.cells 3 _ rfl; have p4 := PH.out.cells 4 _ rfl; have p5 := PH.out.cells 5 _ rfl; have q0 := GH.out.cells 0 _ rfl; have q1 := GH.out.cells 1 _ rfl; have gf := GH.out.free
  have FH := Lib.hid (show RetW (.tuple #[.agg #[.int .i64 0, .int .i64 0], .bool false]) w (.returned (.tuple #[.agg #[.int .i64 0, .int .i64 0], .bool false])) ((w3.setCell ⟨w.heap.size + 1, 0, none⟩ (.int .i64 0)).setCell ⟨w.heap.size + 1, 1, none⟩ (.int .i64 0)) from ⟨rfl, Below.setCell (p := ⟨w.heap.size + 1, 1, none⟩) (Below.setCell (p := ⟨w.heap.size + 1, 0, none⟩) BH.out (Nat.le_succ _) _) (Nat.le_succ _) _⟩)
  go_wp2
  exact bodyPost_ret (v := .tuple #[.agg #[.int .i64 0, .int .i64 0], .bool false]) (by simp [results, Tryd.results6, go_sem, *] <;> rfl) rfl FH.out
set_option maxRecDepth 100000 in
set_option maxHeartbeats 4000000 in
theorem implPgOf_ok (i k m n g r : Int) (s : ByteArray) (w : World) (hs : s.size ≤ 9223372036854775807) (hT : Tabs w) (h1 : okP i k m n g r = true) (h2 : nameB s = true) :
    Calls Tryd.prog 6 #[pval i k m n g r, .string s] w (RetW (.tuple #[.agg #[.int .i64 i, .int .i64 (hsh s % g)], .bool true]) w) := by
  have OK := Lib.hid (fun w' => implPoolOk i k m n g r w')
  rw [h1] at OK
  have NA := Lib.hid (fun w' (t : Below w.heap.size w w') => implNameOk s hs w' (Utf8Tabs_below hT t))
  rw [h2] at NA
  have G := (okP_out h1).2.2.2.1
  have Z : 1 ≤ s.size ∧ s.size ≤ 8 := by unfold nameB at h2; rw [Bool.and_eq_true] at h2; have := of_decide_eq_true h2.1; omega
  have NO := Lib.hid (fun w' => implHashOf s Z.2 w')
  have LT := hsh_lt s
  generalize hsh s = H at *
  have nz : ¬ g = 0 := by have := G.1; omega
  have tm : H.tmod g = H % g := Int.tmod_eq_emod_of_nonneg LT.1
  clear LT
  clear h1
  clear h2
  clear hT hs
  clear G Z
  have BH := Lib.hid (chainX w (lay1 w (.cells #[.int .i64 i, .int .i64 k, .int .i64 m, .int .i64 n, .int .i64 g, .int .i64 r] 32)) (lay1 _ (.cells #[.int .i64 0, .int .i64 0] 27)))
  have PH := Lib.hid ((BxN.new w #[.int .i64 i, .int .i64 k, .int .i64 m, .int .i64 n, .int .i64 g, .int .i64 r] 32).later (lay1 _ (.cells #[.int .i64 0, .int .i64 0] 27)))
  have G0 := BxN.new (w.alloc (.cells #[.int .i64 i, .int .i64 k, .int .i64 m, .int .i64 n, .int .i64 g, .int .i64 r] 32)) #[.int .i64 0, .int .i64 0] 27
  rw [World.size_alloc] at G0
  have GH := Lib.hid G0
  clear G0
  go_enter Tryd.func6, Tryd.ntmps6
  go_wp2_with fail
  refine (OK.out _).mono ?_
  rintro e w2 ⟨rfl, b2⟩
  have b9 := b2; (try replace b9 := undrewX b9); have PH := Lib.hid (PH.out.later b9); have GH := Lib.hid (GH.out.later b9); have BH := Lib.hid (chainX w BH.out b9); clear b9 b2; have p0 := PH.out.cells 0 _ rfl; have p1 := PH.out.cells 1 _ rfl; have p2 := PH.out.cells 2 _ rfl; have p3 := PH.out.cells 3 _ rfl; have p4 := PH.out.cells 4 _ rfl; have p5 := PH.out.cells 5 _ rfl; have q0 := GH.out.cells 0 _ rfl; have q1 := GH.out.cells 1 _ rfl; have gf := GH.out.free
  go_wp2_with fail
  refine (NA.out _ BH.out).mono ?_
  rintro e w3 ⟨rfl, b2⟩
  have b9 := b2; (try replace b9 := undrewX b9); have PH := Lib.hid (PH.out.later b9); have GH := Lib.hid (GH.out.later b9); have BH := Lib.hid (chainX w BH.out b9); clear b9 b2; have p0 := PH.out.cells 0 _ rfl; have p1 := PH.out.cells 1 _ rfl; have p2 := PH.out.cells 2 _ rfl; have p3 := PH.out.cells 3 _ rfl; have p4 := PH.out.cells 4 _ rfl; have p5 := PH.out.cells 5 _ rfl; have q0 := GH.out.cells 0 _ rfl; have q1 := GH.out.cells 1 _ rfl; have gf := GH.out.free
  go_wp2_with fail
  go_region_held3 (fun w' => w'.cell? ⟨w.heap.size, 0, none⟩ = some (.int .i64 i) ∧ w'.cell? ⟨w.heap.size, 1, none⟩ = some (.int .i64 k) ∧ w'.cell? ⟨w.heap.size, 2, none⟩ = some (.int .i64 m) ∧ w'.cell? ⟨w.heap.size, 3, none⟩ = some (.int .i64 n) ∧ w'.cell? ⟨w.heap.size, 4, none⟩ = some (.int .i64 g) ∧ w'.cell? ⟨w.heap.size, 5, none⟩ = some (.int .i64 r)) (go_keep)
    ((first | (go_at_call 14; refine (NO.out _).mono ?_; rintro e w5 ⟨rfl, b2⟩; have b9 := b2; (try replace b9 := undrewX b9); have PH := Lib.hid (PH.out.later b9); have GH := Lib.hid (GH.out.later b9); have BH := Lib.hid (chainX w BH.out b9); clear b9 b2; have p0 := PH.out.cells 0 _ rfl; have p1 := PH.out.cells 1 _ rfl; have p2 := PH.out.cells 2 _ rfl; have p3 := PH.out.cells 3 _ rfl; have p4 := PH.out.cells 4 _ rfl; have p5 := PH.out.cells 5 _ rfl; have q0 := GH.out.cells 0 _ rfl; have q1 := GH.out.cells 1 _ rfl; have gf := GH.out.free)))
  all_goals
    have FH := Lib.hid (show ∀ u v W, Below w5.heap.size w5 W → RetW (.tuple #[.agg #[.int .i64 i, .int .i64 (H % g)], .bool true]) w (.returned (.tuple #[.agg #[.int .i64 i, .int .i64 (H % g)], .bool true])) ((W.setCell ⟨w.heap.size + 1, 0, none⟩ u).setCell ⟨w.heap.size + 1, 1, none⟩ v) from fun u v W b => ⟨rfl, Below.setCell (p := ⟨w.heap.size + 1, 1, none⟩) (Below.setCell (p := ⟨w.heap.size + 1, 0, none⟩) (chainX w BH.out b) (Nat.le_succ _) _) (Nat.le_succ _) _⟩)
    go_wp2
    exact bodyPost_ret (v := .tuple #[.agg #[.int .i64 i, .int .i64 (H % g)], .bool true]) (by simp [results, Tryd.results6, go_sem, *] <;> rfl) rfl (FH.out _ _ _ (Below.refl _ _))
end Go.Proofs.YtpmmcoggpijgmaaDoor.Po
