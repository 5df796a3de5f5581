/-
  The exact law of CellOf: the program's answer is the model's, and the object is left as it was.
-/
import Derived.Test.YtmndkmkknkodhaaCell
namespace Go.Proofs.Ytmndkmkknkodhaa.Sg
open Go.RowKit Go.Proofs.Ytmndkmkknkodhaa.GfI Go.Proofs.Ytmndkmkknkodhaa.GfS
set_option linter.unusedVariables false

set_option maxRecDepth 100000 in
set_option maxHeartbeats 2000000 in
theorem fnCellOf (k m u s : Int) (a : Option Addr) (n cap : Nat) (S : Nat → ByteArray) (at' : Int) (w : World) (w0 : StrArg w a n S) (w1 : (Lit.int .i64 at').wf = true) :
    Calls Try.prog 9 #[wval k m u s (.slice a n cap), .int .i64 at'] w fun e w' => e = .returned (.bool true) ∧ Below w.heap.size w w' := by
  have L := Lib.hid (lay w (.cells #[.int .i64 k, .int .i64 m, .int .i64 u, .int .i64 s, .slice a n cap] 73))
  have X := BxN.new w #[.int .i64 k, .int .i64 m, .int .i64 u, .int .i64 s, .slice a n cap] 73
  have XH := Lib.hid X
  have SZ := szWide k m u s a n cap S 1048576 (by omega) (by omega) _ ⟨w0.1, w0.2.1.below L.out, w0.2.2⟩
  obtain ⟨hlen, hr, hz⟩ := w0
  clear w1
  clear X
  by_cases q : (tot n S n : Int) ≤ 1048576
  · have hn : n ≤ 1048576 := by have := tot_mono n S (Nat.zero_le n); have e0 : tot n S 0 = n := rfl; omega
    simp only [if_pos q] at SZ
    have SZ := Lib.hid SZ
    have q' : 0 ≤ (1048576 : Int) - tot n S n := by omega
    have T := Lib.hid (fun w' (b : Below w.heap.size w w') => toWide k m u s a cap n S w' (by omega) (hr.below b))
    have SP := Lib.hid (fun w' p (K : Strs w' (some ⟨p, 0, none⟩) n S) => specCellOf k m u s (some ⟨p, 0, none⟩) n n S at' w' (by omega) hz K)
    have I := Lib.hid (fun w' p (K : Strs w' (some ⟨p, 0, none⟩) n S) => implCellOf k m u s (some ⟨p, 0, none⟩) n n S at' w' (by omega) K)
    have Q := Lib.hid (fun w' p1 p2 (K1 : Strs w' (some ⟨p1, 0, none⟩) n S) (K2 : Strs w' (some ⟨p2, 0, none⟩) n S) => eqWide k m u s (some ⟨p1, 0, none⟩) (some ⟨p2, 0, none⟩) n n n S w' (by omega) K1 K2)
    clear hr hz q
    generalize ceA (okW k m u s n S) k u s at' = r1 at SP I
    generalize ceB (okW k m u s n S) k u s at' = r2 at SP I
    generalize ceC (okW k m u s n S) s at' = r3 at SP I
    generalize (1048576 : Int) - tot n S n = lf at *
    go_enter Try.func9, Try.ntmps9
    go_wp2_with fail
    refine SZ.out.mono ?_
    rintro e w1 ⟨rfl, b1⟩
    have X1 := XH.out.later b1
    have B1 := Lib.hid (chain L.out b1)
    have x0 := X1.cells 0 _ rfl
    have x1 := X1.cells 1 _ rfl
    have x2 := X1.cells 2 _ rfl
    have x3 := X1.cells 3 _ rfl
    have x4 := X1.cells 4 _ rfl
    have X1 := Lib.hid X1
    clear b1
    go_wp2_with fail
    refine (T.out _ B1.out).mono ?_
    rintro e w2 ⟨p1, rfl, K1⟩
    go_wp2_with fail
    refine (SP.out _ p1 K1.strs).mono ?_
    rintro e w3 ⟨rfl, b3⟩
    have X3 := X1.out.later (chain K1.below b3)
    have B3 := Lib.hid (chain B1.out (chain K1.below b3))
    clear x0 x1 x2 x3 x4 K1 b3
    have x0 := X3.cells 0 _ rfl
    have x1 := X3.cells 1 _ rfl
    have x2 := X3.cells 2 _ rfl
    have x3 := X3.cells 3 _ rfl
    have x4 := X3.cells 4 _ rfl
    have X3 := Lib.hid X3
    go_wp2_with fail
    refine (T.out _ B3.out).mono ?_
    rintro e w4 ⟨p2, rfl, K2⟩
    have L4 := Lib.hid (lay w4 (.cells #[.int .i64 k, .int .i64 m, .int .i64 u, .int .i64 s, .slice (some ⟨p2, 0, none⟩) n n] 77))
    have Y4 := Lib.hid (BxN.new w4 #[.int .i64 k, .int .i64 m, .int .i64 u, .int .i64 s, .slice (some ⟨p2, 0, none⟩) n n] 77)
    have K4 := Lib.hid (K2.strs.below L4.out)
    have X4 := Lib.hid ((X3.out.later K2.below).later L4.out)
    have B4 := Lib.hid (chain (chain B3.out K2.below) L4.out)
    clear K2
    go_wp2_with fail
    refine (I.out _ p2 K4.out).mono ?_
    rintro e w5 ⟨rfl, b5⟩
    have Y5 := Y4.out.later b5
    have X5 := X4.out.later b5
    have K5 := Lib.hid (K4.out.below b5)
    have B5 := Lib.hid (chain B4.out b5)
    clear b5 x0 x1 x2 x3 x4
    have x0 := X5.cells 0 _ rfl
    have x1 := X5.cells 1 _ rfl
    have x2 := X5.cells 2 _ rfl
    have x3 := X5.cells 3 _ rfl
    have x4 := X5.cells 4 _ rfl
    have y0 := Y5.cells 0 _ rfl
    have y1 := Y5.cells 1 _ rfl
    have y2 := Y5.cells 2 _ rfl
    have y3 := Y5.cells 3 _ rfl
    have y4 := Y5.cells 4 _ rfl
    have X5 := Lib.hid X5
    have Y5 := Lib.hid Y5
    go_wp2_with fail
    go_region_held3 (fun w' => w'.cell? ⟨w.heap.size, 0, none⟩ = some (.int .i64 k) ∧ w'.cell? ⟨w.heap.size, 1, none⟩ = some (.int .i64 m) ∧ w'.cell? ⟨w.heap.size, 2, none⟩ = some (.int .i64 u) ∧ w'.cell? ⟨w.heap.size, 3, none⟩ = some (.int .i64 s) ∧ w'.cell? ⟨w.heap.size, 4, none⟩ = some (.slice a n cap) ∧ w'.cell? ⟨w4.heap.size, 0, none⟩ = some (.int .i64 k) ∧ w'.cell? ⟨w4.heap.size, 1, none⟩ = some (.int .i64 m) ∧ w'.cell? ⟨w4.heap.size, 2, none⟩ = some (.int .i64 u) ∧ w'.cell? ⟨w4.heap.size, 3, none⟩ = some (.int .i64 s) ∧ w'.cell? ⟨w4.heap.size, 4, none⟩ = some (.slice (some ⟨p2, 0, none⟩) n n)) (go_keep)
      (first
        | (go_at_call 48; refine (T.out _ B5.out.drew).mono ?_; rintro e w6 ⟨p3, rfl, K6⟩; have K6s := Lib.hid K6.strs; have K5s := Lib.hid (K5.out.below (undrew K6.below)); have B6 := Lib.hid (chain B5.out (undrew K6.below)); have X6 := X5.out.later (undrew K6.below); have Y6 := Y5.out.later (undrew K6.below); have r0 := X6.cells 0 _ rfl; have r1 := X6.cells 1 _ rfl; have r2 := X6.cells 2 _ rfl; have r3 := X6.cells 3 _ rfl; have r4 := X6.cells 4 _ rfl; have s0 := Y6.cells 0 _ rfl; have s1 := Y6.cells 1 _ rfl; have s2 := Y6.cells 2 _ rfl; have s3 := Y6.cells 3 _ rfl; have s4 := Y6.cells 4 _ rfl; have X6 := Lib.hid X6; have Y6 := Lib.hid Y6; clear K6)
        | (go_at_call 50; refine (Q.out _ p2 p3 K5s.out K6s.out).mono ?_; rintro e w7 ⟨rfl, b7⟩; have B7 := Lib.hid (chain B6.out b7); have X7 := X6.out.later b7; have Y7 := Y6.out.later b7; have t0 := X7.cells 0 _ rfl; have t1 := X7.cells 1 _ rfl; have t2 := X7.cells 2 _ rfl; have t3 := X7.cells 3 _ rfl; have t4 := X7.cells 4 _ rfl; have v0 := Y7.cells 0 _ rfl; have v1 := Y7.cells 1 _ rfl; have v2 := Y7.cells 2 _ rfl; have v3 := Y7.cells 3 _ rfl; have v4 := Y7.cells 4 _ rfl; clear b7))
    all_goals
      go_wp2
      go_ret
      exact ⟨rfl, B7.out⟩
  · simp only [if_neg q] at SZ
    have SZ := Lib.hid SZ
    clear hr hz q
    go_enter Try.func9, Try.ntmps9
    go_wp2_with fail
    refine SZ.out.mono ?_
    rintro e w1 ⟨rfl, b1⟩
    have B1 := Lib.hid (chain L.out b1)
    clear b1
    go_wp2
    go_ret
    exact ⟨rfl, B1.out⟩
end Go.Proofs.Ytmndkmkknkodhaa.Sg
