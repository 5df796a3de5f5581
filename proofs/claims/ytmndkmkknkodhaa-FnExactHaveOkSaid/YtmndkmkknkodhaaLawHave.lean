/-
  The exact law of HaveOk: the program's answer is the model's, and the shards are left as they were.
-/
import Derived.Test.YtmndkmkknkodhaaHave3
import Derived.Test.YtmndkmkknkodhaaShardZ
namespace Go.Proofs.Ytmndkmkknkodhaa.Sh
open Go.RowKit Go.Proofs.Ytmndkmkknkodhaa.GfI Go.Proofs.Ytmndkmkknkodhaa.GfS Go.Proofs.Ytmndkmkknkodhaa.Sg
set_option linter.unusedVariables false

set_option maxRecDepth 100000 in
theorem specHaveOk (k m s : Int) (a : Option Addr) (cap n : Nat) (f : Nat → Int) (S : Nat → ByteArray) (w : World) (hl : n ≤ 2097152) (hz : ∀ i, i < n → (S i).size ≤ 9223372036854775807) (ha : Shs w a n f S) :
    Calls Try.prog 41 #[Cd.cval k m, .int .i64 s, .slice a n cap] w (BothB (OkH k m s n f S) w) := by
  have L := Lib.hid (lay w (.cells #[.int .i64 k, .int .i64 m] 65))
  have C := Lib.hid (l04Have k m s a cap n f S _ hl hz (ha.below L.out))
  clear ha
  go_enter Try.func41, Try.ntmps41
  go_wp2_with fail
  refine C.out.mono ?_
  rintro e w1 ⟨b1, ⟨rfl, H⟩ | ⟨rfl, H⟩⟩
  · have F := Lib.hid (show BothB (OkH k m s n f S) w (.returned (.bool true)) w1 from ⟨chain L.out b1, .inl ⟨rfl, H⟩⟩)
    clear b1 H
    go_wp2
    go_ret
    exact F.out
  · have F := Lib.hid (show BothB (OkH k m s n f S) w (.returned (.bool false)) w1 from ⟨chain L.out b1, .inr ⟨rfl, H⟩⟩)
    clear b1 H
    go_wp2
    go_ret
    exact F.out

/-- One answer for both. -/
theorem BothB.one {P : Prop} [Decidable P] {w : World} {e : Ending} {w' : World} (h : BothB P w e w') : e = .returned (.bool (decide P)) ∧ Below w.heap.size w w' := by
  rcases h with ⟨b, ⟨rfl, p⟩ | ⟨rfl, p⟩⟩
  · rw [decide_eq_true p]; exact ⟨rfl, b⟩
  · rw [decide_eq_false p]; exact ⟨rfl, b⟩

open Classical in
set_option maxRecDepth 100000 in
set_option maxHeartbeats 1000000 in
theorem fnHaveOk (k m s : Int) (a : Option Addr) (n cap : Nat) (f : Nat → Int) (S : Nat → ByteArray) (w : World) (wk : (Lit.int .i64 k).wf = true) (wm : (Lit.int .i64 m).wf = true) (ws : (Lit.int .i64 s).wf = true) (w0 : ShArg w a n f S) :
    Calls Try.prog 7 #[Cd.cval k m, .int .i64 s, .slice a n cap] w fun e w' => e = .returned (.bool true) ∧ Below w.heap.size w w' := by
  have L := Lib.hid (lay w (.cells #[.int .i64 k, .int .i64 m] 61))
  have XH := Lib.hid (BxN.new w #[.int .i64 k, .int .i64 m] 61)
  have TC := Lib.hid (fun w' => Cd.toCode k m w')
  have SZ := szShardS a n cap f S 1048576 (by omega) (by omega) _ ⟨w0.1, w0.2.1.below L.out, w0.2.2⟩
  obtain ⟨hlen, hr, hz⟩ := w0
  clear wk wm ws
  by_cases q : (tot n S n : Int) ≤ 1048576
  · have hn : n ≤ 1048576 := by have := tot_mono n S (Nat.zero_le n); have e0 : tot n S 0 = n := rfl; omega
    simp only [if_pos q] at SZ
    have SZ := Lib.hid SZ
    have q' : 0 ≤ (1048576 : Int) - tot n S n := by omega
    have T := Lib.hid (fun w' (b : Below w.heap.size w w') => toShardS a cap n f S w' (by omega) (hr.below b))
    have SP := Lib.hid (fun w' p (K : Shs w' (some ⟨p, 0, none⟩) n f S) => (specHaveOk k m s (some ⟨p, 0, none⟩) n n f S w' (by omega) (fun i hi => (hz i hi).2) K).mono fun _ _ => BothB.one)
    have I := Lib.hid (fun w' p (K : Shs w' (some ⟨p, 0, none⟩) n f S) => (implHaveOk k m s (some ⟨p, 0, none⟩) n n f S w' (by omega) K).mono fun _ _ => BothB.one)
    have Q := Lib.hid (fun w' p1 p2 (K1 : Shs w' (some ⟨p1, 0, none⟩) n f S) (K2 : Shs w' (some ⟨p2, 0, none⟩) n f S) => eqShardS (some ⟨p1, 0, none⟩) (some ⟨p2, 0, none⟩) n n n f S w' (by omega) K1 K2)
    clear hr hz q
    generalize decide (OkH k m s n f S) = ok at SP I
    generalize (1048576 : Int) - tot n S n = lf at *
    go_enter Try.func7, Try.ntmps7
    go_wp2_with fail
    refine SZ.out.mono ?_
    rintro e w1 ⟨rfl, b1⟩
    have X1 := XH.out.later b1
    have B1 := Lib.hid (chain L.out b1)
    have x0 := X1.cells 0 _ rfl
    have x1 := X1.cells 1 _ rfl
    have X1 := Lib.hid X1
    clear b1
    go_wp2_with fail
    refine (TC.out _).mono ?_
    rintro e w1' ⟨rfl, b1⟩
    have X1' := Lib.hid (X1.out.later b1)
    have B1' := Lib.hid (chain B1.out b1)
    clear b1 x0 x1
    go_wp2_with fail
    refine (T.out _ B1'.out).mono ?_
    rintro e w2 ⟨p1, rfl, K1⟩
    go_wp2_with fail
    refine (SP.out _ p1 K1.shs).mono ?_
    rintro e w3 ⟨rfl, b3⟩
    have X3 := X1'.out.later (chain K1.below b3)
    have B3 := Lib.hid (chain B1'.out (chain K1.below b3))
    clear K1 b3
    have X3 := Lib.hid X3
    go_wp2_with fail
    refine (T.out _ B3.out).mono ?_
    rintro e w4 ⟨p2, rfl, K2⟩
    have X4 := X3.out.later K2.below
    have K4 := Lib.hid K2.shs
    have B4 := Lib.hid (chain B3.out K2.below)
    have x0 := X4.cells 0 _ rfl
    have x1 := X4.cells 1 _ rfl
    clear K2 X4
    go_wp2_with fail
    refine (TC.out _).mono ?_
    rintro e w4' ⟨rfl, b4⟩
    have K4' := Lib.hid (K4.out.below b4)
    have B4' := Lib.hid (chain B4.out b4)
    clear b4 x0 x1
    go_wp2_with fail
    refine (I.out _ p2 K4'.out).mono ?_
    rintro e w5 ⟨rfl, b5⟩
    have K5 := Lib.hid (K4'.out.below b5)
    have B5 := Lib.hid (chain B4'.out b5)
    clear b5
    go_wp2_with fail
    refine (T.out _ B5.out).mono ?_
    rintro e w6 ⟨p3, rfl, K6⟩
    have K6s := Lib.hid K6.shs
    have K5s := Lib.hid (K5.out.below K6.below)
    have B6 := Lib.hid (chain B5.out K6.below)
    clear K6
    go_wp2_with fail
    refine (Q.out _ p2 p3 K5s.out K6s.out).mono ?_
    rintro e w7 ⟨rfl, b7⟩
    have B7 := Lib.hid (chain B6.out b7)
    clear b7
    go_wp2
    go_ret
    exact ⟨rfl, B7.out⟩
  · simp only [if_neg q] at SZ
    have SZ := Lib.hid SZ
    clear hr hz q
    go_enter Try.func7, Try.ntmps7
    go_wp2_with fail
    refine SZ.out.mono ?_
    rintro e w1 ⟨rfl, b1⟩
    have B1 := Lib.hid (chain L.out b1)
    clear b1
    go_wp2
    go_ret
    exact ⟨rfl, B1.out⟩
end Go.Proofs.Ytmndkmkknkodhaa.Sh
