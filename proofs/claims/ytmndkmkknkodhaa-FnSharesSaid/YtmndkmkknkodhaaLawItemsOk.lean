/-
  The exact law of ItemsOk: the program's answer is the model's, and the items are left as they were.
-/
import Derived.Test.YtmndkmkknkodhaaItemsOk
namespace Go.Proofs.Ytmndkmkknkodhaa.Rc
open Go.RowKit Go.Proofs.Ytmndkmkknkodhaa.It
set_option linter.unusedVariables false

theorem specItemsOk (a : Option Addr) (cap n : Nat) (f g : Nat → Int) (w : World) (hl : n ≤ 2097152) (ha : Recs w a n f g) :
    Calls Try.prog 54 #[.slice a n cap] w (BoolB (okL n f g) w) := by
  have C := Lib.hid (l07OK a cap n f g w hl ha)
  clear ha
  go_enter Try.func54, Try.ntmps54
  go_wp2_with fail
  refine C.out.mono ?_
  rintro e w1 ⟨rfl, b1⟩
  go_wp2
  go_ret
  exact ⟨rfl, b1⟩

set_option maxRecDepth 100000 in
set_option maxHeartbeats 1000000 in
theorem fnItemsOk (a : Option Addr) (n cap : Nat) (f g : Nat → Int) (w : World) (w0 : RecArg w a n f g) :
    Calls Try.prog 10 #[.slice a n cap] w fun e w' => e = .returned (.bool true) ∧ Below w.heap.size w w' := by
  obtain ⟨hlen, hr, hwf⟩ := w0
  have SZ := szItemS a n cap 1048576 hlen (by omega) (by omega)
  by_cases q : (n : Int) ≤ 1048576
  · simp only [if_pos q] at SZ
    have SZ := Lib.hid SZ
    have T := Lib.hid (fun w' (b : Below w.heap.size w w') => toItemS a cap n f g w' (by omega) (hr.below b))
    have S := Lib.hid (fun w' p (K : Recs w' (some ⟨p, 0, none⟩) n f g) => specItemsOk (some ⟨p, 0, none⟩) n n f g w' (by omega) K)
    have I := Lib.hid (fun w' p (K : Recs w' (some ⟨p, 0, none⟩) n f g) => implItemsOk (some ⟨p, 0, none⟩) n n f g w' (by omega) K (fun i hi => (hwf i hi).1))
    have Q := Lib.hid (fun w' p1 p2 (K1 : Recs w' (some ⟨p1, 0, none⟩) n f g) (K2 : Recs w' (some ⟨p2, 0, none⟩) n f g) => eqItemS (some ⟨p1, 0, none⟩) (some ⟨p2, 0, none⟩) n n n f g w' (by omega) K1 K2)
    clear hr hwf
    generalize okL n f g = ok at S I
    go_enter Try.func10, Try.ntmps10
    go_wp2_with fail
    refine (SZ.out _).mono ?_
    rintro e w1 ⟨rfl, rfl⟩
    go_wp2_with fail
    refine (T.out _ (Below.refl _ _)).mono ?_
    rintro e w2 ⟨p1, rfl, K1⟩
    go_wp2_with fail
    refine (S.out _ p1 K1.recs).mono ?_
    rintro e w3 ⟨rfl, b3⟩
    have B3 := Lib.hid (chain K1.below b3)
    clear K1 b3
    go_wp2_with fail
    refine (T.out _ B3.out).mono ?_
    rintro e w4 ⟨p2, rfl, K2⟩
    have B4 := Lib.hid (chain B3.out K2.below)
    go_wp2_with fail
    refine (I.out _ p2 K2.recs).mono ?_
    rintro e w5 ⟨rfl, b5⟩
    have B5 := Lib.hid (chain B4.out b5)
    have X2 := Lib.hid (K2.recs.below b5)
    clear K2 b5
    go_wp2_with fail
    refine (T.out _ B5.out).mono ?_
    rintro e w6 ⟨p3, rfl, K3⟩
    have X3 := Lib.hid (X2.out.below K3.below)
    have Y3 := Lib.hid K3.recs
    have B6 := Lib.hid (chain B5.out K3.below)
    clear K3
    go_wp2_with fail
    refine (Q.out _ p2 p3 X3.out Y3.out).mono ?_
    rintro e w7 ⟨rfl, b7⟩
    have B7 := Lib.hid (chain B6.out b7)
    clear b7
    go_wp2
    go_ret
    exact ⟨rfl, B7.out⟩
  · simp only [if_neg q] at SZ
    have SZ := Lib.hid SZ
    go_enter Try.func10, Try.ntmps10
    go_wp2_with fail
    refine (SZ.out _).mono ?_
    rintro e w1 ⟨rfl, rfl⟩
    go_wp2
    go_ret
    exact ⟨rfl, Below.refl _ _⟩
end Go.Proofs.Ytmndkmkknkodhaa.Rc
