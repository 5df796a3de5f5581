/-
  The exact law of Draws: the program's answer is the model's, it is the call's own, and the items are left as they were.
-/
import Derived.Test.YtmndkmkknkodhaaDraws
import Derived.Test.YtmndkmkknkodhaaMarkI
import Derived.Test.YtmndkmkknkodhaaMarkItem
namespace Go.Proofs.Ytmndkmkknkodhaa.Ch
open Go.RowKit Go.Proofs.Ytmndkmkknkodhaa.It Go.Proofs.Ytmndkmkknkodhaa.Rc Go.Proofs.Ytmndkmkknkodhaa.Gf2 Go.Proofs.Ytmndkmkknkodhaa.GfS Go.Proofs.Ytmndkmkknkodhaa.MixC Go.Proofs.Ytmndkmkknkodhaa.Ml
set_option linter.unusedVariables false

theorem drA_len (n : Nat) (f g : Nat → Int) (seed t : Int) : (drA n f g seed t).length ≤ 30 := by
  unfold drA
  split
  · rename_i h; rw [drN_len]; omega
  · simp
theorem own_lt {W w : World} {a : Option Addr} {zs : List Int} (O : OwnS W w a zs) : zs ≠ [] → ∀ b o, a = some ⟨b, o, none⟩ → b < w.heap.size := fun hz b o e => O.lt hz b o e
/-- A list handed back at world w3 stays while only later blocks turn. -/
theorem own_since {W w w' : World} {a : Option Addr} {zs : List Int} (O : OwnS W w a zs) (b : Below w.heap.size w w') : OwnS W w' a zs := O.below b

theorem _root_.Go.Proofs.Ytmndkmkknkodhaa.Gf2.OwnS.past {W w w1 : World} {a : Option Addr} {zs : List Int} {r : Option Nat} (O : OwnS W w a zs) (g : w.grownBy w1 r) (hr : ∀ c, r = some c → c < W.heap.size) : OwnS W w1 a zs := by
  rcases O with h | ⟨b, ha, h0, h1, hn, hf⟩
  · exact .inl h
  · have e : w1.heap[b]? = w.heap[b]? := g.block b h1 (fun q => by have := hr b q.symm; omega)
    exact .inr ⟨b, ha, h0, Nat.lt_of_lt_of_le h1 g.size, fun i hi => (World.cell?_of_block e).trans (hn i hi), fun i => (World.frozen?_of_block e).trans (hf i)⟩

set_option maxRecDepth 100000 in
set_option maxHeartbeats 4000000 in
theorem fnDraws (a : Option Addr) (n cap : Nat) (f g : Nat → Int) (seed t : Int) (w : World) (w0 : RecArg w a n f g) (w1 : (Lit.int .i64 seed).wf = true) (w2 : (Lit.int .i64 t).wf = true) :
    Calls Try.prog 14 #[.slice a n cap, .int .i64 seed, .int .i64 t] w fun e w' => e = .returned (.bool true) ∧ Below w.heap.size w w' := by
  obtain ⟨hlen, hr, hwf⟩ := w0
  have SZ := szItemS a n cap 1048576 hlen (by omega) (by omega)
  clear w1 w2
  by_cases q : (n : Int) ≤ 1048576
  · simp only [if_pos q] at SZ
    have SZ := Lib.hid SZ
    have T := Lib.hid (fun w' (b : Below w.heap.size w w') => toItemS a cap n f g w' (by omega) (hr.below b))
    have S := Lib.hid (fun w' p (K : Recs w' (some ⟨p, 0, none⟩) n f g) => specDraws (some ⟨p, 0, none⟩) n n f g seed t w' (by omega) K)
    have I := Lib.hid (fun w' p (K : Recs w' (some ⟨p, 0, none⟩) n f g) => implDraws (some ⟨p, 0, none⟩) n n f g seed t w' (by omega) K (fun i hi => (hwf i hi).1))
    have Q := Lib.hid (fun w' p1 p2 (K1 : Recs w' (some ⟨p1, 0, none⟩) n f g) (K2 : Recs w' (some ⟨p2, 0, none⟩) n f g) => eqItemS (some ⟨p1, 0, none⟩) (some ⟨p2, 0, none⟩) n n n f g w' (by omega) K1 K2)
    have MK := Lib.hid (fun w' p (h : There w' p n) => markItemS p n n (by omega) w' h)
    have ZL := drA_len n f g seed t
    clear hr hwf
    generalize drA n f g seed t = zs at S I ZL
    generalize drB n f g seed t = y at S I
    have EL := Lib.hid (fun w' a b c1 c2 (x : Words w' a zs) (y : Words w' b zs) => eqL a b c1 c2 zs w' (by omega) x y)
    have ML := Lib.hid (fun W D a c w' (O : OwnS W w' a zs) hD => markL W D a c zs 1 (by omega) (by omega) (by omega) w' O hD)
    have HL := Lib.hid (fun w' a c (m : Marks w' a zs.length 1) => heldInt64S a zs.length c 1 (by omega) (by omega) (by omega) w' m)
    go_enter Try.func14, Try.ntmps14
    go_wp2_with fail
    refine (SZ.out _).mono ?_
    rintro e w1 ⟨rfl, rfl⟩
    go_wp2_with fail
    refine (T.out _ (Below.refl _ _)).mono ?_
    rintro e w2 ⟨p1, rfl, K1⟩
    go_wp2_with fail
    refine (S.out _ p1 K1.recs).mono ?_
    rintro e w3 ⟨a1, c1, rfl, OA, b3⟩
    have B3 := Lib.hid (It.chain K1.below b3)
    have OA := Lib.hid OA
    clear K1 b3
    go_wp2_with fail
    refine (T.out _ B3.out).mono ?_
    rintro e w4 ⟨p2, rfl, K2⟩
    have B34 := Lib.hid K2.below
    go_wp2_with fail
    refine (I.out _ p2 K2.recs).mono ?_
    rintro e w5 ⟨a2, c2, rfl, OB, b5⟩
    have B35 := Lib.hid (It.chain B34.out b5)
    have X2 := Lib.hid (K2.recs.below b5)
    have Y2 := Lib.hid ((There.of K2).below b5)
    have NP := Lib.hid K2.new
    have LP := Lib.hid K2.lt
    have OB := Lib.hid OB
    clear K2 b5
    have OA5 := OA.out.below B35.out
    have WA := OA5.words
    have WB := OB.out.words
    have hWA := Lib.hid WA
    have hWB := Lib.hid WB
    clear OA5 WA WB
    go_wp2_with fail
    refine (EL.out _ _ _ _ _ hWB.out hWA.out).mono ?_
    rintro e w6 ⟨rfl, b6⟩
    have B36 := Lib.hid (It.chain B35.out b6)
    have B56 := Lib.hid b6
    have X2' := Lib.hid (X2.out.below b6)
    clear b6
    go_wp2_with fail
    refine (T.out _ (It.chain B3.out B36.out)).mono ?_
    rintro e w7 ⟨p3, rfl, K3⟩
    have X3 := Lib.hid (X2'.out.below K3.below)
    have Y3 := Lib.hid K3.recs
    have B57 := Lib.hid (It.chain B56.out K3.below)
    clear K3
    go_wp2_with fail
    refine (Q.out _ p2 p3 X3.out Y3.out).mono ?_
    rintro e w8 ⟨rfl, b8⟩
    have B58 := Lib.hid (It.chain B57.out b8)
    have B38 := Lib.hid (It.chain B35.out B58.out)
    have Y8 := Lib.hid (Y2.out.below B58.out)
    clear b8
    go_wp2_with fail
    refine (MK.out _ p2 Y8.out).mono ?_
    rintro e w9 ⟨rfl, g9⟩
    have B39 := Lib.hid (B38.out.grown g9 B38.out.size (fun c hc => by cases hc; exact NP.out))
    have OB9 := Lib.hid ((OB.out.below B58.out).past g9 (fun c hc => by cases hc; exact LP.out))
    have OA9 := Lib.hid (OA.out.below B39.out)
    have D1 : decide (1 + 2 * (n : Int) < 0) = false := decide_eq_false (by omega)
    clear g9
    go_wp2_with fail
    refine (EL.out _ _ _ _ _ OB9.out.words OA9.out.words).mono ?_
    rintro e w10 ⟨rfl, b10⟩
    have B310 := Lib.hid (It.chain B39.out b10)
    have OB10 := Lib.hid (OB9.out.below b10)
    clear b10 D1
    go_wp2_with fail
    refine (ML.out w4 w5.heap.size _ _ _ OB10.out (own_lt OB.out)).mono ?_
    rintro e w11 ⟨rfl, M, r, g11, hr11⟩
    have L34 := B34.out.size
    have B311 := Lib.hid (B310.out.grown g11 B310.out.size (fun c hc => by have := (hr11 c hc).1; omega))
    have MM := Lib.hid M
    clear M g11 hr11 L34
    go_wp2_with fail
    refine (HL.out _ _ _ MM.out).mono ?_
    rintro e w12 ⟨rfl, rfl⟩
    go_wp2_with fail
    refine (T.out _ (It.chain B3.out B311.out)).mono ?_
    rintro e w13 ⟨p4, rfl, K4⟩
    go_wp2_with fail
    refine (I.out _ p4 K4.recs).mono ?_
    rintro e w14 ⟨a3, c3, rfl, OH, b14⟩
    have B314 := Lib.hid (It.chain B311.out (It.chain K4.below b14))
    have M14 := Lib.hid (MM.out.below (It.chain K4.below b14))
    have OA14 := Lib.hid (OA.out.below B314.out)
    have OH := Lib.hid OH
    clear K4 b14
    go_wp2_with fail
    refine (EL.out _ _ _ _ _ OH.out.words OA14.out.words).mono ?_
    rintro e w15 ⟨rfl, b15⟩
    have B315 := Lib.hid (It.chain B314.out b15)
    have M15 := Lib.hid (M14.out.below b15)
    clear b15
    go_wp2_with fail
    refine (HL.out _ _ _ M15.out).mono ?_
    rintro e w16 ⟨rfl, rfl⟩
    go_wp2
    go_ret
    exact ⟨rfl, It.chain B3.out B315.out⟩
  · simp only [if_neg q] at SZ
    have SZ := Lib.hid SZ
    go_enter Try.func14, Try.ntmps14
    go_wp2_with fail
    refine (SZ.out _).mono ?_
    rintro e w1 ⟨rfl, rfl⟩
    go_wp2
    go_ret
    exact ⟨rfl, Below.refl _ _⟩
end Go.Proofs.Ytmndkmkknkodhaa.Ch
