/-
  The exact law of PgsIn: the program's answer is the model's, and it is the call's own.
-/
import Derived.Test.YtgfpngjfhmiphaaPgs
namespace Go.Proofs.Ytgfpngjfhmiphaa.Po
open Go.RowKit Go.Proofs.Ytgfpngjfhmiphaa.GfI Go.Proofs.Ytgfpngjfhmiphaa.GfS Go.Proofs.Ytgfpngjfhmiphaa.Cd
open Go.Proofs.Ytgfpngjfhmiphaa.Sg (BxN)
open Go.Proofs.Ytgfpngjfhmiphaa.Rc (Recs Copied2 There)
set_option linter.unusedVariables false
set_option linter.unusedSimpArgs false

/-- Not valid: nothing, and false. -/
def NoP (w : World) (e : Ending) (w' : World) : Prop := ∃ a, e = .returned (.tuple #[.slice a 0 0, .bool false]) ∧ Below w.heap.size w w'
def YesI (i : Int) (n : Nat) (w : World) (e : Ending) (w' : World) : Prop := ∃ q, e = .returned (.tuple #[.slice (some ⟨q, 0, none⟩) n n, .bool true]) ∧ Copied2 w w' q n (pf i) pg
def YesS (i : Int) (n : Nat) (w : World) (e : Ending) (w' : World) : Prop := ∃ a c, e = .returned (.tuple #[.slice a n c, .bool true]) ∧ Recs w' a n (pf i) pg ∧ Below w.heap.size w w'

set_option maxRecDepth 100000 in
theorem implNo (i k m n g r : Int) (h : okP i k m n g r = false) (w : World) :
    Calls Try.prog 37 #[pval i k m n g r] w (NoP w) := by
  have L := Lib.hid (lay w)
  have C := implPoolOk i k m n g r
  rw [h] at C
  have C := Lib.hid C
  clear h
  go_enter Try.func37, Try.ntmps37
  go_wp2_with fail
  refine (C.out _).mono ?_
  rintro e w1 ⟨rfl, b1⟩
  have B1 := Lib.hid (chain (L.out _) b1)
  clear b1
  go_wp2
  go_ret2
  exact ⟨none, rfl, B1.out⟩
set_option maxRecDepth 100000 in
theorem specNo (i k m n g r : Int) (h : okP i k m n g r = false) (w : World) :
    Calls Try.prog 35 #[pval i k m n g r] w (NoP w) := by
  have L := Lib.hid (lay w)
  have C := l09OK i k m n g r
  rw [h] at C
  have C := Lib.hid C
  clear h
  go_enter Try.func35, Try.ntmps35
  go_wp2_with fail
  refine (C.out _).mono ?_
  rintro e w1 ⟨rfl, b1⟩
  have B1 := Lib.hid (chain (chain (L.out _) b1) (lay _ (.cells #[] 128)))
  clear b1
  go_wp2
  go_ret2
  exact ⟨_, rfl, B1.out⟩
set_option maxRecDepth 100000 in
theorem implYes (i k m n : Int) (g : Nat) (r : Int) (h : okP i k m n g r = true) (hg : g ≤ 16) (w : World) :
    Calls Try.prog 37 #[pval i k m n g r] w (YesI i g w) := by
  have L := Lib.hid (lay w (.cells #[.int .i64 i, .int .i64 k, .int .i64 m, .int .i64 n, .int .i64 g, .int .i64 r] 70))
  have X := Lib.hid (BxN.new w #[.int .i64 i, .int .i64 k, .int .i64 m, .int .i64 n, .int .i64 g, .int .i64 r] 70)
  have C := implPoolOk i k m n g r
  have P := Lib.hid (pgs i k m n g r hg)
  rw [h] at C
  have C := Lib.hid C
  clear h
  go_enter Try.func37, Try.ntmps37
  go_wp2_with fail
  refine (C.out _).mono ?_
  rintro e w1 ⟨rfl, b1⟩
  have B1 := Lib.hid (chain L.out b1)
  have X1 := X.out.later b1
  have x0 := X1.cells 0 _ rfl
  have x1 := X1.cells 1 _ rfl
  have x2 := X1.cells 2 _ rfl
  have x3 := X1.cells 3 _ rfl
  have x4 := X1.cells 4 _ rfl
  have x5 := X1.cells 5 _ rfl
  clear b1 X1
  go_wp2_with fail
  refine (P.out _).mono ?_
  rintro e w2 ⟨q, rfl, K⟩
  have F := Lib.hid (show YesI i g w (.returned (.tuple #[.slice (some ⟨q, 0, none⟩) g g, .bool true])) w2 from ⟨q, rfl, Nat.le_trans B1.out.size K.new, K.lt, K.cells, K.free, chain B1.out K.below⟩)
  clear K
  go_wp2
  go_ret2
  exact F.out
set_option maxRecDepth 100000 in
theorem specYes (i k m n : Int) (g : Nat) (r : Int) (h : okP i k m n g r = true) (hg : g ≤ 16) (w : World) :
    Calls Try.prog 35 #[pval i k m n g r] w (YesS i g w) := by
  have L := Lib.hid (lay w (.cells #[.int .i64 i, .int .i64 k, .int .i64 m, .int .i64 n, .int .i64 g, .int .i64 r] 70))
  have X := Lib.hid (BxN.new w #[.int .i64 i, .int .i64 k, .int .i64 m, .int .i64 n, .int .i64 g, .int .i64 r] 70)
  have C := l09OK i k m n g r
  have P := Lib.hid (l09Pgs i k m n g r hg)
  rw [h] at C
  have C := Lib.hid C
  clear h
  go_enter Try.func35, Try.ntmps35
  go_wp2_with fail
  refine (C.out _).mono ?_
  rintro e w1 ⟨rfl, b1⟩
  have B1 := Lib.hid (chain L.out b1)
  have X1 := X.out.later b1
  have x0 := X1.cells 0 _ rfl
  have x1 := X1.cells 1 _ rfl
  have x2 := X1.cells 2 _ rfl
  have x3 := X1.cells 3 _ rfl
  have x4 := X1.cells 4 _ rfl
  have x5 := X1.cells 5 _ rfl
  clear b1 X1
  go_wp2_with fail
  refine (P.out _).mono ?_
  rintro e w2 ⟨a, c, rfl, R, b2⟩
  have F := Lib.hid (show YesS i g w (.returned (.tuple #[.slice a g c, .bool true])) w2 from ⟨a, c, rfl, R, chain B1.out b2⟩)
  clear R b2
  go_wp2
  go_ret2
  exact F.out

set_option maxRecDepth 100000 in
set_option maxHeartbeats 2000000 in
theorem fnPgsIn (i k m n g r : Int) (w : World) (w0 : True) :
    Calls Try.prog 10 #[pval i k m n g r] w fun e w' => e = .returned (.bool true) ∧ Below w.heap.size w w' := by
  have X := Lib.hid (BxN.new w #[.int .i64 i, .int .i64 k, .int .i64 m, .int .i64 n, .int .i64 g, .int .i64 r] 64)
  have L := Lib.hid (lay w (.cells #[.int .i64 i, .int .i64 k, .int .i64 m, .int .i64 n, .int .i64 g, .int .i64 r] 64))
  have T := Lib.hid (toPool i k m n g r)
  clear w0
  cases hok : okP i k m n g r
  · have S := Lib.hid (specNo i k m n g r hok)
    have I := Lib.hid (implNo i k m n g r hok)
    clear hok
    go_enter Try.func10, Try.ntmps10
    go_wp2_with fail
    refine (T.out _).mono ?_
    rintro e w1 ⟨rfl, b1⟩
    have B1 := Lib.hid (chain L.out b1)
    have X1 := Lib.hid (X.out.later b1)
    clear b1
    go_wp2_with fail
    refine (S.out _).mono ?_
    rintro e w2 ⟨a2, rfl, b2⟩
    have B2 := Lib.hid (chain B1.out b2)
    have X2' := Lib.hid (X1.out.later b2)
    have X2 := X2'.out
    have x0 := X2.cells 0 _ rfl
    have x1 := X2.cells 1 _ rfl
    have x2 := X2.cells 2 _ rfl
    have x3 := X2.cells 3 _ rfl
    have x4 := X2.cells 4 _ rfl
    have x5 := X2.cells 5 _ rfl
    clear b2 X2
    go_wp2_with fail
    refine (T.out _).mono ?_
    rintro e w3 ⟨rfl, b3⟩
    have B3 := Lib.hid (chain B2.out b3)
    have X3 := Lib.hid (X2'.out.later b3)
    clear b3 x0 x1 x2 x3 x4 x5
    go_wp2_with fail
    refine (I.out _).mono ?_
    rintro e w4 ⟨a4, rfl, b4⟩
    have B4 := Lib.hid (chain B3.out b4)
    have X4 := Lib.hid (X3.out.later b4)
    have EQ := Lib.hid (fun w' => eqPgS a4 a2 0 0 0 (pf i) pg w' (by omega) (.inl rfl) (.inl rfl))
    clear b4
    go_wp2_with fail
    refine (EQ.out _).mono ?_
    rintro e w5 ⟨rfl, b5⟩
    have B5 := Lib.hid (chain B4.out b5)
    have X5 := Lib.hid (X4.out.later b5)
    clear b5
    go_wp2_with fail
    refine (markPg0 a4 0 _).mono ?_
    rintro e w6 ⟨rfl, rfl⟩
    go_wp2_with fail
    refine (heldPg0 a4 0 _).mono ?_
    rintro e w6 ⟨rfl, rfl⟩
    have x0 := X5.out.cells 0 _ rfl
    have x1 := X5.out.cells 1 _ rfl
    have x2 := X5.out.cells 2 _ rfl
    have x3 := X5.out.cells 3 _ rfl
    have x4 := X5.out.cells 4 _ rfl
    have x5 := X5.out.cells 5 _ rfl
    go_wp2_with fail
    refine (T.out _).mono ?_
    rintro e w7 ⟨rfl, b7⟩
    have B7 := Lib.hid (chain B5.out b7)
    clear b7 x0 x1 x2 x3 x4 x5
    go_wp2_with fail
    refine (I.out _).mono ?_
    rintro e w8 ⟨a8, rfl, b8⟩
    have B8 := Lib.hid (chain B7.out b8)
    have EQ2 := Lib.hid (fun w' => eqPgS a8 a2 0 0 0 (pf i) pg w' (by omega) (.inl rfl) (.inl rfl))
    clear b8
    go_wp2_with fail
    refine (EQ2.out _).mono ?_
    rintro e w9 ⟨rfl, b9⟩
    have B9 := Lib.hid (chain B8.out b9)
    clear b9
    go_wp2_with fail
    refine (heldPg0 a4 0 _).mono ?_
    rintro e w10 ⟨rfl, rfl⟩
    go_wp2
    go_ret
    exact ⟨rfl, B9.out⟩
  · obtain ⟨-, -, -, ⟨g1, g2⟩, -⟩ := okP_out hok
    obtain ⟨G, rfl⟩ : ∃ G : Nat, g = G := ⟨g.toNat, by omega⟩
    have S := Lib.hid (specYes i k m n G r hok (by omega))
    have I := Lib.hid (implYes i k m n G r hok (by omega))
    clear hok
    go_enter Try.func10, Try.ntmps10
    go_wp2_with fail
    refine (T.out _).mono ?_
    rintro e w1 ⟨rfl, b1⟩
    have B1 := Lib.hid (chain L.out b1)
    have X1 := Lib.hid (X.out.later b1)
    clear b1
    go_wp2_with fail
    refine (S.out _).mono ?_
    rintro e w2 ⟨a2, c2, rfl, R2, b2⟩
    have B2 := Lib.hid (chain B1.out b2)
    have R2 := Lib.hid R2
    have X2' := Lib.hid (X1.out.later b2)
    have X2 := X2'.out
    have x0 := X2.cells 0 _ rfl
    have x1 := X2.cells 1 _ rfl
    have x2 := X2.cells 2 _ rfl
    have x3 := X2.cells 3 _ rfl
    have x4 := X2.cells 4 _ rfl
    have x5 := X2.cells 5 _ rfl
    clear b2 X2
    go_wp2_with fail
    refine (T.out _).mono ?_
    rintro e w3 ⟨rfl, b3⟩
    have B23 := Lib.hid b3
    clear b3 x0 x1 x2 x3 x4 x5
    go_wp2_with fail
    refine (I.out _).mono ?_
    rintro e w4 ⟨q4, rfl, K4⟩
    have B24 := Lib.hid (chain B23.out K4.below)
    have NW := Lib.hid (show w2.heap.size ≤ q4 from Nat.le_trans B23.out.size K4.new)
    have T4 := Lib.hid (There.of K4)
    have EQ := Lib.hid (eqPgS (some ⟨q4, 0, none⟩) a2 G c2 G (pf i) pg w4 (by omega) K4.recs (R2.out.below B24.out))
    clear K4
    go_wp2_with fail
    refine EQ.out.mono ?_
    rintro e w5 ⟨rfl, b5⟩
    have B25 := Lib.hid (chain B24.out b5)
    have MK := Lib.hid (markPgS q4 G G (by omega) w5 (T4.out.below b5))
    clear b5
    go_wp2_with fail
    refine MK.out.mono ?_
    rintro e w6 ⟨rfl, M6, lt6, g6⟩
    have B26 := Lib.hid (B25.out.grown g6 B25.out.size (fun c hc => by cases hc; exact NW.out))
    have HM := Lib.hid (heldPgS q4 G G (by omega) w6 M6)
    have M6 := Lib.hid M6
    clear g6
    go_wp2_with fail
    refine HM.out.mono ?_
    rintro e w7 ⟨rfl, rfl⟩
    have X6 := X2'.out.later B26.out
    have x0 := X6.cells 0 _ rfl
    have x1 := X6.cells 1 _ rfl
    have x2 := X6.cells 2 _ rfl
    have x3 := X6.cells 3 _ rfl
    have x4 := X6.cells 4 _ rfl
    have x5 := X6.cells 5 _ rfl
    clear X6
    go_wp2_with fail
    refine (T.out _).mono ?_
    rintro e w7 ⟨rfl, b7⟩
    have B67 := Lib.hid b7
    clear b7 x0 x1 x2 x3 x4 x5
    go_wp2_with fail
    refine (I.out _).mono ?_
    rintro e w8 ⟨q8, rfl, K8⟩
    have B68 := Lib.hid (chain B67.out K8.below)
    have EQ2 := Lib.hid (eqPgS (some ⟨q8, 0, none⟩) a2 G c2 G (pf i) pg w8 (by omega) K8.recs (R2.out.below (chain B26.out B68.out)))
    clear K8
    go_wp2_with fail
    refine EQ2.out.mono ?_
    rintro e w9 ⟨rfl, b9⟩
    have B69 := Lib.hid (chain B68.out b9)
    have HM2 := Lib.hid (heldPgS q4 G G (by omega) w9 (fun j hj => (B69.out.cell (p := ⟨q4, j, none⟩) lt6).trans (M6.out j hj)))
    clear b9
    go_wp2_with fail
    refine HM2.out.mono ?_
    rintro e w10 ⟨rfl, rfl⟩
    go_wp2
    go_ret
    exact ⟨rfl, chain B2.out (chain B26.out B69.out)⟩
end Go.Proofs.Ytgfpngjfhmiphaa.Po
