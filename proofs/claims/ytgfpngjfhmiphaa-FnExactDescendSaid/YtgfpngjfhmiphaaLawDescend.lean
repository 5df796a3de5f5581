/-
  The exact law of Descend: the program's answer is the model's, and the tree is left as it was.
-/
import Derived.Test.YtgfpngjfhmiphaaTdsa
namespace Go.Proofs.Ytgfpngjfhmiphaa.Tm
open Go.RowKit Go.Proofs.Ytgfpngjfhmiphaa.GfI Go.Proofs.Ytgfpngjfhmiphaa.GfS Go.Proofs.Ytgfpngjfhmiphaa.MixC
open Go.Proofs.Ytgfpngjfhmiphaa.It (lay chain)
open Go.Proofs.Ytgfpngjfhmiphaa.Bk (tval TreeSz)
open Go.Proofs.Ytgfpngjfhmiphaa.Sg (BxN)
set_option linter.unusedVariables false
set_option linter.unusedSimpArgs false

set_option maxRecDepth 100000 in
set_option maxHeartbeats 2000000 in
theorem fnDescend (T : TD) (A : TA) (x y z u : Int) (wx : (Lit.int .i64 x).wf = true) (wy : (Lit.int .i64 y).wf = true) (wz : (Lit.int .i64 z).wf = true) (wu : (Lit.int .i64 u).wf = true) (w : World) (h : TArg w T A) :
    Calls Try.prog 6 #[A.val T, .int .i64 x, .int .i64 y, .int .i64 z, .int .i64 u] w (Ret (.bool true) w) := by
  have L := Lib.hid (lay w (.cells #[.slice A.da T.dn A.dc, .slice A.ba T.bn A.bc] 25))
  have XH := Lib.hid (BxN.new w #[.slice A.da T.dn A.dc, .slice A.ba T.bn A.bc] 25)
  have SZ := Lib.hid (szT T A 1048576 (by omega) (by omega) _ (h.below L.out))
  by_cases q : 0 ≤ TreeSz T.dn T.bn T.L 1048576
  · have Z := sz_of q (Int.le_refl _)
    have CP := Lib.hid (fun w' (b : Below w.heap.size w w') => toT T A w' Z (h.tin.below b))
    have C2 := Lib.hid (fun (B : TA) w' (k : TIn w' T B) => (eqT T · B w' Z · k))
    obtain ⟨ok, hok⟩ := exB T.Ok
    have SP := Lib.hid (fun (B : TA) w' (k : TIn w' T B) => specDescend T B x y z u w' Z k hok)
    have IM := Lib.hid (fun (B : TA) w' (k : TIn w' T B) => implDescend T B x y z u w' Z h.wf wx k hok)
    obtain ⟨r0, r1, hans⟩ := DscAns_two ok T x y z u
    rw [hans] at SP IM
    clear Z h hok hans
    generalize TreeSz T.dn T.bn T.L 1048576 = lf at *
    obtain ⟨da, dc, ba, bc, I, C⟩ := A
    dsimp only at L XH SZ CP ⊢
    obtain ⟨dn, hdn⟩ : ∃ dn, dn = T.dn := ⟨_, rfl⟩
    obtain ⟨bn, hbn⟩ : ∃ bn, bn = T.bn := ⟨_, rfl⟩
    have E : ∀ a b c d I C, TA.val ⟨a, b, c, d, I, C⟩ T = tval (.slice a dn b) (.slice c bn d) := fun _ _ _ _ _ _ => by rw [hdn, hbn]
    rw [E] at SZ CP ⊢
    rw [← hdn, ← hbn] at L XH SZ
    clear hdn hbn
    go_enter Try.func6, Try.ntmps6
    go_wp2_with fail
    refine SZ.out.mono ?_
    rintro e w1 ⟨rfl, b1⟩
    have X1 := XH.out.later b1
    have B1 := Lib.hid (chain L.out b1)
    have x0 := X1.cells 0 _ rfl
    have x1 := X1.cells 1 _ rfl
    have X1 := Lib.hid X1
    clear b1
    go_wp2_with fail
    refine (CP.out _ B1.out).mono ?_
    rintro e w2 ⟨⟨a2, c2, d2, e2, I2, C2'⟩, rfl, K2, b2⟩
    have SP2 := Lib.hid (SP.out _ _ K2)
    rw [E] at SP2 ⊢
    go_wp2_with fail
    refine SP2.out.mono ?_
    rintro e w3 ⟨rfl, b3⟩
    have X3 := X1.out.later (chain b2 b3)
    have B3 := Lib.hid (chain B1.out (chain b2 b3))
    clear x0 x1 b2 b3 K2 SP2 SP
    have x0 := X3.cells 0 _ rfl
    have x1 := X3.cells 1 _ rfl
    have X3 := Lib.hid X3
    go_wp2_with fail
    refine (CP.out _ B3.out).mono ?_
    rintro e w4 ⟨⟨a4, c4, d4, e4, I4, C4⟩, rfl, K4, b4⟩
    have L4 := Lib.hid (lay w4 (.cells #[.slice a4 dn c4, .slice d4 bn e4] 33))
    have Y4 := Lib.hid (BxN.new w4 #[.slice a4 dn c4, .slice d4 bn e4] 33)
    have K4 := Lib.hid (K4.below L4.out)
    have X4 := Lib.hid ((X3.out.later b4).later L4.out)
    have B4 := Lib.hid (chain (chain B3.out b4) L4.out)
    have IM4 := Lib.hid (IM.out _ _ K4.out)
    rw [E] at IM4 ⊢
    clear b4 IM
    go_wp2_with fail
    refine IM4.out.mono ?_
    rintro e w5 ⟨rfl, b5⟩
    have Y5 := Y4.out.later b5
    have X5 := X4.out.later b5
    have K5 := Lib.hid (K4.out.below b5)
    have B5 := Lib.hid (chain B4.out b5)
    clear b5 x0 x1
    have x0 := X5.cells 0 _ rfl
    have x1 := X5.cells 1 _ rfl
    have y0 := Y5.cells 0 _ rfl
    have y1 := Y5.cells 1 _ rfl
    have X5 := Lib.hid X5
    have Y5 := Lib.hid Y5
    go_wp2_with fail
    go_region_held3 (fun w' => w'.cell? ⟨w.heap.size, 0, none⟩ = some (.slice da dn dc) ∧ w'.cell? ⟨w.heap.size, 1, none⟩ = some (.slice ba bn bc) ∧ w'.cell? ⟨w4.heap.size, 0, none⟩ = some (.slice a4 dn c4) ∧ w'.cell? ⟨w4.heap.size, 1, none⟩ = some (.slice d4 bn e4)) (go_keep)
      (first
        | (go_at_call 13; refine (CP.out _ B5.out.drew).mono ?_; rintro e w6 ⟨⟨a6, c6, d6, e6, I6, C6⟩, rfl, K6, b6⟩; have b6 := undrew b6; have CC := Lib.hid (C2.out _ _ K6 _ (K5.out.below b6)); rw [E, E] at CC; rw [E]; have B6 := Lib.hid (chain B5.out b6); have X6 := X5.out.later b6; have Y6 := Y5.out.later b6; have r0 := X6.cells 0 _ rfl; have r1 := X6.cells 1 _ rfl; have s0 := Y6.cells 0 _ rfl; have s1 := Y6.cells 1 _ rfl; have X6 := Lib.hid X6; have Y6 := Lib.hid Y6; clear K6 b6)
        | (go_at_call 16; refine CC.out.mono ?_; rintro e w7 ⟨rfl, b7⟩; have B7 := Lib.hid (chain B6.out b7); have X7 := X6.out.later b7; have Y7 := Y6.out.later b7; have t0 := X7.cells 0 _ rfl; have t1 := X7.cells 1 _ rfl; have v0 := Y7.cells 0 _ rfl; have v1 := Y7.cells 1 _ rfl; clear b7))
    all_goals
      go_wp2
      go_ret
      exact ⟨rfl, B7.out⟩
  · clear h
    have q' : TreeSz T.dn T.bn T.L 1048576 < 0 := by omega
    clear q
    generalize TreeSz T.dn T.bn T.L 1048576 = lf at *
    obtain ⟨da, dc, ba, bc, I, C⟩ := A
    dsimp only at L XH SZ ⊢
    obtain ⟨dn, hdn⟩ : ∃ dn, dn = T.dn := ⟨_, rfl⟩
    obtain ⟨bn, hbn⟩ : ∃ bn, bn = T.bn := ⟨_, rfl⟩
    have E : ∀ a b c d I C, TA.val ⟨a, b, c, d, I, C⟩ T = tval (.slice a dn b) (.slice c bn d) := fun _ _ _ _ _ _ => by rw [hdn, hbn]
    rw [E] at SZ ⊢
    rw [← hdn, ← hbn] at L XH SZ
    clear hdn hbn
    go_enter Try.func6, Try.ntmps6
    go_wp2_with fail
    refine SZ.out.mono ?_
    rintro e w1 ⟨rfl, b1⟩
    have B1 := Lib.hid (chain L.out b1)
    clear b1
    go_wp2
    go_ret
    exact ⟨rfl, B1.out⟩
theorem lawDescend (da : Option Addr) (dn dc : Nat) (f g : Nat → Int) (ba : Option Addr) (bn bc : Nat) (F G : Nat → Int) (I : Nat → Option Addr) (L : Nat → List Int) (C : Nat → Nat) (x y z u : Int) (w : World) (h : Op.TreeArg w da dn f g ba bn F G I L C) (wx : (Lit.int .i64 x).wf = true) (wy : (Lit.int .i64 y).wf = true) (wz : (Lit.int .i64 z).wf = true) (wu : (Lit.int .i64 u).wf = true) :
    Calls Try.prog 6 #[.agg #[.slice da dn dc, .slice ba bn bc], .int .i64 x, .int .i64 y, .int .i64 z, .int .i64 u] w fun e w' => e = .returned (.bool true) ∧ Below w.heap.size w w' :=
  fnDescend ⟨dn, f, g, bn, F, G, L⟩ ⟨da, dc, ba, bc, I, C⟩ x y z u wx wy wz wu w (tArg_of h)
end Go.Proofs.Ytgfpngjfhmiphaa.Tm
