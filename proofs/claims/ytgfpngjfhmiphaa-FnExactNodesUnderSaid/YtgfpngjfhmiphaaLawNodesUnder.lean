/-
  The exact law of NodesUnder: the program's answer is the model's, it is the call's own, and the tree is left as it was.
-/
import Derived.Test.YtgfpngjfhmiphaaTnod
import Derived.Test.YtgfpngjfhmiphaaLawDraws
namespace Go.Proofs.Ytgfpngjfhmiphaa.Tm
open Go.RowKit Go.Proofs.Ytgfpngjfhmiphaa.GfI Go.Proofs.Ytgfpngjfhmiphaa.GfS Go.Proofs.Ytgfpngjfhmiphaa.MixC Go.Proofs.Ytgfpngjfhmiphaa.Ml
open Go.Proofs.Ytgfpngjfhmiphaa.Gf2 (OwnS)
open Go.Proofs.Ytgfpngjfhmiphaa.Gf2 (eqL markL)
open Go.Proofs.Ytgfpngjfhmiphaa.Ch (own_lt)
open Go.Proofs.Ytgfpngjfhmiphaa.It (lay chain)
open Go.Proofs.Ytgfpngjfhmiphaa.Bk (tval TreeSz MT Span markTree totB_tc tcN)
open Go.Proofs.Ytgfpngjfhmiphaa.Sg (BxN)
set_option linter.unusedVariables false
set_option linter.unusedSimpArgs false

theorem sz_more {T : TD} (h : 0 ≤ TreeSz T.dn T.bn T.L 1048576) : T.dn ≤ 1048576 ∧ T.bn ≤ 1048576 ∧ tcN (fun i => (T.L i).length) T.bn ≤ 1048576 := by
  unfold TreeSz at h
  split at h
  · rename_i q
    rw [totB_tc] at q
    have : (T.dn : Int) + (T.bn + tcN (fun i => (T.L i).length) T.bn : Nat) ≤ 1048576 := q
    omega
  · omega

set_option maxRecDepth 100000 in
set_option maxHeartbeats 8000000 in
theorem fnNodesUnder (T : TD) (A : TA) (x : Int) (wx : (Lit.int .i64 x).wf = true) (w : World) (h : TArg w T A) :
    Calls Try.prog 3 #[A.val T, .int .i64 x] w (Ret (.bool true) w) := by
  have L := Lib.hid (lay w (.cells #[.slice A.da T.dn A.dc, .slice A.ba T.bn A.bc] 25))
  have XH := Lib.hid (BxN.new w #[.slice A.da T.dn A.dc, .slice A.ba T.bn A.bc] 25)
  have SZ := Lib.hid (szT T A 1048576 (by omega) (by omega) _ (h.below L.out))
  by_cases q : 0 ≤ TreeSz T.dn T.bn T.L 1048576
  · have Z := sz_of q (Int.le_refl _)
    obtain ⟨s1, s2, s3⟩ := sz_more q
    have CP := Lib.hid (fun w' (b : Below w.heap.size w w') => toT T A w' Z (h.tin.below b))
    have CM := Lib.hid (fun w' (b : Below w.heap.size w w') => toM T A w' Z (h.tin.below b))
    have MK := Lib.hid (fun lo hi p q dc bc J w' (m : MT lo hi w' p q T.dn T.bn J (fun i => (T.L i).length)) => markTree lo hi p q T.dn T.bn dc bc J (fun i => (T.L i).length) s1 s2 s3 w' m)
    have C2 := Lib.hid (fun (B : TA) w' (k : TIn w' T B) => (eqT T · B w' Z · k))
    obtain ⟨ok, hok⟩ := exB T.Ok
    have SP := Lib.hid (fun (B : TA) w' (k : TIn w' T B) => specNodesUnder T B x w' Z k hok)
    have IM := Lib.hid (fun (B : TA) w' (k : TIn w' T B) => implNodesUnder T B x w' Z h.wf wx k hok)
    have ZL := NA_len (x := x) hok
    clear Z h hok
    generalize NA ok T x = zs at *
    generalize NB ok T x = y at *
    have EL := Lib.hid (fun w' a b c1 c2 (k1 : Words w' a zs) (k2 : Words w' b zs) => eqL a b c1 c2 zs w' (by omega) k1 k2)
    have ML := Lib.hid (fun W D a c w' (O : OwnS W w' a zs) hD => markL W D a c zs 1 (by omega) (by omega) (by omega) w' O hD)
    have HL := Lib.hid (fun w' a c (m : Marks w' a zs.length 1) => heldInt64S a zs.length c 1 (by omega) (by omega) (by omega) w' m)
    generalize TreeSz T.dn T.bn T.L 1048576 = lf at *
    obtain ⟨da, dc, ba, bc, I, C⟩ := A
    dsimp only at L XH SZ CP CM ⊢
    obtain ⟨dn, hdn⟩ : ∃ dn, dn = T.dn := ⟨_, rfl⟩
    obtain ⟨bn, hbn⟩ : ∃ bn, bn = T.bn := ⟨_, rfl⟩
    have E : ∀ a b c d I C, TA.val ⟨a, b, c, d, I, C⟩ T = tval (.slice a dn b) (.slice c bn d) := fun _ _ _ _ _ _ => by rw [hdn, hbn]
    have E2 : ∀ a b c d, tval (.slice a T.dn b) (.slice c T.bn d) = tval (.slice a dn b) (.slice c bn d) := fun _ _ _ _ => by rw [hdn, hbn]
    rw [E] at SZ CP CM ⊢
    rw [← hdn, ← hbn] at L XH SZ MK
    have HDB := Lib.hid (And.intro hdn hbn)
    clear hdn hbn
    go_enter Try.func3, Try.ntmps3
    go_wp2_with fail
    refine SZ.out.mono ?_
    rintro e w1 ⟨rfl, b1⟩
    have X1 := XH.out.later b1
    have B1 := Lib.hid (chain L.out b1)
    have x0 := X1.cells 0 _ rfl
    have x1 := X1.cells 1 _ rfl
    have X1 := Lib.hid X1
    clear b1
    go_wp2_with fail
    refine (CP.out _ B1.out).mono ?_
    rintro e w2 ⟨⟨a2, c2, d2, e2, I2, C2'⟩, rfl, K2, b2⟩
    have SP2 := Lib.hid (SP.out _ _ K2)
    rw [E] at SP2 ⊢
    go_wp2_with fail
    refine SP2.out.mono ?_
    rintro e w3 ⟨asp, cs, rfl, WS, b3⟩
    have X3 := X1.out.later (chain b2 b3)
    have B3 := Lib.hid (chain B1.out (chain b2 b3))
    have WS := Lib.hid WS
    clear x0 x1 b2 b3 K2 SP2 SP X1
    have x0 := X3.cells 0 _ rfl
    have x1 := X3.cells 1 _ rfl
    have X3 := Lib.hid X3
    go_wp2_with fail
    refine (CM.out _ B3.out).mono ?_
    rintro e w4 ⟨p4, q4, dc4, bc4, I4, C4, J4, rfl, K4, M4, b4⟩
    have M4 : MT w3.heap.size w4.heap.size w4 p4 q4 dn bn J4 (fun i => (T.L i).length) := by rw [HDB.out.1, HDB.out.2]; exact M4
    have L4 := Lib.hid (lay w4 (.cells #[.slice (some ⟨p4, 0, none⟩) dn dc4, .slice (some ⟨q4, 0, none⟩) bn bc4] 33))
    have Y4 := Lib.hid (BxN.new w4 #[.slice (some ⟨p4, 0, none⟩) dn dc4, .slice (some ⟨q4, 0, none⟩) bn bc4] 33)
    have K4 := Lib.hid (K4.below L4.out)
    have M4 := Lib.hid (M4.later L4.out)
    have B34 := Lib.hid (chain b4 L4.out)
    have IM4 := Lib.hid (IM.out _ _ K4.out)
    have S4 := Lib.hid (show w4.heap.size ≤ (w4.alloc (.cells #[.slice (some ⟨p4, 0, none⟩) dn dc4, .slice (some ⟨q4, 0, none⟩) bn bc4] 33)).heap.size from L4.out.size)
    rw [E] at IM4
    rw [E2]
    clear b4 x0 x1
    go_wp2_with fail
    refine IM4.out.mono ?_
    rintro e w5 ⟨ag, cg, rfl, OG, b5⟩
    have B35 := Lib.hid (chain B34.out b5)
    have K5 := Lib.hid (K4.out.below b5)
    have M5 := Lib.hid (M4.out.later b5)
    have Y5 := Lib.hid (Y4.out.later b5)
    have OG := Lib.hid OG
    have WS5 := Lib.hid (WS.out.below B35.out)
    have WG5 := Lib.hid OG.out.words
    clear b5 IM4 K4 M4 Y4
    go_wp2_with fail
    refine (EL.out _ _ _ _ _ WG5.out WS5.out).mono ?_
    rintro e w6 ⟨rfl, b6⟩
    have B36 := Lib.hid (chain B35.out b6)
    have K6 := Lib.hid (K5.out.below b6)
    have M6 := Lib.hid (M5.out.later b6)
    have Y6 := Lib.hid (Y5.out.later b6)
    have OG6 := Lib.hid (OG.out.below b6)
    have X6 := Lib.hid (X3.out.later B36.out)
    clear b6 K5 M5 Y5 WS5 WG5
    have x0 := X6.out.cells 0 _ rfl
    have x1 := X6.out.cells 1 _ rfl
    have y0 := Y6.out.cells 0 _ rfl
    have y1 := Y6.out.cells 1 _ rfl
    go_wp2_with fail
    go_region_held3 (fun w' => w'.cell? ⟨w.heap.size, 0, none⟩ = some (.slice da dn dc) ∧ w'.cell? ⟨w.heap.size, 1, none⟩ = some (.slice ba bn bc) ∧ w'.cell? ⟨w4.heap.size, 0, none⟩ = some (.slice (some ⟨p4, 0, none⟩) dn dc4) ∧ w'.cell? ⟨w4.heap.size, 1, none⟩ = some (.slice (some ⟨q4, 0, none⟩) bn bc4)) (go_keep)
      (first
        | (go_at_call 13; refine (CP.out _ (chain B3.out B36.out).drew).mono ?_; rintro e w8 ⟨⟨a8, c8, d8, e8, I8, C8⟩, rfl, K8, b8⟩; have b8 := undrew b8; have CC := Lib.hid (C2.out _ _ K8 _ (K6.out.below b8)); rw [E, E] at CC; rw [E]; have B38 := Lib.hid (chain B36.out b8); have X8 := X6.out.later b8; have Y8 := Y6.out.later b8; have M8 := Lib.hid (M6.out.later b8); have OG8 := Lib.hid (OG6.out.below b8); have r0 := X8.cells 0 _ rfl; have r1 := X8.cells 1 _ rfl; have s0 := Y8.cells 0 _ rfl; have s1 := Y8.cells 1 _ rfl; have X8 := Lib.hid X8; have Y8 := Lib.hid Y8; clear K8 b8)
        | (go_at_call 16; refine CC.out.mono ?_; rintro e w9 ⟨rfl, b9⟩; have B39 := Lib.hid (chain B38.out b9); have X9 := X8.out.later b9; have Y9 := Y8.out.later b9; have M9 := Lib.hid (M8.out.later b9); have OG9 := Lib.hid (OG8.out.below b9); have t0 := X9.cells 0 _ rfl; have t1 := X9.cells 1 _ rfl; have v0 := Y9.cells 0 _ rfl; have v1 := Y9.cells 1 _ rfl; clear b9))
    all_goals
      have MK9 := Lib.hid (MK.out _ _ _ _ dc4 bc4 _ _ M9.out)
      clear x0 x1 y0 y1 r0 r1 s0 s1
      go_wp2_with fail
      refine MK9.out.mono ?_
      rintro e w10 ⟨mk, mk0, rfl, w9', b9', sz9, SP9⟩
      have B310 := Lib.hid (SP9.below (chain B39.out b9') (Nat.le_refl _) (by have := B39.out.size; have := b9'.size; omega))
      have OG10 := Lib.hid (OwnS.span (OG9.out.below b9') SP9 S4.out)
      have WS10 := Lib.hid (WS.out.below B310.out)
      have D1 : decide (mk < 0) = false := decide_eq_false (by omega)
      clear t0 t1 v0 v1 X9 Y9 b9' SP9 sz9
      go_wp2_with fail
      refine (EL.out _ _ _ _ _ OG10.out.words WS10.out).mono ?_
      rintro e w11 ⟨rfl, b11⟩
      have B311 := Lib.hid (chain B310.out b11)
      have OG11 := Lib.hid (OG10.out.below b11)
      clear b11 D1
      go_wp2_with fail
      refine (ML.out _ w5.heap.size _ _ _ OG11.out (own_lt OG.out)).mono ?_
      rintro e w12 ⟨rfl, M, r, g12, hr12⟩
      have L34 := B34.out.size
      have B312 := Lib.hid (B311.out.grown g12 B311.out.size (fun c hc => by have := (hr12 c hc).1; omega))
      have MM := Lib.hid M
      clear M g12 hr12 L34
      go_wp2_with fail
      refine (HL.out _ _ _ MM.out).mono ?_
      rintro e w13 ⟨rfl, rfl⟩
      have X12 := X3.out.later B312.out
      have x0 := X12.cells 0 _ rfl
      have x1 := X12.cells 1 _ rfl
      go_wp2_with fail
      refine (CP.out _ (chain B3.out B312.out)).mono ?_
      rintro e w14 ⟨⟨a14, c14, d14, e14, I14, C14⟩, rfl, K14, b14⟩
      have IM14 := Lib.hid (IM.out _ _ K14)
      rw [E] at IM14 ⊢
      have B314 := Lib.hid (chain B312.out b14)
      have M14 := Lib.hid (MM.out.below b14)
      clear K14 b14 x0 x1
      go_wp2_with fail
      refine IM14.out.mono ?_
      rintro e w15 ⟨ah, ch, rfl, OH, b15⟩
      have B315 := Lib.hid (chain B314.out b15)
      have M15 := Lib.hid (M14.out.below b15)
      have WH := Lib.hid OH.words
      have WS15 := Lib.hid (WS.out.below B315.out)
      clear b15 OH
      go_wp2_with fail
      refine (EL.out _ _ _ _ _ WH.out WS15.out).mono ?_
      rintro e w16 ⟨rfl, b16⟩
      have B316 := Lib.hid (chain B315.out b16)
      have M16 := Lib.hid (M15.out.below b16)
      clear b16
      go_wp2_with fail
      refine (HL.out _ _ _ M16.out).mono ?_
      rintro e w17 ⟨rfl, rfl⟩
      go_wp2
      go_ret
      exact ⟨rfl, chain B3.out B316.out⟩
  · clear h
    have q' : TreeSz T.dn T.bn T.L 1048576 < 0 := by omega
    clear q
    generalize TreeSz T.dn T.bn T.L 1048576 = lf at *
    obtain ⟨da, dc, ba, bc, I, C⟩ := A
    dsimp only at L XH SZ ⊢
    obtain ⟨dn, hdn⟩ : ∃ dn, dn = T.dn := ⟨_, rfl⟩
    obtain ⟨bn, hbn⟩ : ∃ bn, bn = T.bn := ⟨_, rfl⟩
    have E : ∀ a b c d I C, TA.val ⟨a, b, c, d, I, C⟩ T = tval (.slice a dn b) (.slice c bn d) := fun _ _ _ _ _ _ => by rw [hdn, hbn]
    rw [E] at SZ ⊢
    rw [← hdn, ← hbn] at L XH SZ
    clear hdn hbn
    go_enter Try.func3, Try.ntmps3
    go_wp2_with fail
    refine SZ.out.mono ?_
    rintro e w1 ⟨rfl, b1⟩
    have B1 := Lib.hid (chain L.out b1)
    clear b1
    go_wp2
    go_ret
    exact ⟨rfl, B1.out⟩
theorem lawNodesUnder (da : Option Addr) (dn dc : Nat) (f g : Nat → Int) (ba : Option Addr) (bn bc : Nat) (F G : Nat → Int) (I : Nat → Option Addr) (L : Nat → List Int) (C : Nat → Nat) (x : Int) (w : World) (h : Op.TreeArg w da dn f g ba bn F G I L C) (wx : (Lit.int .i64 x).wf = true) :
    Calls Try.prog 3 #[.agg #[.slice da dn dc, .slice ba bn bc], .int .i64 x] w fun e w' => e = .returned (.bool true) ∧ Below w.heap.size w w' :=
  fnNodesUnder ⟨dn, f, g, bn, F, G, L⟩ ⟨da, dc, ba, bc, I, C⟩ x wx w (tArg_of h)
end Go.Proofs.Ytgfpngjfhmiphaa.Tm
