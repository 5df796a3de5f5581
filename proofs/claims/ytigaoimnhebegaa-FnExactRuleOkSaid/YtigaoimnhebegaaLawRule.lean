/-
  The exact law of RuleOk: the program's answer is the model's, and the tree is left as it was.
-/
import Derived.Test.YtigaoimnhebegaaTrule
namespace Go.Proofs.Ytigaoimnhebegaa.Tm
open Go.RowKit Go.Proofs.Ytigaoimnhebegaa.GfI Go.Proofs.Ytigaoimnhebegaa.GfS Go.Proofs.Ytigaoimnhebegaa.MixC
open Go.Proofs.Ytigaoimnhebegaa.It (lay chain)
open Go.Proofs.Ytigaoimnhebegaa.Bk (tval TreeSz)
open Go.Proofs.Ytigaoimnhebegaa.Sg (BxN)
set_option linter.unusedVariables false
set_option linter.unusedSimpArgs false

set_option maxRecDepth 100000 in
set_option maxHeartbeats 4000000 in
theorem fnRuleOk (T : TD) (A : TA) (i r k : Int) (d : Bool) (hr : (Lit.int .i64 r).wf = true) (w : World) (h : TArg w T A) :
    Calls Try.prog 3 #[A.val T, rval i r k d] w (Ret (.bool true) w) := by
  have L := Lib.hid (chain (lay w (.cells #[.slice A.da T.dn A.dc, .slice A.ba T.bn A.bc] 25)) (lay _ (.cells #[.int .i64 i, .int .i64 r, .int .i64 k, .bool d] 27)))
  have XH := Lib.hid ((BxN.new w #[.slice A.da T.dn A.dc, .slice A.ba T.bn A.bc] 25).later (lay _ (.cells #[.int .i64 i, .int .i64 r, .int .i64 k, .bool d] 27)))
  have RH := BxN.new (w.alloc (.cells #[.slice A.da T.dn A.dc, .slice A.ba T.bn A.bc] 25)) #[.int .i64 i, .int .i64 r, .int .i64 k, .bool d] 27
  rw [World.size_alloc] at RH
  have RH := Lib.hid RH
  have SZ := Lib.hid (szT T A 1048576 (by omega) (by omega) _ (h.below L.out))
  by_cases q : 0 ≤ TreeSz T.dn T.bn T.L 1048576
  · have Z := sz_of q (Int.le_refl _)
    have CP := Lib.hid (fun w' (b : Below w.heap.size w w') => toT T A w' Z (h.tin.below b))
    have C2 := Lib.hid (fun (B : TA) w' (k : TIn w' T B) => (eqT T · B w' Z · k))
    obtain ⟨ok, hok⟩ := exB (RuleIn T i r k)
    have SP := Lib.hid (fun (B : TA) w' (K : TIn w' T B) => (specRuleOk T B i r k d w' Z K).mono fun _ _ r => IffB.ret hok r)
    have IM := Lib.hid (fun (B : TA) w' (K : TIn w' T B) => (implRuleOk T B i r k d w' Z h.wf hr K).mono fun _ _ r => IffB.ret hok r)
    have TR := Lib.hid (fun w' => toRule i r k d w')
    clear Z h hok
    generalize TreeSz T.dn T.bn T.L 1048576 = lf at *
    obtain ⟨da, dc, ba, bc, I, C⟩ := A
    dsimp only at L XH RH SZ CP ⊢
    obtain ⟨dn, hdn⟩ : ∃ dn, dn = T.dn := ⟨_, rfl⟩
    obtain ⟨bn, hbn⟩ : ∃ bn, bn = T.bn := ⟨_, rfl⟩
    have E : ∀ a b c d I C, TA.val ⟨a, b, c, d, I, C⟩ T = tval (.slice a dn b) (.slice c bn d) := fun _ _ _ _ _ _ => by rw [hdn, hbn]
    rw [E] at SZ CP ⊢
    rw [← hdn, ← hbn] at L XH RH SZ
    clear hdn hbn
    go_enter Try.func3, Try.ntmps3
    go_wp2_with fail
    refine SZ.out.mono ?_
    rintro e w1 ⟨rfl, b1⟩
    have X1 := XH.out.later b1
    have R1 := RH.out.later b1
    have B1 := Lib.hid (chain L.out b1)
    have x0 := X1.cells 0 _ rfl
    have x1 := X1.cells 1 _ rfl
    have r0 := R1.cells 0 _ rfl
    have r1 := R1.cells 1 _ rfl
    have r2 := R1.cells 2 _ rfl
    have r3 := R1.cells 3 _ rfl
    have X1 := Lib.hid X1
    have R1 := Lib.hid R1
    clear b1
    go_wp2_with fail
    go_region_held3 (fun w' => w'.cell? ⟨w.heap.size, 0, none⟩ = some (.slice da dn dc) ∧ w'.cell? ⟨w.heap.size, 1, none⟩ = some (.slice ba bn bc) ∧ w'.cell? ⟨w.heap.size + 1, 0, none⟩ = some (.int .i64 i) ∧ w'.cell? ⟨w.heap.size + 1, 1, none⟩ = some (.int .i64 r) ∧ w'.cell? ⟨w.heap.size + 1, 2, none⟩ = some (.int .i64 k) ∧ w'.cell? ⟨w.heap.size + 1, 3, none⟩ = some (.bool d)) (go_keep)
      (first
        | (go_at_call 14; refine (CP.out _ B1.out.drew).mono ?_; rintro e w2 ⟨⟨a2, c2, d2, e2, I2, C2'⟩, rfl, K2, b2⟩; have b2 := undrew b2; rw [E]; have K2 := Lib.hid K2; have B2 := Lib.hid (chain B1.out b2); have X2 := X1.out.later b2; have R2 := R1.out.later b2; have x20 := X2.cells 0 _ rfl; have x21 := X2.cells 1 _ rfl; have r20 := R2.cells 0 _ rfl; have r21 := R2.cells 1 _ rfl; have r22 := R2.cells 2 _ rfl; have r23 := R2.cells 3 _ rfl; have X2 := Lib.hid X2; have R2 := Lib.hid R2; clear b2)
        | (go_at_call 15; refine (TR.out _).mono ?_; rintro e w3 ⟨rfl, b3⟩; have K3 := Lib.hid (K2.out.below b3); have B3 := Lib.hid (chain B2.out b3); have X3 := X2.out.later b3; have R3 := R2.out.later b3; have x30 := X3.cells 0 _ rfl; have x31 := X3.cells 1 _ rfl; have r30 := R3.cells 0 _ rfl; have r31 := R3.cells 1 _ rfl; have r32 := R3.cells 2 _ rfl; have r33 := R3.cells 3 _ rfl; have X3 := Lib.hid X3; have R3 := Lib.hid R3; clear b3)
        | (go_at_call 13; have SP3 := Lib.hid (SP.out _ _ K3.out); rw [E] at SP3; refine SP3.out.mono ?_; rintro e w4 ⟨rfl, b4⟩; have B4 := Lib.hid (chain B3.out b4); have X4 := X3.out.later b4; have R4 := R3.out.later b4; have x40 := X4.cells 0 _ rfl; have x41 := X4.cells 1 _ rfl; have r40 := R4.cells 0 _ rfl; have r41 := R4.cells 1 _ rfl; have r42 := R4.cells 2 _ rfl; have r43 := R4.cells 3 _ rfl; have X4 := Lib.hid X4; have R4 := Lib.hid R4; clear b4 SP3))
    clear X1 X2 X3 R1 R2 R3 B1 B2 B3 K2 K3
    go_wp2_with fail
    refine (CP.out _ B4.out).mono ?_
    rintro e w6 ⟨⟨a6, c6, d6, e6, I6, C6⟩, rfl, K6, b6⟩
    rw [E]
    have L6 := Lib.hid (lay w6 (.cells #[.slice a6 dn c6, .slice d6 bn e6] 33))
    have Y6 := BxN.new w6 #[.slice a6 dn c6, .slice d6 bn e6] 33
    have K6 := Lib.hid (K6.below L6.out)
    have X6 := (X4.out.later b6).later L6.out
    have R6 := (R4.out.later b6).later L6.out
    have B6 := Lib.hid (chain (chain B4.out b6) L6.out)
    have x60 := X6.cells 0 _ rfl
    have x61 := X6.cells 1 _ rfl
    have r60 := R6.cells 0 _ rfl
    have r61 := R6.cells 1 _ rfl
    have r62 := R6.cells 2 _ rfl
    have r63 := R6.cells 3 _ rfl
    have y60 := Y6.cells 0 _ rfl
    have y61 := Y6.cells 1 _ rfl
    have X6 := Lib.hid X6
    have R6 := Lib.hid R6
    have Y6 := Lib.hid Y6
    clear b6
    go_wp2_with fail
    go_region_held3 (fun w' => w'.cell? ⟨w.heap.size, 0, none⟩ = some (.slice da dn dc) ∧ w'.cell? ⟨w.heap.size, 1, none⟩ = some (.slice ba bn bc) ∧ w'.cell? ⟨w.heap.size + 1, 0, none⟩ = some (.int .i64 i) ∧ w'.cell? ⟨w.heap.size + 1, 1, none⟩ = some (.int .i64 r) ∧ w'.cell? ⟨w.heap.size + 1, 2, none⟩ = some (.int .i64 k) ∧ w'.cell? ⟨w.heap.size + 1, 3, none⟩ = some (.bool d) ∧ w'.cell? ⟨w6.heap.size, 0, none⟩ = some (.slice a6 dn c6) ∧ w'.cell? ⟨w6.heap.size, 1, none⟩ = some (.slice d6 bn e6)) (go_keep)
      (first
        | (go_at_call 15; refine (TR.out _).mono ?_; rintro e w7 ⟨rfl, b7⟩; have b7 := undrew b7; have K7 := Lib.hid (K6.out.below b7); have B7 := Lib.hid (chain B6.out b7); have X7 := X6.out.later b7; have R7 := R6.out.later b7; have Y7 := Y6.out.later b7; have x70 := X7.cells 0 _ rfl; have x71 := X7.cells 1 _ rfl; have r70 := R7.cells 0 _ rfl; have r71 := R7.cells 1 _ rfl; have r72 := R7.cells 2 _ rfl; have r73 := R7.cells 3 _ rfl; have y70 := Y7.cells 0 _ rfl; have y71 := Y7.cells 1 _ rfl; have X7 := Lib.hid X7; have R7 := Lib.hid R7; have Y7 := Lib.hid Y7; clear b7)
        | (go_at_call 16; have IM7 := Lib.hid (IM.out _ _ K7.out); rw [E] at IM7; refine IM7.out.mono ?_; rintro e w8 ⟨rfl, b8⟩; have K8 := Lib.hid (K7.out.below b8); have B8 := Lib.hid (chain B7.out b8); have X8 := X7.out.later b8; have R8 := R7.out.later b8; have Y8 := Y7.out.later b8; have x80 := X8.cells 0 _ rfl; have x81 := X8.cells 1 _ rfl; have r80 := R8.cells 0 _ rfl; have r81 := R8.cells 1 _ rfl; have r82 := R8.cells 2 _ rfl; have r83 := R8.cells 3 _ rfl; have y80 := Y8.cells 0 _ rfl; have y81 := Y8.cells 1 _ rfl; have X8 := Lib.hid X8; have Y8 := Lib.hid Y8; have R8 := Lib.hid R8; clear b8 IM7))
    clear X6 R6 X7 R7 Y6 Y7 B6 B7 K6 K7
    go_wp2_with fail
    go_region_held3 (fun w' => w'.cell? ⟨w.heap.size, 0, none⟩ = some (.slice da dn dc) ∧ w'.cell? ⟨w.heap.size, 1, none⟩ = some (.slice ba bn bc) ∧ w'.cell? ⟨w.heap.size + 1, 0, none⟩ = some (.int .i64 i) ∧ w'.cell? ⟨w.heap.size + 1, 1, none⟩ = some (.int .i64 r) ∧ w'.cell? ⟨w.heap.size + 1, 2, none⟩ = some (.int .i64 k) ∧ w'.cell? ⟨w.heap.size + 1, 3, none⟩ = some (.bool d) ∧ w'.cell? ⟨w6.heap.size, 0, none⟩ = some (.slice a6 dn c6) ∧ w'.cell? ⟨w6.heap.size, 1, none⟩ = some (.slice d6 bn e6)) (go_keep)
      (first
        | (go_at_call 14; refine (CP.out _ B8.out.drew).mono ?_; rintro e w9 ⟨⟨a9, c9, d9, e9, I9, C9⟩, rfl, K9, b9⟩; have b9 := undrew b9; have CC := Lib.hid (C2.out _ _ K9 _ (K8.out.below b9)); rw [E, E] at CC; rw [E]; have B9 := Lib.hid (chain B8.out b9); have X9 := X8.out.later b9; have R9 := R8.out.later b9; have Y9 := Y8.out.later b9; have x90 := X9.cells 0 _ rfl; have x91 := X9.cells 1 _ rfl; have r90 := R9.cells 0 _ rfl; have r91 := R9.cells 1 _ rfl; have r92 := R9.cells 2 _ rfl; have r93 := R9.cells 3 _ rfl; have y90 := Y9.cells 0 _ rfl; have y91 := Y9.cells 1 _ rfl; have X9 := Lib.hid X9; have R9 := Lib.hid R9; have Y9 := Lib.hid Y9; clear K9 b9)
        | (go_at_call 17; refine CC.out.mono ?_; rintro e w10 ⟨rfl, b10⟩; have B10 := Lib.hid (chain B9.out b10); have X10 := X9.out.later b10; have R10 := R9.out.later b10; have Y10 := Y9.out.later b10; have x100 := X10.cells 0 _ rfl; have x101 := X10.cells 1 _ rfl; have r100 := R10.cells 0 _ rfl; have r101 := R10.cells 1 _ rfl; have r102 := R10.cells 2 _ rfl; have r103 := R10.cells 3 _ rfl; have y100 := Y10.cells 0 _ rfl; have y101 := Y10.cells 1 _ rfl; clear b10))
    all_goals
      go_wp2
      go_ret
      exact ⟨rfl, B10.out⟩
  · clear h
    have q' : TreeSz T.dn T.bn T.L 1048576 < 0 := by omega
    clear q
    generalize TreeSz T.dn T.bn T.L 1048576 = lf at *
    obtain ⟨da, dc, ba, bc, I, C⟩ := A
    dsimp only at L XH RH SZ ⊢
    obtain ⟨dn, hdn⟩ : ∃ dn, dn = T.dn := ⟨_, rfl⟩
    obtain ⟨bn, hbn⟩ : ∃ bn, bn = T.bn := ⟨_, rfl⟩
    have E : ∀ a b c d I C, TA.val ⟨a, b, c, d, I, C⟩ T = tval (.slice a dn b) (.slice c bn d) := fun _ _ _ _ _ _ => by rw [hdn, hbn]
    rw [E] at SZ ⊢
    rw [← hdn, ← hbn] at L XH RH SZ
    clear hdn hbn
    go_enter Try.func3, Try.ntmps3
    go_wp2_with fail
    refine SZ.out.mono ?_
    rintro e w1 ⟨rfl, b1⟩
    have B1 := Lib.hid (chain L.out b1)
    clear b1
    go_wp2
    go_ret
    exact ⟨rfl, B1.out⟩
theorem lawRuleOk (da : Option Addr) (dn dc : Nat) (f g : Nat → Int) (ba : Option Addr) (bn bc : Nat) (F G : Nat → Int) (I : Nat → Option Addr) (L : Nat → List Int) (C : Nat → Nat) (i r k : Int) (d : Bool) (w : World) (h : Op.TreeArg w da dn f g ba bn F G I L C) (hr : (Lit.int .i64 i).wf = true ∧ (Lit.int .i64 r).wf = true ∧ (Lit.int .i64 k).wf = true) :
    Calls Try.prog 3 #[.agg #[.slice da dn dc, .slice ba bn bc], .agg #[.int .i64 i, .int .i64 r, .int .i64 k, .bool d]] w fun e w' => e = .returned (.bool true) ∧ Below w.heap.size w w' :=
  fnRuleOk ⟨dn, f, g, bn, F, G, L⟩ ⟨da, dc, ba, bc, I, C⟩ i r k d hr.2.1 w (tArg_of h)
end Go.Proofs.Ytigaoimnhebegaa.Tm
