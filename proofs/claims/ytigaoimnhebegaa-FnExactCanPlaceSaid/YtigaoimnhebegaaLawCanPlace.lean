/-
  The exact law of CanPlace: the program's answer is the model's, and the arguments are left as they were.
-/
import Derived.Test.YtigaoimnhebegaaTcas
namespace Go.Proofs.Ytigaoimnhebegaa.Tm
open Go.RowKit Go.Proofs.Ytigaoimnhebegaa.GfI Go.Proofs.Ytigaoimnhebegaa.GfS Go.Proofs.Ytigaoimnhebegaa.MixC
open Go.Proofs.Ytigaoimnhebegaa.It (lay chain)
open Go.Proofs.Ytigaoimnhebegaa.Bk (tval TreeSz)
open Go.Proofs.Ytigaoimnhebegaa.Sg (BxN)
set_option linter.unusedVariables false
set_option linter.unusedSimpArgs false

theorem CpV_two (ok : Bool) (n : Nat) : ∃ r0 r1, CpV ok n = .tuple #[.int .i64 r0, .bool r1] := by
  unfold CpV
  split
  · exact ⟨_, _, rfl⟩
  · exact ⟨_, _, rfl⟩
set_option maxRecDepth 100000 in
set_option maxHeartbeats 8000000 in
theorem fnCanPlace (T : TD) (A : TA) (i r k : Int) (d : Bool) (hr : (Lit.int .i64 r).wf = true) (a : Option Addr) (cap : Nat) (z : List Int) (w : World) (h : TArg w T A) (hw0 : Words w a z) :
    Calls Try.prog 4 #[A.val T, rval i r k d, .slice a z.length cap] w (Ret (.bool true) w) := by
  have L := Lib.hid (chain (lay w (.cells #[.slice A.da T.dn A.dc, .slice A.ba T.bn A.bc] 25)) (lay _ (.cells #[.int .i64 i, .int .i64 r, .int .i64 k, .bool d] 27)))
  have XH := Lib.hid ((BxN.new w #[.slice A.da T.dn A.dc, .slice A.ba T.bn A.bc] 25).later (lay _ (.cells #[.int .i64 i, .int .i64 r, .int .i64 k, .bool d] 27)))
  have RH := BxN.new (w.alloc (.cells #[.slice A.da T.dn A.dc, .slice A.ba T.bn A.bc] 25)) #[.int .i64 i, .int .i64 r, .int .i64 k, .bool d] 27
  rw [World.size_alloc] at RH
  have RH := Lib.hid RH
  have SZ := Lib.hid (szT T A 1048576 (by omega) (by omega) _ (h.below L.out))
  by_cases hl : z.length ≤ 1048576
  · have hl' : decide ((1048576 : Int) < (z.length : Int)) = false := decide_eq_false (by omega)
    by_cases q : 0 ≤ TreeSz T.dn T.bn T.L 1048576
    · have Z := sz_of q (Int.le_refl _)
      have CP := Lib.hid (fun w' (b : Below w.heap.size w w') => toT T A w' Z (h.tin.below b))
      have CI := Lib.hid (fun w' (b : Below w.heap.size w w') => toInt64S a cap z w' (by omega) (hw0.below b))
      have EI := Lib.hid (fun w' p q (K1 : Words w' (some ⟨p, 0, none⟩) z) (K2 : Words w' (some ⟨q, 0, none⟩) z) => eqInt64S (some ⟨p, 0, none⟩) (some ⟨q, 0, none⟩) z.length z.length z w' (by omega) K1 K2)
      have C2 := Lib.hid (fun (B : TA) w' (k : TIn w' T B) => (eqT T · B w' Z · k))
      obtain ⟨ok, hok⟩ := exB (CpP T i r k z)
      have SP := Lib.hid (fun (B : TA) p w' (K : TIn w' T B) (kw : Words w' (some ⟨p, 0, none⟩) z) => specCanPlace T B i r k d (some ⟨p, 0, none⟩) z.length z w' Z (by omega) K kw hok)
      have IM := Lib.hid (fun (B : TA) p w' (K : TIn w' T B) (kw : Words w' (some ⟨p, 0, none⟩) z) => implCanPlace T B i r k d (some ⟨p, 0, none⟩) z.length z w' Z h.wf hr (by omega) K kw hok)
      obtain ⟨v0, v1, hv⟩ := CpV_two ok (sn T k z (undr T 4 r)).length
      rw [hv] at SP IM
      have TR := Lib.hid (fun w' => toRule i r k d w')
      clear Z h hok hw0 hv
      generalize TreeSz T.dn T.bn T.L 1048576 = lf at *
      obtain ⟨da, dc, ba, bc, I, C⟩ := A
      dsimp only at L XH RH SZ CP ⊢
      obtain ⟨dn, hdn⟩ : ∃ dn, dn = T.dn := ⟨_, rfl⟩
      obtain ⟨bn, hbn⟩ : ∃ bn, bn = T.bn := ⟨_, rfl⟩
      have E : ∀ a b c d I C, TA.val ⟨a, b, c, d, I, C⟩ T = tval (.slice a dn b) (.slice c bn d) := fun _ _ _ _ _ _ => by rw [hdn, hbn]
      rw [E] at SZ CP ⊢
      rw [← hdn, ← hbn] at L XH RH SZ
      clear hdn hbn
      go_enter Try.func4, Try.ntmps4
      go_wp2_with fail
      refine SZ.out.mono ?_
      rintro e w1 ⟨rfl, b1⟩
      have B1 := Lib.hid (chain L.out b1)
      have X1 := XH.out.later b1; have R1 := RH.out.later b1; have x10 := X1.cells 0 _ rfl; have x11 := X1.cells 1 _ rfl; have r10 := R1.cells 0 _ rfl; have r11 := R1.cells 1 _ rfl; have r12 := R1.cells 2 _ rfl; have r13 := R1.cells 3 _ rfl; have X1 := Lib.hid X1; have R1 := Lib.hid R1
      clear b1
      go_wp2_with fail
      go_region_held3 (fun w' => w'.cell? ⟨w.heap.size, 0, none⟩ = some (.slice da dn dc) ∧ w'.cell? ⟨w.heap.size, 1, none⟩ = some (.slice ba bn bc) ∧ w'.cell? ⟨w.heap.size + 1, 0, none⟩ = some (.int .i64 i) ∧ w'.cell? ⟨w.heap.size + 1, 1, none⟩ = some (.int .i64 r) ∧ w'.cell? ⟨w.heap.size + 1, 2, none⟩ = some (.int .i64 k) ∧ w'.cell? ⟨w.heap.size + 1, 3, none⟩ = some (.bool d)) (go_keep)
        (first
          | (go_at_call 14; refine (CP.out _ B1.out.drew).mono ?_; rintro e w2 ⟨⟨a2, c2, d2, e2, I2, C2'⟩, rfl, K2, b2⟩; have b2 := undrew b2; rw [E]; have K2 := Lib.hid K2; have B2 := Lib.hid (chain B1.out b2); have X2 := X1.out.later b2; have R2 := R1.out.later b2; have x20 := X2.cells 0 _ rfl; have x21 := X2.cells 1 _ rfl; have r20 := R2.cells 0 _ rfl; have r21 := R2.cells 1 _ rfl; have r22 := R2.cells 2 _ rfl; have r23 := R2.cells 3 _ rfl; have X2 := Lib.hid X2; have R2 := Lib.hid R2; clear b2)
          | (go_at_call 15; refine (TR.out _).mono ?_; rintro e w3 ⟨rfl, b3⟩; have K3 := Lib.hid (K2.out.below b3); have B3 := Lib.hid (chain B2.out b3); have X3 := X2.out.later b3; have R3 := R2.out.later b3; have x30 := X3.cells 0 _ rfl; have x31 := X3.cells 1 _ rfl; have r30 := R3.cells 0 _ rfl; have r31 := R3.cells 1 _ rfl; have r32 := R3.cells 2 _ rfl; have r33 := R3.cells 3 _ rfl; have X3 := Lib.hid X3; have R3 := Lib.hid R3; clear b3)
          | (go_at_call 19; refine (CI.out _ B3.out).mono ?_; rintro e w4 ⟨p4, rfl, C4⟩; have K4 := Lib.hid (K3.out.below C4.below); have B4 := Lib.hid (chain B3.out C4.below); have SP4 := Lib.hid (SP.out _ _ _ K4.out C4.words); rw [E] at SP4; have X4 := X3.out.later C4.below; have R4 := R3.out.later C4.below; have x40 := X4.cells 0 _ rfl; have x41 := X4.cells 1 _ rfl; have r40 := R4.cells 0 _ rfl; have r41 := R4.cells 1 _ rfl; have r42 := R4.cells 2 _ rfl; have r43 := R4.cells 3 _ rfl; have X4 := Lib.hid X4; have R4 := Lib.hid R4; clear C4)
          | (go_at_call 18; refine SP4.out.mono ?_; rintro e w5 ⟨rfl, b5⟩; have B5 := Lib.hid (chain B4.out b5); have X5 := X4.out.later b5; have R5 := R4.out.later b5; have x50 := X5.cells 0 _ rfl; have x51 := X5.cells 1 _ rfl; have r50 := R5.cells 0 _ rfl; have r51 := R5.cells 1 _ rfl; have r52 := R5.cells 2 _ rfl; have r53 := R5.cells 3 _ rfl; have X5 := Lib.hid X5; have R5 := Lib.hid R5; clear b5 SP4))
      clear X1 X2 X3 X4 R1 R2 R3 R4 B1 B2 B3 B4 K2 K3 K4
      go_wp2_with fail
      refine (CP.out _ B5.out).mono ?_
      rintro e w6 ⟨⟨a6, c6, d6, e6, I6, C6⟩, rfl, K6, b6⟩
      rw [E]
      have L6 := Lib.hid (lay w6 (.cells #[.slice a6 dn c6, .slice d6 bn e6] 33))
      have Y6 := Lib.hid (BxN.new w6 #[.slice a6 dn c6, .slice d6 bn e6] 33)
      have K6 := Lib.hid (K6.below L6.out)
      have X6 := Lib.hid ((X5.out.later b6).later L6.out)
      have R6 := Lib.hid ((R5.out.later b6).later L6.out)
      have B6 := Lib.hid (chain (chain B5.out b6) L6.out)
      clear b6
      go_wp2_with fail
      refine (CI.out _ B6.out).mono ?_
      rintro e w7 ⟨p7, rfl, C7⟩
      have K7 := Lib.hid (K6.out.below C7.below)
      have B7 := Lib.hid (chain B6.out C7.below)
      have W7 := Lib.hid C7.words
      have X7 := X6.out.later C7.below; have R7 := R6.out.later C7.below; have Y7 := Y6.out.later C7.below; have x70 := X7.cells 0 _ rfl; have x71 := X7.cells 1 _ rfl; have r70 := R7.cells 0 _ rfl; have r71 := R7.cells 1 _ rfl; have r72 := R7.cells 2 _ rfl; have r73 := R7.cells 3 _ rfl; have y70 := Y7.cells 0 _ rfl; have y71 := Y7.cells 1 _ rfl; have X7 := Lib.hid X7; have R7 := Lib.hid R7; have Y7 := Lib.hid Y7
      clear C7
      go_wp2_with fail
      go_region_held3 (fun w' => w'.cell? ⟨w.heap.size, 0, none⟩ = some (.slice da dn dc) ∧ w'.cell? ⟨w.heap.size, 1, none⟩ = some (.slice ba bn bc) ∧ w'.cell? ⟨w.heap.size + 1, 0, none⟩ = some (.int .i64 i) ∧ w'.cell? ⟨w.heap.size + 1, 1, none⟩ = some (.int .i64 r) ∧ w'.cell? ⟨w.heap.size + 1, 2, none⟩ = some (.int .i64 k) ∧ w'.cell? ⟨w.heap.size + 1, 3, none⟩ = some (.bool d) ∧ w'.cell? ⟨w6.heap.size, 0, none⟩ = some (.slice a6 dn c6) ∧ w'.cell? ⟨w6.heap.size, 1, none⟩ = some (.slice d6 bn e6)) (go_keep)
        (first
          | (go_at_call 15; refine (TR.out _).mono ?_; rintro e w8 ⟨rfl, b8⟩; have b8 := undrew b8; have K8 := Lib.hid (K7.out.below b8); have W8 := Lib.hid (W7.out.below b8); have B8 := Lib.hid (chain B7.out b8); have IM8 := Lib.hid (IM.out _ _ _ K8.out W8.out); rw [E] at IM8; have X8 := X7.out.later b8; have R8 := R7.out.later b8; have Y8 := Y7.out.later b8; have x80 := X8.cells 0 _ rfl; have x81 := X8.cells 1 _ rfl; have r80 := R8.cells 0 _ rfl; have r81 := R8.cells 1 _ rfl; have r82 := R8.cells 2 _ rfl; have r83 := R8.cells 3 _ rfl; have y80 := Y8.cells 0 _ rfl; have y81 := Y8.cells 1 _ rfl; have X8 := Lib.hid X8; have R8 := Lib.hid R8; have Y8 := Lib.hid Y8; clear b8)
          | (go_at_call 20; refine IM8.out.mono ?_; rintro e w9 ⟨rfl, b9⟩; have K9 := Lib.hid (K8.out.below b9); have W9 := Lib.hid (W8.out.below b9); have B9 := Lib.hid (chain B8.out b9); have X9 := X8.out.later b9; have R9 := R8.out.later b9; have Y9 := Y8.out.later b9; have x90 := X9.cells 0 _ rfl; have x91 := X9.cells 1 _ rfl; have r90 := R9.cells 0 _ rfl; have r91 := R9.cells 1 _ rfl; have r92 := R9.cells 2 _ rfl; have r93 := R9.cells 3 _ rfl; have y90 := Y9.cells 0 _ rfl; have y91 := Y9.cells 1 _ rfl; have X9 := Lib.hid X9; have R9 := Lib.hid R9; have Y9 := Lib.hid Y9; clear b9 IM8))
      clear X6 R6 X7 R7 Y6 Y7 B6 B7 K6 K7 X8 R8 Y8 B8 K8 W7 W8
      go_wp2_with fail
      go_region_held3 (fun w' => w'.cell? ⟨w.heap.size, 0, none⟩ = some (.slice da dn dc) ∧ w'.cell? ⟨w.heap.size, 1, none⟩ = some (.slice ba bn bc) ∧ w'.cell? ⟨w.heap.size + 1, 0, none⟩ = some (.int .i64 i) ∧ w'.cell? ⟨w.heap.size + 1, 1, none⟩ = some (.int .i64 r) ∧ w'.cell? ⟨w.heap.size + 1, 2, none⟩ = some (.int .i64 k) ∧ w'.cell? ⟨w.heap.size + 1, 3, none⟩ = some (.bool d) ∧ w'.cell? ⟨w6.heap.size, 0, none⟩ = some (.slice a6 dn c6) ∧ w'.cell? ⟨w6.heap.size, 1, none⟩ = some (.slice d6 bn e6)) (go_keep)
        (first
          | (go_at_call 14; refine (CP.out _ B9.out.drew).mono ?_; rintro e w10 ⟨⟨a10, c10, d10, e10, I10, C10⟩, rfl, K10, b10⟩; have b10 := undrew b10; have CC := Lib.hid (C2.out _ _ K10 _ (K9.out.below b10)); rw [E, E] at CC; rw [E]; have B10 := Lib.hid (chain B9.out b10); have W10 := Lib.hid (W9.out.below b10); have X10 := X9.out.later b10; have R10 := R9.out.later b10; have Y10 := Y9.out.later b10; have x100 := X10.cells 0 _ rfl; have x101 := X10.cells 1 _ rfl; have r100 := R10.cells 0 _ rfl; have r101 := R10.cells 1 _ rfl; have r102 := R10.cells 2 _ rfl; have r103 := R10.cells 3 _ rfl; have y100 := Y10.cells 0 _ rfl; have y101 := Y10.cells 1 _ rfl; have X10 := Lib.hid X10; have R10 := Lib.hid R10; have Y10 := Lib.hid Y10; clear K10 b10)
          | (go_at_call 17; refine CC.out.mono ?_; rintro e w11 ⟨rfl, b11⟩; have B11 := Lib.hid (chain B10.out b11); have W11 := Lib.hid (W10.out.below b11); have X11 := X10.out.later b11; have R11 := R10.out.later b11; have Y11 := Y10.out.later b11; have x110 := X11.cells 0 _ rfl; have x111 := X11.cells 1 _ rfl; have r110 := R11.cells 0 _ rfl; have r111 := R11.cells 1 _ rfl; have r112 := R11.cells 2 _ rfl; have r113 := R11.cells 3 _ rfl; have y110 := Y11.cells 0 _ rfl; have y111 := Y11.cells 1 _ rfl; have X11 := Lib.hid X11; have R11 := Lib.hid R11; have Y11 := Lib.hid Y11; clear b11))
      all_goals
        go_wp2_with fail
        refine (CI.out _ B11.out).mono ?_
        rintro e w12 ⟨p12, rfl, C12⟩
        have B12 := Lib.hid (chain B11.out C12.below)
        have EQ := Lib.hid (EI.out _ _ _ (W11.out.below C12.below) C12.words)
        clear C12
        go_wp2_with fail
        refine EQ.out.mono ?_
        rintro e w13 ⟨rfl, q, rfl⟩
        go_wp2
        go_ret
        exact ⟨rfl, below_drewN B12.out _⟩
    · clear h
      have q' : TreeSz T.dn T.bn T.L 1048576 < 0 := by omega
      clear q
      generalize TreeSz T.dn T.bn T.L 1048576 = lf at *
      obtain ⟨da, dc, ba, bc, I, C⟩ := A
      dsimp only at L XH RH SZ ⊢
      obtain ⟨dn, hdn⟩ : ∃ dn, dn = T.dn := ⟨_, rfl⟩
      obtain ⟨bn, hbn⟩ : ∃ bn, bn = T.bn := ⟨_, rfl⟩
      have E : ∀ a b c d I C, TA.val ⟨a, b, c, d, I, C⟩ T = tval (.slice a dn b) (.slice c bn d) := fun _ _ _ _ _ _ => by rw [hdn, hbn]
      rw [E] at SZ ⊢
      rw [← hdn, ← hbn] at L XH RH SZ
      clear hdn hbn hw0
      go_enter Try.func4, Try.ntmps4
      go_wp2_with fail
      refine SZ.out.mono ?_
      rintro e w1 ⟨rfl, b1⟩
      have B1 := Lib.hid (chain L.out b1)
      clear b1
      go_wp2
      go_ret
      exact ⟨rfl, B1.out⟩
  · clear h SZ hw0
    obtain ⟨da, dc, ba, bc, I, C⟩ := A
    dsimp only at L XH RH ⊢
    have hl' : decide ((1048576 : Int) < (z.length : Int)) = true := decide_eq_true (by omega)
    go_enter Try.func4, Try.ntmps4
    go_wp2
    go_ret
    exact ⟨rfl, L.out⟩
theorem lawCanPlace (da : Option Addr) (dn dc : Nat) (f g : Nat → Int) (ba : Option Addr) (bn bc : Nat) (F G : Nat → Int) (I : Nat → Option Addr) (L : Nat → List Int) (C : Nat → Nat) (i r k : Int) (d : Bool) (a : Option Addr) (len cap : Nat) (z : List Int) (w : World) (h : Op.TreeArg w da dn f g ba bn F G I L C) (hr : (Lit.int .i64 i).wf = true ∧ (Lit.int .i64 r).wf = true ∧ (Lit.int .i64 k).wf = true) (w0 : z.length = len ∧ Words w a z ∧ ∀ n ∈ z, (Lit.int .i64 n).wf = true) :
    Calls Try.prog 4 #[.agg #[.slice da dn dc, .slice ba bn bc], .agg #[.int .i64 i, .int .i64 r, .int .i64 k, .bool d], .slice a len cap] w fun e w' => e = .returned (.bool true) ∧ Below w.heap.size w w' := by
  obtain ⟨rfl, hw, -⟩ := w0
  exact fnCanPlace ⟨dn, f, g, bn, F, G, L⟩ ⟨da, dc, ba, bc, I, C⟩ i r k d hr.2.1 a cap z w (tArg_of h) hw
end Go.Proofs.Ytigaoimnhebegaa.Tm
