/-
  The exact law of SameTree: the program's answer is the model's, and the trees are left as they were.
-/
import Derived.Test.YtigaoimnhebegaaTsame3
namespace Go.Proofs.Ytigaoimnhebegaa.Tm
open Go.RowKit Go.Proofs.Ytigaoimnhebegaa.GfI Go.Proofs.Ytigaoimnhebegaa.GfS Go.Proofs.Ytigaoimnhebegaa.MixC
open Go.Proofs.Ytigaoimnhebegaa.It (lay chain)
open Go.Proofs.Ytigaoimnhebegaa.Bk (tval TreeSz totB)
open Go.Proofs.Ytigaoimnhebegaa.Sg (BxN)
set_option linter.unusedVariables false
set_option linter.unusedSimpArgs false

theorem TreeSz_le (dn bn : Nat) (L : Nat → List Int) (l : Int) (h : 0 ≤ l) : TreeSz dn bn L l ≤ l := by
  unfold TreeSz; split <;> omega
/-- A copy, whatever is to follow. -/
theorem copyQ (T : TD) (A : TA) (w : World) (Z : T.Sz) (h : TIn w T A) (Q : Ending → World → Prop) (k : ∀ B : TA, ∀ w', TIn w' T B → Below w.heap.size w w' → Q (.returned (B.val T)) w') :
    Calls Try.prog 14 #[A.val T] w Q :=
  (toT T A w Z h).mono (by rintro e w' ⟨B, rfl, K, b⟩; exact k B w' K b)
theorem eqQ (T : TD) (A B : TA) (w : World) (Z : T.Sz) (h : TIn w T A) (k : TIn w T B) (Q : Ending → World → Prop) (q : ∀ w', Below w.heap.size w w' → Q (.returned (.bool true)) w') :
    Calls Try.prog 17 #[A.val T, B.val T] w Q :=
  (eqT T A B w Z h k).mono (by rintro e w' ⟨rfl, b⟩; exact q w' b)

set_option maxRecDepth 100000 in
set_option maxHeartbeats 4000000 in
theorem fnSameTree (S T : TD) (A B : TA) (w : World) (hA : TArg w S A) (hB : TArg w T B) :
    Calls Try.prog 5 #[A.val S, B.val T] w (Ret (.bool true) w) := by
  have LH := Lib.hid (chain (lay w (.cells #[.slice A.da S.dn A.dc, .slice A.ba S.bn A.bc] 25)) (lay _ (.cells #[.slice B.da T.dn B.dc, .slice B.ba T.bn B.bc] 25)))
  have X := (BxN.new w #[.slice A.da S.dn A.dc, .slice A.ba S.bn A.bc] 25).later (lay _ (.cells #[.slice B.da T.dn B.dc, .slice B.ba T.bn B.bc] 25))
  have V := BxN.new (w.alloc (.cells #[.slice A.da S.dn A.dc, .slice A.ba S.bn A.bc] 25)) #[.slice B.da T.dn B.dc, .slice B.ba T.bn B.bc] 25
  rw [World.size_alloc] at V
  have SZ1 := Lib.hid (szT S A 1048576 (by omega) (by omega) _ (hA.below LH.out))
  have LE := TreeSz_le S.dn S.bn S.L 1048576 (by omega)
  by_cases q1 : 0 ≤ TreeSz S.dn S.bn S.L 1048576
  · have Z := sz_of q1 (Int.le_refl _)
    have SZ2 := Lib.hid (fun w' (b : Below w.heap.size w w') => szT T B (TreeSz S.dn S.bn S.L 1048576) q1 (by omega) w' (hB.below b))
    by_cases q2 : 0 ≤ TreeSz T.dn T.bn T.L (TreeSz S.dn S.bn S.L 1048576)
    · have Y := sz_of q2 LE
      have CA := Lib.hid (fun w' (b : Below w.heap.size w w') => copyQ S A w' Z (hA.tin.below b))
      have CB := Lib.hid (fun w' (b : Below w.heap.size w w') => copyQ T B w' Y (hB.tin.below b))
      have EA := Lib.hid (fun (D E : TA) w' (h : TIn w' S D) (k : TIn w' S E) => eqQ S D E w' Z h k)
      have EB := Lib.hid (fun (D E : TA) w' (h : TIn w' T D) (k : TIn w' T E) => eqQ T D E w' Y h k)
      obtain ⟨ok, hok⟩ := exB (SameP S T)
      have SP := Lib.hid (fun (D E : TA) w' (h : TIn w' S D) (k : TIn w' T E) => (specSameTree S T D E w' Z Y h k).mono fun _ _ r => IffB.ret hok r)
      have IM := Lib.hid (fun (D E : TA) w' (h : TIn w' S D) (k : TIn w' T E) => (implSameTree S T D E w' Z Y hA.wf h k).mono fun _ _ r => IffB.ret hok r)
      clear Z Y hA hB hok
      generalize TreeSz T.dn T.bn T.L (TreeSz S.dn S.bn S.L 1048576) = lf2 at *
      generalize TreeSz S.dn S.bn S.L 1048576 = lf1 at *
      obtain ⟨ada, adc, aba, abc, I, C⟩ := A
      obtain ⟨bda, bdc, bba, bbc, J, D⟩ := B
      dsimp only at LH X V SZ1
      obtain ⟨sdn, hsd⟩ : ∃ n, n = S.dn := ⟨_, rfl⟩
      obtain ⟨sbn, hsb⟩ : ∃ n, n = S.bn := ⟨_, rfl⟩
      obtain ⟨tdn, htd⟩ : ∃ n, n = T.dn := ⟨_, rfl⟩
      obtain ⟨tbn, htb⟩ : ∃ n, n = T.bn := ⟨_, rfl⟩
      have E1 : ∀ a b c d I C, TA.val ⟨a, b, c, d, I, C⟩ S = tval (.slice a sdn b) (.slice c sbn d) := fun _ _ _ _ _ _ => by rw [hsd, hsb]
      have E2 : ∀ a b c d I C, TA.val ⟨a, b, c, d, I, C⟩ T = tval (.slice a tdn b) (.slice c tbn d) := fun _ _ _ _ _ _ => by rw [htd, htb]
      rw [E1] at SZ1 CA ⊢
      rw [E2] at SZ2 CB ⊢
      rw [← hsd, ← hsb, ← htd, ← htb] at LH X V SZ1
      have X := Lib.hid X
      have V := Lib.hid V
      clear hsd hsb htd htb LE
      go_enter Try.func5, Try.ntmps5
      go_wp2_with fail
      refine SZ1.out.mono ?_
      rintro e w1 ⟨rfl, b1⟩
      have B1 := Lib.hid (chain LH.out b1)
      have X1 := Lib.hid (X.out.later b1)
      have V1 := Lib.hid (V.out.later b1)
      have fX10 := X1.out.cells 0 _ rfl
      have fX11 := X1.out.cells 1 _ rfl
      have fV10 := V1.out.cells 0 _ rfl
      have fV11 := V1.out.cells 1 _ rfl
      clear b1
      go_wp2_with fail
      refine (SZ2.out _ B1.out).mono ?_
      rintro e w2 ⟨rfl, b2⟩
      have B2 := Lib.hid (chain B1.out b2)
      clear fX10 fX11 fV10 fV11
      have X2 := Lib.hid (X1.out.later b2)
      have V2 := Lib.hid (V1.out.later b2)
      have fX20 := X2.out.cells 0 _ rfl
      have fX21 := X2.out.cells 1 _ rfl
      have fV20 := V2.out.cells 0 _ rfl
      have fV21 := V2.out.cells 1 _ rfl
      clear b2 SZ1 SZ2 X1 V1 B1
      go_wp2_with fail
      go_region_held3 (fun w' => w'.cell? ⟨w.heap.size, 0, none⟩ = some (.slice ada sdn adc) ∧ w'.cell? ⟨w.heap.size, 1, none⟩ = some (.slice aba sbn abc) ∧ w'.cell? ⟨w.heap.size + 1, 0, none⟩ = some (.slice bda tdn bdc) ∧ w'.cell? ⟨w.heap.size + 1, 1, none⟩ = some (.slice bba tbn bbc)) (go_keep)
        (first
          | (go_at_call 14; with_reducible refine CA.out _ ?_ _ ?_; exact B2.out.drew; rintro ⟨a3, c3, d3, e3, I3, C3⟩ w3 K3 b3; have b3 := undrew b3; rw [E1]; have K3 := Lib.hid K3; have B3 := Lib.hid (chain B2.out b3); have X3 := Lib.hid (X2.out.later b3); have V3 := Lib.hid (V2.out.later b3); have fX30 := X3.out.cells 0 _ rfl; have fX31 := X3.out.cells 1 _ rfl; have fV30 := V3.out.cells 0 _ rfl; have fV31 := V3.out.cells 1 _ rfl; clear b3)
          | (go_at_call 14; with_reducible refine CB.out _ ?_ _ ?_; exact B3.out; rintro ⟨a4, c4, d4, e4, I4, C4⟩ w4 K4 b4; rw [E2]; have SP4 := Lib.hid (SP.out _ _ _ (K3.out.below b4) K4); rw [E1, E2] at SP4; have B4 := Lib.hid (chain B3.out b4); have X4 := Lib.hid (X3.out.later b4); have V4 := Lib.hid (V3.out.later b4); have fX40 := X4.out.cells 0 _ rfl; have fX41 := X4.out.cells 1 _ rfl; have fV40 := V4.out.cells 0 _ rfl; have fV41 := V4.out.cells 1 _ rfl; clear b4 K4)
          | (go_at_call 22; refine SP4.out.mono ?_; rintro e w44 ⟨rfl, b5⟩; have B44 := Lib.hid (chain B4.out b5); have X44 := Lib.hid (X4.out.later b5); have V44 := Lib.hid (V4.out.later b5); have fX440 := X44.out.cells 0 _ rfl; have fX441 := X44.out.cells 1 _ rfl; have fV440 := V44.out.cells 0 _ rfl; have fV441 := V44.out.cells 1 _ rfl; clear b5))
      clear fX20 fX21 fV20 fV21 fX30 fX31 fV30 fV31 fX40 fX41 fV40 fV41 X2 V2 X3 V3 X4 V4 B2 B3 B4 K3 SP4 SP
      go_wp2_with fail
      refine CA.out _ B44.out _ ?_
      rintro ⟨a5, c5, d5, e5, I5, C5⟩ w5 K5 b5
      rw [E1]
      have L5 := Lib.hid (lay w5 (.cells #[.slice a5 sdn c5, .slice d5 sbn e5] 33))
      have P5 := Lib.hid (BxN.new w5 #[.slice a5 sdn c5, .slice d5 sbn e5] 33)
      have K5 := Lib.hid (K5.below L5.out)
      have b5 := chain b5 L5.out
      have B5 := Lib.hid (chain B44.out b5)
      have X5 := Lib.hid (X44.out.later b5)
      have V5 := Lib.hid (V44.out.later b5)
      have fX50 := X5.out.cells 0 _ rfl
      have fX51 := X5.out.cells 1 _ rfl
      have fV50 := V5.out.cells 0 _ rfl
      have fV51 := V5.out.cells 1 _ rfl
      clear b5 X44 V44 B44 fX440 fX441 fV440 fV441
      go_wp2_with fail
      refine CB.out _ B5.out _ ?_
      rintro ⟨a6, c6, d6, e6, I6, C6⟩ w6 K6 b6
      rw [E2]
      have L6 := Lib.hid (lay w6 (.cells #[.slice a6 tdn c6, .slice d6 tbn e6] 33))
      have R6 := Lib.hid (BxN.new w6 #[.slice a6 tdn c6, .slice d6 tbn e6] 33)
      have K6 := Lib.hid (K6.below L6.out)
      have b6 := chain b6 L6.out
      have J6 := Lib.hid (K5.out.below b6)
      have B6 := Lib.hid (chain B5.out b6)
      have X6 := Lib.hid (X5.out.later b6)
      have V6 := Lib.hid (V5.out.later b6)
      have P6 := Lib.hid (P5.out.later b6)
      have fX60 := X6.out.cells 0 _ rfl
      have fX61 := X6.out.cells 1 _ rfl
      have fV60 := V6.out.cells 0 _ rfl
      have fV61 := V6.out.cells 1 _ rfl
      have fP60 := P6.out.cells 0 _ rfl
      have fP61 := P6.out.cells 1 _ rfl
      have IM6 := Lib.hid (IM.out _ _ _ J6.out K6.out)
      rw [E1, E2] at IM6
      clear b6 X5 V5 P5 B5 K5 fX50 fX51 fV50 fV51
      go_wp2_with fail
      refine IM6.out.mono ?_
      rintro e w7 ⟨rfl, b7⟩
      have K7 := Lib.hid (K6.out.below b7)
      have J7 := Lib.hid (J6.out.below b7)
      have B7 := Lib.hid (chain B6.out b7)
      have X7 := Lib.hid (X6.out.later b7)
      have V7 := Lib.hid (V6.out.later b7)
      have P7 := Lib.hid (P6.out.later b7)
      have R7 := Lib.hid (R6.out.later b7)
      have fX70 := X7.out.cells 0 _ rfl
      have fX71 := X7.out.cells 1 _ rfl
      have fV70 := V7.out.cells 0 _ rfl
      have fV71 := V7.out.cells 1 _ rfl
      have fP70 := P7.out.cells 0 _ rfl
      have fP71 := P7.out.cells 1 _ rfl
      have fR70 := R7.out.cells 0 _ rfl
      have fR71 := R7.out.cells 1 _ rfl
      clear b7 X6 V6 P6 R6 B6 K6 J6 IM6 IM fX60 fX61 fV60 fV61 fP60 fP61
      go_wp2_with fail
      go_region_held3 (fun w' => w'.cell? ⟨w.heap.size, 0, none⟩ = some (.slice ada sdn adc) ∧ w'.cell? ⟨w.heap.size, 1, none⟩ = some (.slice aba sbn abc) ∧ w'.cell? ⟨w.heap.size + 1, 0, none⟩ = some (.slice bda tdn bdc) ∧ w'.cell? ⟨w.heap.size + 1, 1, none⟩ = some (.slice bba tbn bbc) ∧ w'.cell? ⟨w5.heap.size, 0, none⟩ = some (.slice a5 sdn c5) ∧ w'.cell? ⟨w5.heap.size, 1, none⟩ = some (.slice d5 sbn e5) ∧ w'.cell? ⟨w6.heap.size, 0, none⟩ = some (.slice a6 tdn c6) ∧ w'.cell? ⟨w6.heap.size, 1, none⟩ = some (.slice d6 tbn e6)) (go_keep)
        (first
          | (go_at_call 14; with_reducible refine CA.out _ ?_ _ ?_; exact B7.out.drew; rintro ⟨a8, c8, d8, e8, I8, C8⟩ w8 K8 b8; have b8 := undrew b8; have EE := Lib.hid (EA.out _ _ _ (J7.out.below b8) K8); rw [E1, E1] at EE; rw [E1]; have K8 := Lib.hid (K7.out.below b8); have B8 := Lib.hid (chain B7.out b8); have X8 := Lib.hid (X7.out.later b8); have V8 := Lib.hid (V7.out.later b8); have P8 := Lib.hid (P7.out.later b8); have R8 := Lib.hid (R7.out.later b8); have fX80 := X8.out.cells 0 _ rfl; have fX81 := X8.out.cells 1 _ rfl; have fV80 := V8.out.cells 0 _ rfl; have fV81 := V8.out.cells 1 _ rfl; have fP80 := P8.out.cells 0 _ rfl; have fP81 := P8.out.cells 1 _ rfl; have fR80 := R8.out.cells 0 _ rfl; have fR81 := R8.out.cells 1 _ rfl; clear b8)
          | (go_at_call 17; refine EE.out _ ?_; rintro w9 b9; have K9 := Lib.hid (K8.out.below b9); have B9 := Lib.hid (chain B8.out b9); have X9 := Lib.hid (X8.out.later b9); have V9 := Lib.hid (V8.out.later b9); have P9 := Lib.hid (P8.out.later b9); have R9 := Lib.hid (R8.out.later b9); have fX90 := X9.out.cells 0 _ rfl; have fX91 := X9.out.cells 1 _ rfl; have fV90 := V9.out.cells 0 _ rfl; have fV91 := V9.out.cells 1 _ rfl; have fP90 := P9.out.cells 0 _ rfl; have fP91 := P9.out.cells 1 _ rfl; have fR90 := R9.out.cells 0 _ rfl; have fR91 := R9.out.cells 1 _ rfl; clear b9))
      clear fX70 fX71 fV70 fV71 fP70 fP71 fR70 fR71 fX80 fX81 fV80 fV81 fP80 fP81 fR80 fR81 X7 V7 P7 R7 B7 X8 V8 P8 R8 B8 K7 K8 J7 EE
      go_wp2_with fail
      go_region_held3 (fun w' => w'.cell? ⟨w.heap.size, 0, none⟩ = some (.slice ada sdn adc) ∧ w'.cell? ⟨w.heap.size, 1, none⟩ = some (.slice aba sbn abc) ∧ w'.cell? ⟨w.heap.size + 1, 0, none⟩ = some (.slice bda tdn bdc) ∧ w'.cell? ⟨w.heap.size + 1, 1, none⟩ = some (.slice bba tbn bbc) ∧ w'.cell? ⟨w5.heap.size, 0, none⟩ = some (.slice a5 sdn c5) ∧ w'.cell? ⟨w5.heap.size, 1, none⟩ = some (.slice d5 sbn e5) ∧ w'.cell? ⟨w6.heap.size, 0, none⟩ = some (.slice a6 tdn c6) ∧ w'.cell? ⟨w6.heap.size, 1, none⟩ = some (.slice d6 tbn e6)) (go_keep)
        (first
          | (go_at_call 14; with_reducible refine CB.out _ ?_ _ ?_; exact B9.out.drew; rintro ⟨a10, c10, d10, e10, I10, C10⟩ w10 K10 b10; have b10 := undrew b10; have EE := Lib.hid (EB.out _ _ _ (K9.out.below b10) K10); rw [E2, E2] at EE; rw [E2]; have B10 := Lib.hid (chain B9.out b10); have X10 := Lib.hid (X9.out.later b10); have V10 := Lib.hid (V9.out.later b10); have P10 := Lib.hid (P9.out.later b10); have R10 := Lib.hid (R9.out.later b10); have fX100 := X10.out.cells 0 _ rfl; have fX101 := X10.out.cells 1 _ rfl; have fV100 := V10.out.cells 0 _ rfl; have fV101 := V10.out.cells 1 _ rfl; have fP100 := P10.out.cells 0 _ rfl; have fP101 := P10.out.cells 1 _ rfl; have fR100 := R10.out.cells 0 _ rfl; have fR101 := R10.out.cells 1 _ rfl; clear b10 K10)
          | (go_at_call 17; refine EE.out _ ?_; rintro w11 b11; have B11 := Lib.hid (chain B10.out b11); have X11 := Lib.hid (X10.out.later b11); have V11 := Lib.hid (V10.out.later b11); have P11 := Lib.hid (P10.out.later b11); have R11 := Lib.hid (R10.out.later b11); have fX110 := X11.out.cells 0 _ rfl; have fX111 := X11.out.cells 1 _ rfl; have fV110 := V11.out.cells 0 _ rfl; have fV111 := V11.out.cells 1 _ rfl; have fP110 := P11.out.cells 0 _ rfl; have fP111 := P11.out.cells 1 _ rfl; have fR110 := R11.out.cells 0 _ rfl; have fR111 := R11.out.cells 1 _ rfl; clear b11))
      all_goals
        go_wp2
        go_ret
        exact ⟨rfl, B11.out⟩
    · have q2' : TreeSz T.dn T.bn T.L (TreeSz S.dn S.bn S.L 1048576) < 0 := by omega
      clear Z hA hB q2
      generalize TreeSz T.dn T.bn T.L (TreeSz S.dn S.bn S.L 1048576) = lf2 at *
      generalize TreeSz S.dn S.bn S.L 1048576 = lf1 at *
      obtain ⟨ada, adc, aba, abc, I, C⟩ := A
      obtain ⟨bda, bdc, bba, bbc, J, D⟩ := B
      dsimp only at LH X V SZ1
      obtain ⟨sdn, hsd⟩ : ∃ n, n = S.dn := ⟨_, rfl⟩
      obtain ⟨sbn, hsb⟩ : ∃ n, n = S.bn := ⟨_, rfl⟩
      obtain ⟨tdn, htd⟩ : ∃ n, n = T.dn := ⟨_, rfl⟩
      obtain ⟨tbn, htb⟩ : ∃ n, n = T.bn := ⟨_, rfl⟩
      have E1 : ∀ a b c d I C, TA.val ⟨a, b, c, d, I, C⟩ S = tval (.slice a sdn b) (.slice c sbn d) := fun _ _ _ _ _ _ => by rw [hsd, hsb]
      have E2 : ∀ a b c d I C, TA.val ⟨a, b, c, d, I, C⟩ T = tval (.slice a tdn b) (.slice c tbn d) := fun _ _ _ _ _ _ => by rw [htd, htb]
      rw [E1] at SZ1 ⊢
      rw [E2] at SZ2 ⊢
      rw [← hsd, ← hsb, ← htd, ← htb] at LH X V SZ1
      have X := Lib.hid X
      have V := Lib.hid V
      clear hsd hsb htd htb LE
      go_enter Try.func5, Try.ntmps5
      go_wp2_with fail
      refine SZ1.out.mono ?_
      rintro e w1 ⟨rfl, b1⟩
      have B1 := Lib.hid (chain LH.out b1)
      have X1 := Lib.hid (X.out.later b1)
      have V1 := Lib.hid (V.out.later b1)
      have fX10 := X1.out.cells 0 _ rfl
      have fX11 := X1.out.cells 1 _ rfl
      have fV10 := V1.out.cells 0 _ rfl
      have fV11 := V1.out.cells 1 _ rfl
      clear b1
      go_wp2_with fail
      refine (SZ2.out _ B1.out).mono ?_
      rintro e w2 ⟨rfl, b2⟩
      have B2 := Lib.hid (chain B1.out b2)
      clear b2
      go_wp2
      go_ret
      exact ⟨rfl, B2.out⟩
  · have q1' : TreeSz S.dn S.bn S.L 1048576 < 0 := by omega
    clear q1 LE hA hB
    generalize TreeSz S.dn S.bn S.L 1048576 = lf1 at *
    obtain ⟨ada, adc, aba, abc, I, C⟩ := A
    obtain ⟨bda, bdc, bba, bbc, J, D⟩ := B
    dsimp only at LH X V SZ1
    obtain ⟨sdn, hsd⟩ : ∃ n, n = S.dn := ⟨_, rfl⟩
    obtain ⟨sbn, hsb⟩ : ∃ n, n = S.bn := ⟨_, rfl⟩
    have E1 : ∀ a b c d I C, TA.val ⟨a, b, c, d, I, C⟩ S = tval (.slice a sdn b) (.slice c sbn d) := fun _ _ _ _ _ _ => by rw [hsd, hsb]
    rw [E1] at SZ1 ⊢
    rw [← hsd, ← hsb] at LH X V SZ1
    have X := Lib.hid X
    have V := Lib.hid V
    clear hsd hsb
    go_enter Try.func5, Try.ntmps5
    go_wp2_with fail
    refine SZ1.out.mono ?_
    rintro e w1 ⟨rfl, b1⟩
    have B1 := Lib.hid (chain LH.out b1)
    clear b1
    go_wp2
    go_ret
    exact ⟨rfl, B1.out⟩
theorem lawSameTree (da : Option Addr) (dn dc : Nat) (f g : Nat → Int) (ba : Option Addr) (bn bc : Nat) (F G : Nat → Int) (I : Nat → Option Addr) (L : Nat → List Int) (C : Nat → Nat)
    (da2 : Option Addr) (dn2 dc2 : Nat) (f2 g2 : Nat → Int) (ba2 : Option Addr) (bn2 bc2 : Nat) (F2 G2 : Nat → Int) (I2 : Nat → Option Addr) (L2 : Nat → List Int) (C2 : Nat → Nat) (w : World) (h : Op.TreeArg w da dn f g ba bn F G I L C) (h2 : Op.TreeArg w da2 dn2 f2 g2 ba2 bn2 F2 G2 I2 L2 C2) :
    Calls Try.prog 5 #[.agg #[.slice da dn dc, .slice ba bn bc], .agg #[.slice da2 dn2 dc2, .slice ba2 bn2 bc2]] w fun e w' => e = .returned (.bool true) ∧ Below w.heap.size w w' :=
  fnSameTree ⟨dn, f, g, bn, F, G, L⟩ ⟨dn2, f2, g2, bn2, F2, G2, L2⟩ ⟨da, dc, ba, bc, I, C⟩ ⟨da2, dc2, ba2, bc2, I2, C2⟩ w (tArg_of h) (tArg_of h2)
end Go.Proofs.Ytigaoimnhebegaa.Tm
