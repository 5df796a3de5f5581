/-
  SameTree in the program and in the model.
-/
import Derived.Test.YtigaoimnhebegaaTsame2
namespace Go.Proofs.Ytigaoimnhebegaa.Tm
open Go.RowKit Go.Proofs.Ytigaoimnhebegaa.GfI Go.Proofs.Ytigaoimnhebegaa.GfS Go.Proofs.Ytigaoimnhebegaa.MixC
open Go.Proofs.Ytigaoimnhebegaa.It (lay chain)
open Go.Proofs.Ytigaoimnhebegaa.Bk (Bks tval bval)
open Go.Proofs.Ytigaoimnhebegaa.Sg (BxN)
set_option linter.unusedVariables false
set_option linter.unusedSimpArgs false

structure SameP (S T : TD) : Prop where
  ok : S.Ok
  dev : DevEq S T
  bkt : BktEq S T
set_option maxRecDepth 100000 in
set_option maxHeartbeats 1000000 in
theorem specSameTree (S T : TD) (A B : TA) (w : World) (Z : S.Sz) (Y : T.Sz) (hA : TIn w S A) (hB : TIn w T B) :
    Calls Try.prog 22 #[A.val S, B.val T] w (IffB (SameP S T) w) := by
  have LH := Lib.hid (chain (lay w (.cells #[.slice A.da S.dn A.dc, .slice A.ba S.bn A.bc] 33)) (lay _ (.cells #[.slice B.da T.dn B.dc, .slice B.ba T.bn B.bc] 33)))
  have X := (BxN.new w #[.slice A.da S.dn A.dc, .slice A.ba S.bn A.bc] 33).later (lay _ (.cells #[.slice B.da T.dn B.dc, .slice B.ba T.bn B.bc] 33))
  have V := BxN.new (w.alloc (.cells #[.slice A.da S.dn A.dc, .slice A.ba S.bn A.bc] 33)) #[.slice B.da T.dn B.dc, .slice B.ba T.bn B.bc] 33
  rw [World.size_alloc] at V
  have K1 := Lib.hid (fun w' (b : Below w.heap.size w w') => l06OK S A w' Z (hA.below b))
  have K2 := Lib.hid (fun w' (b : Below w.heap.size w w') => l06OK T B w' Y (hB.below b))
  have K3 := Lib.hid (fun w' (b : Below w.heap.size w w') => l06Same S T A B w' Z Y (hA.below b) (hB.below b))
  clear hA hB Z Y
  have N1 := Lib.hid (show ¬ S.Ok → ¬ SameP S T from fun n h => n h.ok)
  have N2 := Lib.hid (show ¬ T.Ok → ¬ SameP S T from fun n h => n (ok_congr h.dev h.bkt h.ok))
  have N3 := Lib.hid (show ¬ (DevEq S T ∧ BktEq S T) → ¬ SameP S T from fun n h => n ⟨h.dev, h.bkt⟩)
  have YS := Lib.hid (show S.Ok → DevEq S T ∧ BktEq S T → SameP S T from fun o h => ⟨o, h.1, h.2⟩)
  obtain ⟨ada, adc, aba, abc, I, C⟩ := A
  obtain ⟨bda, bdc, bba, bbc, J, D⟩ := B
  obtain ⟨sdn, hsd⟩ : ∃ n, n = S.dn := ⟨_, rfl⟩
  obtain ⟨sbn, hsb⟩ : ∃ n, n = S.bn := ⟨_, rfl⟩
  obtain ⟨tdn, htd⟩ : ∃ n, n = T.dn := ⟨_, rfl⟩
  obtain ⟨tbn, htb⟩ : ∃ n, n = T.bn := ⟨_, rfl⟩
  have E1 : TA.val ⟨ada, adc, aba, abc, I, C⟩ S = tval (.slice ada sdn adc) (.slice aba sbn abc) := by rw [hsd, hsb]
  have E2 : TA.val ⟨bda, bdc, bba, bbc, J, D⟩ T = tval (.slice bda tdn bdc) (.slice bba tbn bbc) := by rw [htd, htb]
  rw [E1] at K1 K3 ⊢
  rw [E2] at K2 K3 ⊢
  clear E1 E2
  dsimp only at LH X V
  rw [← hsd, ← hsb, ← htd, ← htb] at LH X V
  have X := Lib.hid X
  have V := Lib.hid V
  clear hsd hsb htd htb
  go_enter Try.func22, Try.ntmps22
  go_wp2_with fail
  refine (K1.out _ LH.out).mono ?_
  rintro e w1 ⟨o1, rfl, H1, b1⟩
  have B1 := Lib.hid (chain LH.out b1)
  have X1 := Lib.hid (X.out.later b1)
  have V1 := Lib.hid (V.out.later b1)
  have x0 := X1.out.cells 0 _ rfl
  have x1 := X1.out.cells 1 _ rfl
  have v0 := V1.out.cells 0 _ rfl
  have v1 := V1.out.cells 1 _ rfl
  clear b1
  cases o1
  · have G := Lib.hid (N1.out (fun o => by have := H1.2 o; cases this))
    clear H1
    go_wp2
    go_ret
    exact IffB.no G.out B1.out
  · have O1 := Lib.hid (H1.1 rfl)
    clear H1
    go_wp2_with fail
    refine (K2.out _ B1.out).mono ?_
    rintro e w2 ⟨o2, rfl, H2, b2⟩
    have B2 := Lib.hid (chain B1.out b2)
    have X2 := X1.out.later b2
    have V2 := V1.out.later b2
    clear b2 x0 x1 v0 v1
    have x0 := X2.cells 0 _ rfl
    have x1 := X2.cells 1 _ rfl
    have v0 := V2.cells 0 _ rfl
    have v1 := V2.cells 1 _ rfl
    clear X2 V2
    cases o2
    · have G := Lib.hid (N2.out (fun o => by have := H2.2 o; cases this))
      clear H2
      go_wp2
      go_ret
      exact IffB.no G.out B2.out
    · clear H2
      go_wp2_with fail
      refine (K3.out _ B2.out).mono ?_
      rintro e w3 ⟨o3, rfl, H3, b3⟩
      have B3 := Lib.hid (chain B2.out b3)
      clear b3
      cases o3
      · have G := Lib.hid (N3.out (fun o => by have := H3.2 o; cases this))
        clear H3
        go_wp2
        go_ret
        exact IffB.no G.out B3.out
      · have G := Lib.hid (YS.out O1.out (H3.1 rfl))
        clear H3
        go_wp2
        go_ret
        exact IffB.yes G.out B3.out
set_option maxRecDepth 100000 in
set_option maxHeartbeats 1000000 in
theorem implEquals (S T : TD) (A B : TA) (w : World) (Z : S.Sz) (Y : T.Sz) (hA : TIn w S A) (hB : TIn w T B) :
    Calls Try.prog 70 #[A.val S, B.val T] w (IffB (DevEq S T ∧ BktEq S T) w) := by
  have LH := Lib.hid (chain (lay w (.cells #[.slice A.da S.dn A.dc, .slice A.ba S.bn A.bc] 33)) (lay _ (.cells #[.slice B.da T.dn B.dc, .slice B.ba T.bn B.bc] 33)))
  have X := (BxN.new w #[.slice A.da S.dn A.dc, .slice A.ba S.bn A.bc] 33).later (lay _ (.cells #[.slice B.da T.dn B.dc, .slice B.ba T.bn B.bc] 33))
  have V := BxN.new (w.alloc (.cells #[.slice A.da S.dn A.dc, .slice A.ba S.bn A.bc] 33)) #[.slice B.da T.dn B.dc, .slice B.ba T.bn B.bc] 33
  rw [World.size_alloc] at V
  have K2 := Lib.hid (fun w' (b : Below w.heap.size w w') => equalDev S T A.da B.da A.dc B.dc w' Z.dn Y.dn (hA.below b).devs (hB.below b).devs)
  have K3 := Lib.hid (fun w' (b : Below w.heap.size w w') => equalBkt S T A.ba B.ba A.bc B.bc A.I B.I A.C B.C w' Z.bn Y.bn Z.L Y.L (hA.below b).bkts (hB.below b).bkts)
  clear hA hB Z Y
  have N2 := Lib.hid (show ¬ DevEq S T → ¬ (DevEq S T ∧ BktEq S T) from fun n h => n h.1)
  have N3 := Lib.hid (show ¬ BktEq S T → ¬ (DevEq S T ∧ BktEq S T) from fun n h => n h.2)
  have YS := Lib.hid (show DevEq S T → BktEq S T → DevEq S T ∧ BktEq S T from fun h k => ⟨h, k⟩)
  obtain ⟨ada, adc, aba, abc, I, C⟩ := A
  obtain ⟨bda, bdc, bba, bbc, J, D⟩ := B
  obtain ⟨sdn, hsd⟩ : ∃ n, n = S.dn := ⟨_, rfl⟩
  obtain ⟨sbn, hsb⟩ : ∃ n, n = S.bn := ⟨_, rfl⟩
  obtain ⟨tdn, htd⟩ : ∃ n, n = T.dn := ⟨_, rfl⟩
  obtain ⟨tbn, htb⟩ : ∃ n, n = T.bn := ⟨_, rfl⟩
  have E1 : TA.val ⟨ada, adc, aba, abc, I, C⟩ S = tval (.slice ada sdn adc) (.slice aba sbn abc) := by rw [hsd, hsb]
  have E2 : TA.val ⟨bda, bdc, bba, bbc, J, D⟩ T = tval (.slice bda tdn bdc) (.slice bba tbn bbc) := by rw [htd, htb]
  rw [E1]
  rw [E2]
  clear E1 E2
  dsimp only at LH X V K2 K3
  rw [← hsd, ← hsb, ← htd, ← htb] at LH X V
  rw [← hsd, ← htd] at K2
  rw [← hsb, ← htb] at K3
  have X := Lib.hid X
  have V := Lib.hid V
  clear hsd hsb htd htb
  have x0 := X.out.cells 0 _ rfl
  have x1 := X.out.cells 1 _ rfl
  have v0 := V.out.cells 0 _ rfl
  have v1 := V.out.cells 1 _ rfl
  go_enter Try.func70, Try.ntmps70
  go_wp2_with fail
  refine (K2.out _ LH.out).mono ?_
  rintro e w2 ⟨o2, rfl, H2, b2⟩
  have B2 := Lib.hid (chain LH.out b2)
  have X2 := X.out.later b2
  have V2 := V.out.later b2
  clear b2 x0 x1 v0 v1
  have x0 := X2.cells 0 _ rfl
  have x1 := X2.cells 1 _ rfl
  have v0 := V2.cells 0 _ rfl
  have v1 := V2.cells 1 _ rfl
  clear X2 V2
  cases o2
  · have G := Lib.hid (N2.out (fun o => by have := H2.2 o; cases this))
    clear H2
    go_wp2
    go_ret
    exact IffB.no G.out B2.out
  · have O2 := Lib.hid (H2.1 rfl)
    clear H2
    go_wp2_with fail
    refine (K3.out _ B2.out).mono ?_
    rintro e w3 ⟨o3, rfl, H3, b3⟩
    have B3 := Lib.hid (chain B2.out b3)
    clear b3
    cases o3
    · have G := Lib.hid (N3.out (fun o => by have := H3.2 o; cases this))
      clear H3
      go_wp2
      go_ret
      exact IffB.no G.out B3.out
    · have G := Lib.hid (YS.out O2.out (H3.1 rfl))
      clear H3
      go_wp2
      go_ret
      exact IffB.yes G.out B3.out
set_option maxRecDepth 100000 in
set_option maxHeartbeats 1000000 in
theorem implSameTree (S T : TD) (A B : TA) (w : World) (Z : S.Sz) (Y : T.Sz) (WF : S.Wf) (hA : TIn w S A) (hB : TIn w T B) :
    Calls Try.prog 23 #[A.val S, B.val T] w (IffB (SameP S T) w) := by
  have LH := Lib.hid (chain (lay w (.cells #[.slice A.da S.dn A.dc, .slice A.ba S.bn A.bc] 33)) (lay _ (.cells #[.slice B.da T.dn B.dc, .slice B.ba T.bn B.bc] 33)))
  have X := (BxN.new w #[.slice A.da S.dn A.dc, .slice A.ba S.bn A.bc] 33).later (lay _ (.cells #[.slice B.da T.dn B.dc, .slice B.ba T.bn B.bc] 33))
  have V := BxN.new (w.alloc (.cells #[.slice A.da S.dn A.dc, .slice A.ba S.bn A.bc] 33)) #[.slice B.da T.dn B.dc, .slice B.ba T.bn B.bc] 33
  rw [World.size_alloc] at V
  have K1 := Lib.hid (fun w' (b : Below w.heap.size w w') => implTreeOk S A w' Z WF (hA.below b))
  have K2 := Lib.hid (fun w' (b : Below w.heap.size w w') => implEquals S T A B w' Z Y (hA.below b) (hB.below b))
  clear hA hB Z Y
  have N1 := Lib.hid (show ¬ S.Ok → ¬ SameP S T from fun n h => n h.ok)
  have N2 := Lib.hid (show ¬ (DevEq S T ∧ BktEq S T) → ¬ SameP S T from fun n h => n ⟨h.dev, h.bkt⟩)
  have YS := Lib.hid (show S.Ok → DevEq S T ∧ BktEq S T → SameP S T from fun o h => ⟨o, h.1, h.2⟩)
  obtain ⟨ada, adc, aba, abc, I, C⟩ := A
  obtain ⟨bda, bdc, bba, bbc, J, D⟩ := B
  obtain ⟨sdn, hsd⟩ : ∃ n, n = S.dn := ⟨_, rfl⟩
  obtain ⟨sbn, hsb⟩ : ∃ n, n = S.bn := ⟨_, rfl⟩
  obtain ⟨tdn, htd⟩ : ∃ n, n = T.dn := ⟨_, rfl⟩
  obtain ⟨tbn, htb⟩ : ∃ n, n = T.bn := ⟨_, rfl⟩
  have E1 : TA.val ⟨ada, adc, aba, abc, I, C⟩ S = tval (.slice ada sdn adc) (.slice aba sbn abc) := by rw [hsd, hsb]
  have E2 : TA.val ⟨bda, bdc, bba, bbc, J, D⟩ T = tval (.slice bda tdn bdc) (.slice bba tbn bbc) := by rw [htd, htb]
  rw [E1] at K1 K2 ⊢
  rw [E2] at K2 ⊢
  clear E1 E2
  dsimp only at LH X V
  rw [← hsd, ← hsb, ← htd, ← htb] at LH X V
  have X := Lib.hid X
  have V := Lib.hid V
  clear hsd hsb htd htb
  go_enter Try.func23, Try.ntmps23
  go_wp2_with fail
  refine (K1.out _ LH.out).mono ?_
  rintro e w1 ⟨o1, rfl, H1, b1⟩
  have B1 := Lib.hid (chain LH.out b1)
  have X1 := Lib.hid (X.out.later b1)
  have V1 := Lib.hid (V.out.later b1)
  have x0 := X1.out.cells 0 _ rfl
  have x1 := X1.out.cells 1 _ rfl
  have v0 := V1.out.cells 0 _ rfl
  have v1 := V1.out.cells 1 _ rfl
  clear b1
  cases o1
  · have G := Lib.hid (N1.out (fun o => by have := H1.2 o; cases this))
    clear H1
    go_wp2
    go_ret
    exact IffB.no G.out B1.out
  · have O1 := Lib.hid (H1.1 rfl)
    clear H1
    go_wp2_with fail
    refine (K2.out _ B1.out).mono ?_
    rintro e w2 ⟨o2, rfl, H2, b2⟩
    have B2 := Lib.hid (chain B1.out b2)
    have X2 := X1.out.later b2
    have V2 := V1.out.later b2
    clear b2 x0 x1 v0 v1
    have x0 := X2.cells 0 _ rfl
    have x1 := X2.cells 1 _ rfl
    have v0 := V2.cells 0 _ rfl
    have v1 := V2.cells 1 _ rfl
    clear X2 V2
    cases o2
    · have G := Lib.hid (N2.out (fun o => by have := H2.2 o; cases this))
      clear H2
      go_wp2
      go_ret
      exact IffB.no G.out B2.out
    · have G := Lib.hid (YS.out O1.out (H2.1 rfl))
      clear H2
      go_wp2
      go_ret
      exact IffB.yes G.out B2.out
end Go.Proofs.Ytigaoimnhebegaa.Tm
