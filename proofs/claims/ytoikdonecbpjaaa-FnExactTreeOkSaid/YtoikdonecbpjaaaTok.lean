/-
  Whether a tree is valid: the model's function.
-/
import Derived.Test.YtoikdonecbpjaaaTfits
namespace Go.Proofs.Ytoikdonecbpjaaa.Tm
open Go.RowKit Go.Proofs.Ytoikdonecbpjaaa.GfI Go.Proofs.Ytoikdonecbpjaaa.GfS Go.Proofs.Ytoikdonecbpjaaa.MixC
open Go.Proofs.Ytoikdonecbpjaaa.It (lay chain)
open Go.Proofs.Ytoikdonecbpjaaa.Rc (Recs)
open Go.Proofs.Ytoikdonecbpjaaa.Bk (Bks tval bval)
open Go.Proofs.Ytoikdonecbpjaaa.Sg (BxN)
set_option linter.unusedVariables false
set_option linter.unusedSimpArgs false

set_option maxRecDepth 100000 in
set_option maxHeartbeats 4000000 in
theorem l06OK (T : TD) (A : TA) (w : World) (S : T.Sz) (h : TIn w T A) :
    Calls Try.prog 51 #[A.val T] w (IffB T.Ok w) := by
  have CD := Lib.hid (fun w' (b : Below w.heap.size w w') => l06Devices T A w' S (h.below b))
  have CB := Lib.hid (fun w' (b : Below w.heap.size w w') => l06Buckets T A w' S (h.below b))
  have CO := Lib.hid (fun w' (b : Below w.heap.size w w') (B : T.BktOk) => l06Once T A w' B S.dn (h.below b))
  have CF := Lib.hid (fun j a cap w' (b : Below w.heap.size w w') (B : T.BktOk) (hj : j < T.bn) (wd : Words w' a (T.L j)) => l06Fits T A (T.bf j) (T.bg j) a cap (T.L j) w' (B.each j hj).2.2.1 (B.each j hj).2.2.2.1 (S.L j hj) S (h.below b) wd)
  have HD := h.bkts
  have hbn := S.bn
  clear h S
  obtain ⟨da, dc, ba, bc, I, C⟩ := A
  obtain ⟨dn, hdn'⟩ : ∃ dn, dn = T.dn := ⟨_, rfl⟩
  obtain ⟨bn, hbn'⟩ : ∃ bn, bn = T.bn := ⟨_, rfl⟩
  have E : TA.val ⟨da, dc, ba, bc, I, C⟩ T = tval (.slice da dn dc) (.slice ba bn bc) := by rw [hdn', hbn']
  rw [E] at CD CB CO CF ⊢
  rw [← hbn'] at CF HD hbn
  have HD := Lib.hid HD
  have HBN := Lib.hid hbn'
  clear E hdn' hbn'
  have LH := Lib.hid (lay w (.cells #[.slice da dn dc, .slice ba bn bc] 31))
  have X := Lib.hid (BxN.new w #[.slice da dn dc, .slice ba bn bc] 31)
  go_enter Try.func51, Try.ntmps51
  go_wp2_with fail
  refine (CD.out _ LH.out).mono ?_
  rintro e w1 ⟨bb1, rfl, H1, b1⟩
  have B1 := Lib.hid (chain LH.out b1)
  have X1 := Lib.hid (X.out.later b1)
  have x0 := X1.out.cells 0 _ rfl
  have x1 := X1.out.cells 1 _ rfl
  clear b1
  cases bb1
  · have G := Lib.hid (show ¬ T.Ok from fun k => by have := H1.2 k.dev; cases this)
    clear H1
    go_wp2
    go_ret
    exact IffB.no G.out B1.out
  · have DV := Lib.hid (H1.1 rfl)
    clear H1
    go_wp2_with fail
    refine (CB.out _ B1.out).mono ?_
    rintro e w2 ⟨bb2, rfl, H2, b2⟩
    have B2 := Lib.hid (chain B1.out b2)
    have X2 := Lib.hid (X1.out.later b2)
    clear x0 x1
    have x0 := X2.out.cells 0 _ rfl
    have x1 := X2.out.cells 1 _ rfl
    clear b2
    cases bb2
    · have G := Lib.hid (show ¬ T.Ok from fun k => by have := H2.2 k.bkt; cases this)
      clear H2
      go_wp2
      go_ret
      exact IffB.no G.out B2.out
    · have BV := Lib.hid (H2.1 rfl)
      clear H2
      go_wp2_with fail
      refine (CO.out _ B2.out BV.out).mono ?_
      rintro e w3 ⟨bb3, rfl, H3, b3⟩
      have B3 := Lib.hid (chain B2.out b3)
      have X3 := Lib.hid (X2.out.later b3)
      clear x0 x1
      have x0 := X3.out.cells 0 _ rfl
      have x1 := X3.out.cells 1 _ rfl
      clear b3
      cases bb3
      · have G := Lib.hid (show ¬ T.Ok from fun k => by have := H3.2 k.once; cases this)
        clear H3
        go_wp2
        go_ret
        exact IffB.no G.out B3.out
      · have OV := Lib.hid (H3.1 rfl)
        clear H3 x0 x1
        go_wp2
        go_loopw [3] (fun i wr => ∃ j : Nat, j ≤ bn ∧ i = .int .i64 j ∧ (∀ p, p < j → T.Fit1 p) ∧ BxN wr w.heap.size [.slice da dn dc, .slice ba bn bc] ∧ Below w.heap.size w wr) (fun i _ => bn - (intOf i).toNat)
        case atStart => exact ⟨0, by omega, rfl, fun p hp => by omega, X3.out, B3.out⟩
        case round =>
          obtain ⟨j, hj, rfl, P, XR, hw⟩ := hrel
          have PH := Lib.hid P
          have XH := Lib.hid XR
          have HW := Lib.hid hw
          have x0 := XR.cells 0 _ rfl
          have x1 := XR.cells 1 _ rfl
          clear P XR
          by_cases hlt : j < bn
          · obtain ⟨b, off, rfl, hB, hcc⟩ := (HD.out.below hw).resolve_left (by omega)
            obtain ⟨c0, c1, c2, wd⟩ := hcc j hlt
            have HK : Hid (j < T.bn) := by show _ < _; rw [← HBN.out]; exact hlt
            have FI := Lib.hid (@fit_iff T j (BV.out.each j HK.out).2.2.1 (BV.out.each j HK.out).2.2.2.1)
            have CJ := Lib.hid (fun w' (b : Below wr.heap.size wr w') => CF.out j (I j) (C j) w' (hw.trans (b.mono hw.size)) BV.out hlt (wd.below b))
            have NO := Lib.hid (show ¬ T.Fit1 j → ¬ T.Ok from fun H k => H (k.fit j HK.out))
            have YES := Lib.hid (show T.Fit1 j → ∀ p, p < j + 1 → T.Fit1 p from fun H p hp => if e : p = j then by rw [e]; exact H else PH.out p (by omega))
            generalize T.bf j = x at *
            generalize T.bg j = y at *
            generalize I j = ij at *
            generalize C j = cj at *
            generalize hLj : (T.L j).length = lj at *
            have HBL := Lib.hid hB
            clear hcc wd hw hB hLj
            go_wp2
            go_region_held3 (fun w' => w'.cell? ⟨w.heap.size, 0, none⟩ = some (.slice da dn dc) ∧ w'.cell? ⟨w.heap.size, 1, none⟩ = some (.slice (some ⟨b, off, none⟩) bn bc) ∧ w'.cell? ⟨b, off + j * 3, none⟩ = some (.int .i64 x) ∧ w'.cell? ⟨b, off + j * 3 + 1, none⟩ = some (.int .i64 y) ∧ w'.cell? ⟨b, off + j * 3 + 2, none⟩ = some (.slice ij lj cj)) (go_keep)
              (first
                | (go_at_call 100; refine (CJ.out _ (undrew (Below.refl _ _))).mono ?_; rintro e w4 ⟨bb, rfl, H4, b4⟩; have b4 := undrew b4; have B4 := Lib.hid (HW.out.trans (b4.mono HW.out.size)); have X4 := Lib.hid (XH.out.later b4); have y0 := X4.out.cells 0 _ rfl; have y1 := X4.out.cells 1 _ rfl; have d0 := (b4.cell (p := ⟨b, off + j * 3, none⟩) HBL.out).trans c0; have d1 := (b4.cell (p := ⟨b, off + j * 3 + 1, none⟩) HBL.out).trans c1; have d2 := (b4.cell (p := ⟨b, off + j * 3 + 2, none⟩) HBL.out).trans c2; clear b4))
            all_goals
              cases bb
              · have G := Lib.hid (NO.out fun f => by have := H4.2 (FI.out.2 f); cases this)
                clear H4
                go_wp2
                go_ret
                exact IffB.no G.out B4.out
              · have G := Lib.hid (YES.out (FI.out.1 (H4.1 rfl)))
                clear H4
                go_wp2
                go_roundw
                case rel => exact ⟨j + 1, by omega, by go_num, G.out, X4.out, B4.out⟩
                case measure => simp [intOf]; omega
          · obtain rfl : j = bn := by omega
            have G := Lib.hid (show T.Ok from ⟨DV.out, BV.out, OV.out, fun p hp => PH.out p (by rw [HBN.out]; exact hp)⟩)
            go_wp2
            go_ret
            exact IffB.yes G.out HW.out
end Go.Proofs.Ytoikdonecbpjaaa.Tm
