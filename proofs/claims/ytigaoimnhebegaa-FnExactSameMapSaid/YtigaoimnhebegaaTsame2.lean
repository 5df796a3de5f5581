/-
  Two trees compared: the model's function; SameTree in both.
-/
import Derived.Test.YtigaoimnhebegaaTsame
namespace Go.Proofs.Ytigaoimnhebegaa.Tm
open Go.RowKit Go.Proofs.Ytigaoimnhebegaa.GfI Go.Proofs.Ytigaoimnhebegaa.GfS Go.Proofs.Ytigaoimnhebegaa.MixC
open Go.Proofs.Ytigaoimnhebegaa.It (lay chain)
open Go.Proofs.Ytigaoimnhebegaa.Rc (Recs)
open Go.Proofs.Ytigaoimnhebegaa.Bk (Bks tval bval)
open Go.Proofs.Ytigaoimnhebegaa.Sg (BxN)
set_option linter.unusedVariables false
set_option linter.unusedSimpArgs false

theorem quietQ {P : Program} {f : FuncId} {args : Array Value} {b : Bool} {w : World} {n : Nat} (h : Calls P f args (w.drewN n) (Sa.BoolQ b (w.drewN n))) :
    Calls P f args (w.drewN n) fun e w'' => e = .returned (.bool b) ∧ ∃ m, w'' = w.drewN m := Calls.quiet_of (h.mono fun _ _ q => q)

set_option maxRecDepth 100000 in
set_option maxHeartbeats 4000000 in
theorem l06Same (S T : TD) (A B : TA) (w : World) (Z : S.Sz) (Y : T.Sz) (hA : TIn w S A) (hB : TIn w T B) :
    Calls Try.prog 68 #[A.val S, B.val T] w (IffB (DevEq S T ∧ BktEq S T) w) := by
  have LH := Lib.hid (chain (lay w (.cells #[.slice A.da S.dn A.dc, .slice A.ba S.bn A.bc] 33)) (lay _ (.cells #[.slice B.da T.dn B.dc, .slice B.ba T.bn B.bc] 33)))
  have X := (BxN.new w #[.slice A.da S.dn A.dc, .slice A.ba S.bn A.bc] 33).later (lay _ (.cells #[.slice B.da T.dn B.dc, .slice B.ba T.bn B.bc] 33))
  have V := BxN.new (w.alloc (.cells #[.slice A.da S.dn A.dc, .slice A.ba S.bn A.bc] 33)) #[.slice B.da T.dn B.dc, .slice B.ba T.bn B.bc] 33
  rw [World.size_alloc] at V
  obtain ⟨ada, adc, aba, abc, I, C⟩ := A
  obtain ⟨bda, bdc, bba, bbc, J, D⟩ := B
  have d1 := Lib.hid hA.devs
  have d2 := Lib.hid hB.devs
  have k1 := Lib.hid hA.bkts
  have k2 := Lib.hid hB.bkts
  have zL := Lib.hid Z.L
  have yL := Lib.hid Y.L
  have z1 := Z.dn
  have z2 := Z.bn
  have y1 := Y.dn
  have y2 := Y.bn
  clear hA hB Z Y
  obtain ⟨sdn, hsd⟩ : ∃ n, n = S.dn := ⟨_, rfl⟩
  obtain ⟨sbn, hsb⟩ : ∃ n, n = S.bn := ⟨_, rfl⟩
  obtain ⟨tdn, htd⟩ : ∃ n, n = T.dn := ⟨_, rfl⟩
  obtain ⟨tbn, htb⟩ : ∃ n, n = T.bn := ⟨_, rfl⟩
  have E1 : TA.val ⟨ada, adc, aba, abc, I, C⟩ S = tval (.slice ada sdn adc) (.slice aba sbn abc) := by rw [hsd, hsb]
  have E2 : TA.val ⟨bda, bdc, bba, bbc, J, D⟩ T = tval (.slice bda tdn bdc) (.slice bba tbn bbc) := by rw [htd, htb]
  rw [E1, E2]
  clear E1 E2
  dsimp only at *
  rw [← hsd, ← hsb] at LH X V
  rw [← htd, ← htb] at LH X V
  rw [← hsd] at z1 d1
  rw [← hsb] at z2 k1 zL
  rw [← htd] at y1 d2
  rw [← htb] at y2 k2 yL
  have HSD := Lib.hid hsd
  have HSB := Lib.hid hsb
  have HTD := Lib.hid htd
  have HTB := Lib.hid htb
  clear hsd hsb htd htb
  have X := Lib.hid X
  have V := Lib.hid V
  by_cases e1 : sdn = tdn
  · subst e1
    by_cases e2 : sbn = tbn
    · subst e2
      go_enter Try.func68, Try.ntmps68
      go_wp2
      go_loopw [5] (fun i wr => ∃ k : Nat, k ≤ sdn ∧ i = .int .i64 k ∧ (∀ j, j < k → S.df j = T.df j ∧ S.dg j = T.dg j) ∧ BxN wr w.heap.size [.slice ada sdn adc, .slice aba sbn abc] ∧ BxN wr (w.heap.size + 1) [.slice bda sdn bdc, .slice bba sbn bbc] ∧ Below w.heap.size w wr) (fun i _ => sdn - (intOf i).toNat)
      case atStart => exact ⟨0, by omega, rfl, fun j hj => by omega, X.out, V.out, LH.out⟩
      case round =>
        obtain ⟨k, hk, rfl, P, XR, VR, hw⟩ := hrel
        have PH := Lib.hid P
        have WH := Lib.hid hw
        have x0 := XR.cells 0 _ rfl
        have x1 := XR.cells 1 _ rfl
        have v0 := VR.cells 0 _ rfl
        have v1 := VR.cells 1 _ rfl
        have XR := Lib.hid XR
        have VR := Lib.hid VR
        clear P
        by_cases hlt : k < sdn
        · obtain ⟨b1, o1, rfl, hB1, hc1⟩ := (d1.out.below hw).resolve_left (by omega)
          obtain ⟨b2, o2, rfl, hB2, hc2⟩ := (d2.out.below hw).resolve_left (by omega)
          obtain ⟨p0, p1⟩ := hc1 k hlt
          obtain ⟨q0, q1⟩ := hc2 k hlt
          have hkS : k < S.dn := by rw [← HSD.out]; exact hlt
          have NO := Lib.hid (show ¬ (S.df k = T.df k ∧ S.dg k = T.dg k) → ¬ (DevEq S T ∧ BktEq S T) from fun h d => h (d.1.each k hkS))
          have YES := Lib.hid (show S.df k = T.df k ∧ S.dg k = T.dg k → ∀ j, j < k + 1 → S.df j = T.df j ∧ S.dg j = T.dg j from fun h j hj => if e : j = k then by rw [e]; exact h else PH.out j (by omega))
          clear hc1 hc2 hw
          generalize S.df k = u1 at *
          generalize S.dg k = u2 at *
          generalize T.df k = v1' at *
          generalize T.dg k = v2' at *
          by_cases h1 : u1 = v1'
          · by_cases h2 : u2 = v2'
            · have G := Lib.hid (YES.out ⟨h1, h2⟩)
              subst h1 h2
              go_wp2
              go_quiet (fail)
              go_wp2
              go_roundw
              case rel => exact ⟨k + 1, by omega, by go_num, G.out, XR.out.later (below_drewN (Below.refl _ _) _), VR.out.later (below_drewN (Below.refl _ _) _), WH.out.trans (below_drewN (Below.refl _ _) _)⟩
              case measure => simp [intOf]; omega
            · have G := Lib.hid (NO.out (fun h => h2 h.2))
              have b2' : (u2 == v2') = false := by simpa using h2
              subst h1
              clear h2
              go_wp2
              go_quiet (fail)
              go_wp2
              go_ret
              exact IffB.no G.out (WH.out.trans (below_drewN (Below.refl _ _) _))
          · have G := Lib.hid (NO.out (fun h => h1 h.1))
            have b1' : (u1 == v1') = false := by simpa using h1
            clear h1
            go_wp2
            go_quiet (fail)
            go_wp2
            go_ret
            exact IffB.no G.out (WH.out.trans (below_drewN (Below.refl _ _) _))
        · obtain rfl : k = sdn := by omega
          have DE := Lib.hid (show DevEq S T from ⟨by rw [← HSD.out, ← HTD.out], fun i hi => PH.out i (by rw [HSD.out]; exact hi)⟩)
          clear hw
          go_wp2
          go_loopw [6] (fun i wr => ∃ r : Nat, r ≤ sbn ∧ i = .int .i64 r ∧ (∀ j, j < r → S.bf j = T.bf j ∧ S.bg j = T.bg j ∧ S.L j = T.L j) ∧ BxN wr w.heap.size [.slice ada k adc, .slice aba sbn abc] ∧ BxN wr (w.heap.size + 1) [.slice bda k bdc, .slice bba sbn bbc] ∧ Below w.heap.size w wr) (fun i _ => sbn - (intOf i).toNat)
          case atStart => exact ⟨0, by omega, rfl, fun j hj => by omega, XR.out, VR.out, WH.out⟩
          case round =>
            clear XR VR WH PH x0 x1 v0 v1
            obtain ⟨r, hr, rfl, P, XR, VR, hw⟩ := hrel
            have PH := Lib.hid P
            have WH := Lib.hid hw
            have x0 := XR.cells 0 _ rfl
            have x1 := XR.cells 1 _ rfl
            have v0 := VR.cells 0 _ rfl
            have v1 := VR.cells 1 _ rfl
            have XR := Lib.hid XR
            have VR := Lib.hid VR
            clear P
            by_cases hlt : r < sbn
            · obtain ⟨b1, o1, rfl, hB1, hc1⟩ := (k1.out.below hw).resolve_left (by omega)
              obtain ⟨b2, o2, rfl, hB2, hc2⟩ := (k2.out.below hw).resolve_left (by omega)
              obtain ⟨p0, p1, p2, wx⟩ := hc1 r hlt
              obtain ⟨q0, q1, q2, wy⟩ := hc2 r hlt
              have hkS : r < S.bn := by rw [← HSB.out]; exact hlt
              have NO := Lib.hid (show ¬ (S.bf r = T.bf r ∧ S.bg r = T.bg r ∧ S.L r = T.L r) → ¬ (DevEq S T ∧ BktEq S T) from fun h d => h (d.2.each r hkS))
              have YES := Lib.hid (show S.bf r = T.bf r ∧ S.bg r = T.bg r ∧ S.L r = T.L r → ∀ j, j < r + 1 → S.bf j = T.bf j ∧ S.bg j = T.bg j ∧ S.L j = T.L j from fun h j hj => if e : j = r then by rw [e]; exact h else PH.out j (by omega))
              have QS := fun n => quietQ (Sa.l00Same (I r) (J r) (C r) (D r) (S.L r) (T.L r) (wr.drewN n) (zL.out r hlt) (yL.out r hlt) (wx.below (below_drewN (Below.refl _ _) _)) (wy.below (below_drewN (Below.refl _ _) _)))
              clear hc1 hc2 hw wx wy
              generalize S.bf r = u1 at *
              generalize S.bg r = u2 at *
              generalize T.bf r = t1 at *
              generalize T.bg r = t2 at *
              generalize I r = ir at *
              generalize J r = jr at *
              generalize C r = cr at *
              generalize D r = dr at *
              by_cases h1 : u1 = t1
              · by_cases h2 : u2 = t2
                · subst h1 h2
                  by_cases h3 : S.L r = T.L r
                  · have G := Lib.hid (YES.out ⟨rfl, rfl, h3⟩)
                    rw [show Sa.same (S.L r) (T.L r) = true from decide_eq_true h3] at QS
                    have QS := Lib.hid QS
                    clear h3 NO YES
                    generalize (S.L r).length = l1 at *
                    generalize (T.L r).length = l2 at *
                    go_wp2
                    go_quiet ((go_at_call 139; with_reducible exact QS.out _))
                    go_wp2
                    go_roundw
                    case rel => exact ⟨r + 1, by omega, by go_num, G.out, XR.out.later (below_drewN (Below.refl _ _) _), VR.out.later (below_drewN (Below.refl _ _) _), WH.out.trans (below_drewN (Below.refl _ _) _)⟩
                    case measure => simp [intOf]; omega
                  · have G := Lib.hid (NO.out (fun h => h3 h.2.2))
                    rw [show Sa.same (S.L r) (T.L r) = false from decide_eq_false h3] at QS
                    have QS := Lib.hid QS
                    clear h3 NO YES
                    generalize (S.L r).length = l1 at *
                    generalize (T.L r).length = l2 at *
                    go_wp2
                    go_quiet ((go_at_call 139; with_reducible exact QS.out _))
                    go_wp2
                    go_ret
                    exact IffB.no G.out (WH.out.trans (below_drewN (Below.refl _ _) _))
                · have G := Lib.hid (NO.out (fun h => h2 h.2.1))
                  have b2' : (u2 != t2) = true := by simpa using h2
                  subst h1
                  clear h2 QS NO YES
                  generalize (S.L r).length = l1 at *
                  generalize (T.L r).length = l2 at *
                  go_wp2
                  go_quiet (fail)
                  go_wp2
                  go_ret
                  exact IffB.no G.out (WH.out.trans (below_drewN (Below.refl _ _) _))
              · have G := Lib.hid (NO.out (fun h => h1 h.1))
                have b1' : (u1 != t1) = true := by simpa using h1
                clear h1 QS NO YES
                generalize (S.L r).length = l1 at *
                generalize (T.L r).length = l2 at *
                go_wp2
                go_quiet (fail)
                go_wp2
                go_ret
                exact IffB.no G.out (WH.out.trans (below_drewN (Below.refl _ _) _))
            · obtain rfl : r = sbn := by omega
              have G := Lib.hid (show DevEq S T ∧ BktEq S T from ⟨DE.out, by rw [← HSB.out, ← HTB.out], fun i hi => PH.out i (by rw [HSB.out]; exact hi)⟩)
              clear hw
              go_wp2
              go_ret
              exact IffB.yes G.out WH.out
    · have G := Lib.hid (show ¬ (DevEq S T ∧ BktEq S T) from fun d => e2 (by rw [HSB.out, HTB.out]; exact d.2.n))
      go_enter Try.func68, Try.ntmps68
      go_wp2
      go_ret
      exact IffB.no G.out LH.out
  · have G := Lib.hid (show ¬ (DevEq S T ∧ BktEq S T) from fun d => e1 (by rw [HSD.out, HTD.out]; exact d.1.n))
    go_enter Try.func68, Try.ntmps68
    go_wp2
    go_ret
    exact IffB.no G.out LH.out
end Go.Proofs.Ytigaoimnhebegaa.Tm
