/-
  A bucket's items are hung: the program's method on the map of the parts.
-/
import Derived.Test.YtoikdonecbpjaaaTprt
import Derived.BigQuiet
import Derived.Deep.QuietTactic
import Derived.Deep.RegionHeld3
import Derived.Test.YtoikdonecbpjaaaTfits
namespace Go.Proofs.Ytoikdonecbpjaaa.Tm
open Go.RowKit Go.Proofs.Ytoikdonecbpjaaa.GfI Go.Proofs.Ytoikdonecbpjaaa.GfS Go.Proofs.Ytoikdonecbpjaaa.MixC
open Go.Proofs.Ytoikdonecbpjaaa.It (lay chain)
open Go.Proofs.Ytoikdonecbpjaaa.Sg (BxN)
open Go.Maps (Keyed)
set_option linter.unusedVariables false
set_option linter.unusedSimpArgs false

theorem keyed64 : Keyed Try.prog 2 := Maps.int_keyed Try.underlying2
theorem Prt.look {T : TD} {I : Nat → Option Addr} {C : Nat → Nat} {N0 mb p q k i base : Nat} {U : Int → Option Nat} {S : Nat → Value} {w : World} (h : Prt T I C N0 mb p q k i base U S w) (x : Int) (hx : (Lit.int .i64 x).wf = true) (n : Nat) :
    (Instr.lookup 70 (.map (some mb)) (.int .i64 x) false).run Try.prog (w.drewN n) = .ok (thg T p q T.dn T.bn x) (w.drewN n) :=
  (h.map.later (below_drewN (Below.refl _ _) n)).look keyed64 Try.underlying70 Try.underlying2 (by kernel_rfl) x hx
/-- What hanging a bucket's items answers, and leaves behind. -/
def Hung (T : TD) (I : Nat → Option Addr) (C : Nat → Nat) (w0 : World) (mb p q k : Nat) (e : Ending) (w' : World) : Prop :=
  ∃ b, e = .returned (.bool b) ∧ Below w0.heap.size w0 w' ∧ (b = false → ¬ T.Ok) ∧ (b = true → T.Fit1 k ∧ ∃ U' S', Up T (k + 1) 0 U' ∧ Prt T I C w0.heap.size mb p q (k + 1) 0 w'.heap.size U' S' w')
def FitK (T : TD) (k n : Nat) : Prop := ∀ i x, i < n → (T.L k)[i]? = some x → mayBe (T.bg k) (T.kd x) (T.kd ((T.L k).getD 0 0))

theorem hangML (d f : Nat) (w : World) : (method (f + 10) 120 (.pointer (some ⟨d, 0, none⟩)) "loop.example/g00849/impl.hang").run Try.prog w = .ok (178, .pointer (some ⟨d, 0, none⟩)) w := by kernel_rfl
theorem hangMB (d f : Nat) (w : World) : (method (f + 10) 121 (.pointer (some ⟨d, 0, none⟩)) "loop.example/g00849/impl.hang").run Try.prog w = .ok (178, .pointer (some ⟨d, 0, none⟩)) w := by kernel_rfl
theorem Same.run {P : Program} {f : FuncId} {args : Array Value} {v : Value} {w : World} (h : Calls P f args w (Same v w)) (Q : Ending → World → Prop) (hq : Q (.returned v) w) : Calls P f args w Q := h.mono (by rintro e w' ⟨rfl, rfl⟩; exact hq)
theorem row_shape {w : World} {base : Nat} {e : TypeId} {size n : Nat} {v : Value} {xs : List Value} (h : w.ownsRow base e size v n xs) : ∃ a L c, v = .slice a L c := by
  rcases h with ⟨_, ⟨rfl, _⟩ | ⟨g, cap, cur, rfl, _⟩⟩
  · exact ⟨_, _, _, rfl⟩
  · exact ⟨_, _, _, rfl⟩
theorem quiet_again {P : Program} {f : FuncId} {args : Array Value} {v : Value} {w : World} {a b : Nat} (h : Calls P f args (w.drewN (a + b)) (Same v (w.drewN (a + b)))) :
    Calls P f args (w.drewN (a + b)) fun e w'' => e = .returned v ∧ ∃ n, w'' = w.drewN (a + n) := h.mono fun _ _ q => ⟨q.1, b, q.2.symm⟩
set_option maxRecDepth 100000 in
set_option maxHeartbeats 4000000 in
theorem hangItems (T : TD) (I : Nat → Option Addr) (C : Nat → Nat) (w0 w : World) (mb p q k base : Nat) (U : Int → Option Nat) (S : Nat → Value) (hw : Below w0.heap.size w0 w) (D : T.DevOk) (B : T.BktOk) (hk : k < T.bn)
    (WF : ∀ x, x ∈ T.L k → (Lit.int .i64 x).wf = true) (HI : Words w0 (I k) (T.L k)) (HU : Up T k 0 U) (HP : Prt T I C w0.heap.size mb p q k 0 base U S w) :
    Calls Try.prog 105 #[.map (some mb), .pointer (some ⟨q + 2 * k, 0, none⟩)] w (Hung T I C w0 mb p q k) := by
  obtain ⟨n, hn⟩ : ∃ n, n = (T.L k).length := ⟨_, rfl⟩
  have HN := Lib.hid hn
  have h8 : n ≤ 8 := by rw [hn]; exact (B.each k hk).2.2.2.2
  have PH := Lib.hid HP
  have UH := Lib.hid HU
  have WH := Lib.hid hw
  have BX := Lib.hid (HP.br k hk)
  have c3 := (HP.br k hk).cells 3 _ rfl
  rw [← hn] at c3
  clear hn HP HU hw
  go_enter Try.func105, Try.ntmps105
  go_wp2
  go_loopw [15] (fun i wr => ∃ (m : Nat) (U : Int → Option Nat) (S : Nat → Value), m ≤ n ∧ i = .int .i64 m ∧ FitK T k m ∧ Up T k m U ∧ Prt T I C w0.heap.size mb p q k m base U S wr ∧ Below w0.heap.size w0 wr) (fun i _ => n - (intOf i).toNat)
  case atStart => exact ⟨0, U, S, by omega, rfl, fun i x hi => by omega, UH.out, PH.out, WH.out⟩
  case round =>
    clear PH UH WH BX
    obtain ⟨m, U, S, hm, rfl, F, HU, HP, hw⟩ := hrel
    by_cases hlt : m < n
    · have hlen : m < (T.L k).length := by rw [← HN.out]; exact hlt
      have hlen0 : 0 < (T.L k).length := by omega
      have hw1 := HI.below hw
      obtain ⟨b, off, eI, hB, nums⟩ := hw1.resolve_left (by intro e; rw [e] at hlen; simp at hlen)
      have d1 := nums m hlen
      have d0 := nums 0 hlen0
      rw [Nat.add_zero] at d0
      have n0 : 0 < n := by omega
      have c2 := (HP.br k hk).cells 2 _ rfl
      have c3 := (HP.br k hk).cells 3 _ rfl
      have c4 := (HP.br k hk).cells 4 _ rfl
      rw [eI, ← HN.out] at c3
      rw [eI]
      have X1 := HP.look _ (WF _ (getD_mem hlen))
      have X0 := HP.look _ (WF _ (getD_mem hlen0))
      have G13 : 1 ≤ T.bg k ∧ T.bg k ≤ 3 := ⟨(B.each k hk).2.2.1, (B.each k hk).2.2.2.1⟩
      have KX := Lib.hid (fun w' (b : Below wr.heap.size wr w') => kindOf T p q ((T.L k).getD m 0) w' (fun j hj => ((HP.br j hj).later b).cells 2 _ rfl))
      have KY := Lib.hid (fun w' (b : Below wr.heap.size wr w') => kindOf T p q ((T.L k).getD 0 0) w' (fun j hj => ((HP.br j hj).later b).cells 2 _ rfl))
      have MH := fun w' => mayHold (T.bg k) (T.kd ((T.L k).getD m 0)) G13.1 G13.2 w'
      have hx : (T.L k)[m]? = some ((T.L k).getD m 0) := by rw [List.getD_eq_getElem?_getD, List.getElem?_eq_getElem hlen]; rfl
      have NOF := Lib.hid (show ¬ mayBe (T.bg k) (T.kd ((T.L k).getD m 0)) (T.kd ((T.L k).getD 0 0)) → ¬ T.Ok from fun h d => h (d.fit k hk m _ hx))
      have YES := Lib.hid (show mayBe (T.bg k) (T.kd ((T.L k).getD m 0)) (T.kd ((T.L k).getD 0 0)) → FitK T k (m + 1) from fun h i z hi hz => by
        by_cases e : i = m
        · subst e; rw [hx] at hz; obtain rfl := Option.some.inj hz; exact h
        · exact F i z (by omega) hz)
      have NOO := Lib.hid (show U ((T.L k).getD m 0) ≠ none → ¬ T.Ok from fun h d => HU.bad hk hlen h d.once)
      have UPS := Lib.hid (HU.step hk hlen)
      have PUSH := Lib.hid (fun (U' : Int → Option Nat) w' (H : Prt T I C w0.heap.size mb p q k m base U' S w') o w2 v' => H.push (o := o) (w2 := w2) (v' := v') hk hlen)
      have TC := thg_cases (T := T) p q ((T.L k).getD m 0)
      have PH := Lib.hid HP
      have WH := Lib.hid hw
      have DH := Lib.hid D
      have BH := Lib.hid B
      clear hw1 nums eI HU HP hw F
      generalize thg T p q T.dn T.bn ((T.L k).getD m 0) = vx at *
      generalize thg T p q T.dn T.bn ((T.L k).getD 0 0) = vy at *
      generalize T.kd ((T.L k).getD m 0) = kx at *
      generalize T.kd ((T.L k).getD 0 0) = ky at *
      generalize T.bg k = g at *
      generalize (T.L k).getD m 0 = x at *
      generalize (T.L k).getD 0 0 = y at *
      have QX := Lib.hid (fun a b => quiet_again (KX.out (wr.drewN (a + b)) (below_drewN (Below.refl _ _) _)))
      have QY := Lib.hid (fun a b => quiet_again (KY.out (wr.drewN (a + b)) (below_drewN (Below.refl _ _) _)))
      have QM := fun a b => quiet_again (MH (wr.drewN (a + b)))
      cases HB : holdB g kx
      · rw [HB] at QM
        have QM := Lib.hid QM
        have G := Lib.hid (NOF.out (fun h => by have := of_decide_eq_false HB; exact this h.1))
        clear HB TC MH KX KY
        go_wp2
        go_quiet (fail)
        go_wp2
        go_quiet (first
          | (go_at_call 110; with_reducible exact QX.out _ _)
          | (go_at_call 129; with_reducible exact QM.out _ _))
        go_wp2
        go_ret
        exact ⟨false, rfl, WH.out.trans (below_drewN (below_drewN (Below.refl _ _) _) _), fun _ => G.out, fun e => by cases e⟩
      · rw [HB] at QM MH
        have QM := Lib.hid QM
        have MH := Lib.hid MH
        by_cases hxy : kx = ky
        · have hne : (kx != ky) = false := by simpa using hxy
          have GY := Lib.hid (YES.out ⟨of_decide_eq_true HB, hxy⟩)
          have HPB : Hid (∃ t d, vx = .iface t (.pointer (some ⟨d, 0, none⟩)) ∧ (t = 120 ∨ t = 121) ∧ wr.cell? ⟨d, 0, none⟩ = some (upv q (U x)) ∧ wr.frozen? ⟨d, 0, none⟩ = false ∧ d < wr.heap.size ∧ w0.heap.size ≤ d ∧
              ∀ w', Prt T I C w0.heap.size mb p q k m base U S w' → Prt T I C w0.heap.size mb p q k m base (upU U x k) S (w'.setCell ⟨d, 0, none⟩ (.pointer (some ⟨q + 2 * k, 0, none⟩)))) := by
            show ∃ t d, _
            rcases TC with ⟨d, hd, hdx, hkx, hvx⟩ | ⟨d, hd, hdx, hkx, hvx⟩ | ⟨hkx, hvx⟩
            · have X := PH.out.lf d hd
              have := X.cells 0 _ rfl
              rw [hdx] at this
              exact ⟨_, _, hvx, .inl rfl, this, X.free 0, X.lt, by have := PH.out.m0; have := PH.out.mp; omega, fun w' h => h.hangL DH.out BH.out hd hdx⟩
            · have X := PH.out.br d hd
              have := X.cells 0 _ rfl
              rw [hdx] at this
              exact ⟨_, _, hvx, .inr rfl, this, X.free 0, X.lt, by have := PH.out.m0; have := PH.out.mp; have := PH.out.pq; omega, fun w' h => h.hangB DH.out BH.out hd hdx⟩
            · exfalso; rw [hkx] at HB; have := of_decide_eq_true HB; omega
          clear HB TC NOF YES hxy hx
          obtain ⟨t, d, rfl, ht, hc, hf, hlt, hN0, hP⟩ := HPB.out
          have HP := Lib.hid hP
          have HLT := Lib.hid hlt
          clear hP hlt
          cases hU : U x with
          | some r =>
            rw [hU] at hc
            have G := Lib.hid (NOO.out (by rw [hU]; simp))
            have QH := Lib.hid (fun a b => quiet_again (hang_no d (q + 2 * k) (q + 2 * r) (wr.drewN (a + b)) (((below_drewN (Below.refl _ _) _).cell (p := ⟨d, 0, none⟩) HLT.out).trans hc)))
            clear hc hf HP KX KY MH
            rcases ht with rfl | rfl
            · have M := hangML d
              go_wp2
              go_quiet (fail)
              go_wp2
              go_quiet (first
                | (go_at_call 110; with_reducible exact QX.out _ _)
                | (go_at_call 110; with_reducible exact QY.out _ _)
                | (go_at_call 129; with_reducible exact QM.out _ _)
                | (go_at_call 178; with_reducible exact QH.out _ _))
              go_wp2
              go_ret
              exact ⟨false, rfl, WH.out.trans (below_drewN (below_drewN (Below.refl _ _) _) _), fun _ => G.out, fun e => by cases e⟩
            · have M := hangMB d
              go_wp2
              go_quiet (fail)
              go_wp2
              go_quiet (first
                | (go_at_call 110; with_reducible exact QX.out _ _)
                | (go_at_call 110; with_reducible exact QY.out _ _)
                | (go_at_call 129; with_reducible exact QM.out _ _)
                | (go_at_call 178; with_reducible exact QH.out _ _))
              go_wp2
              go_ret
              exact ⟨false, rfl, WH.out.trans (below_drewN (below_drewN (Below.refl _ _) _) _), fun _ => G.out, fun e => by cases e⟩
          | none =>
            rw [hU] at hc
            have HY := Lib.hid (fun w' (b : Below wr.heap.size wr w') => hang_yes d (q + 2 * k) w' ((b.cell (p := ⟨d, 0, none⟩) HLT.out).trans hc) ((b.frozen (p := ⟨d, 0, none⟩) HLT.out).trans hf))
            have UX := Lib.hid (UPS.out hU)
            have S2 : ∀ a v, ((wr.drewN a).setCell ⟨d, 0, none⟩ v).cell? ⟨q + 2 * k, 2, none⟩ = some (.int .i64 g) := fun a v => (World.cell?_setCell_other _ _ _ _ (by simp)).trans c2
            have RX := Lib.hid (fun a Q hq => Same.run (KX.out (wr.drewN a) (below_drewN (Below.refl _ _) _)) Q hq)
            have RY := Lib.hid (fun a Q hq => Same.run (KY.out (wr.drewN a) (below_drewN (Below.refl _ _) _)) Q hq)
            have RM := Lib.hid (fun w' Q hq => Same.run (MH.out w') Q hq)
            clear hc hf NOO UPS QX QY QM KX KY MH
            rcases ht with rfl | rfl
            · have M := hangML d
              go_wp2
              go_quiet (fail)
              go_wp2
              go_region_held3 (fun w' => w'.cell? ⟨q + 2 * k, 2, none⟩ = some (.int .i64 g)) (go_keep)
                (first
                  | (go_at_call 110; with_reducible refine RX.out _ _ ?_)
                  | (go_at_call 110; with_reducible refine RY.out _ _ ?_)
                  | (go_at_call 129; with_reducible refine RM.out _ _ ?_)
                  | (go_at_call 178; refine (HY.out _ (below_drewN (Below.refl _ _) _)).mono ?_; rintro e w2 ⟨rfl, rfl⟩))
              clear RX RY RM HY S2 M X1 X0
              have P2 := Lib.hid (HP.out _ (PH.out.later (below_drewN (Below.refl _ _) (nq + 1))))
              have B2 := Lib.hid ((WH.out.trans (below_drewN (Below.refl _ _) (nq + 1))).setCell (p := ⟨d, 0, none⟩) hN0 (.pointer (some ⟨q + 2 * k, 0, none⟩)))
              generalize (wr.drewN (nq + 1)).setCell ⟨d, 0, none⟩ (.pointer (some ⟨q + 2 * k, 0, none⟩)) = w4 at *
              have BX4 := Lib.hid (P2.out.br k hk)
              have e4 := BX4.out.cells 4 _ rfl
              have CU := Lib.hid (P2.out.cur hk)
              have SZ := P2.out.hs
              have QB := P2.out.qb
              have N0B : w0.heap.size ≤ base := by have := P2.out.m0; have := P2.out.mp; have := P2.out.pq; omega
              clear HP HLT hN0 c2 c3 c4 d1 d0 PH WH
              go_wp2_with (at_builtin; refine wpList_append_part rfl (.tmp 57) (.tmp 59) rfl base (S k) m (things T p q ((T.L k).take m)) rfl _ rfl CU.out rfl (by omega) SZ ?_; intro v' w5 ho hg; obtain ⟨va, vl, vc, rfl⟩ := row_shape ho; have X5 := (BX4.out.later (lay _ _)).grown hg (fun c hc e => by have := (CU.out.lt c hc).1; omega); have f4 := X5.cells 4 _ rfl; have g4 := X5.free 4)
              have B5 := Lib.hid (((B2.out.alloc (by omega) _).grown hg (by rw [World.size_alloc]; omega) (fun c hc => by have := (CU.out.lt c hc).1; omega)).setCell (p := ⟨q + 2 * k, 4, none⟩) (by have := P2.out.m0; have := P2.out.mp; have := P2.out.pq; dsimp only; omega) (.slice va vl vc))
              have P5 := Lib.hid (PUSH.out _ _ P2.out _ _ _ hg ho)
              clear X5 hg ho PUSH P2 B2 BX4 CU
              go_roundw
              case rel => exact ⟨m + 1, _, _, by omega, by go_num, GY.out, UX.out, P5.out, B5.out⟩
              case measure => simp [intOf]; omega
            · have M := hangMB d
              go_wp2
              go_quiet (fail)
              go_wp2
              go_region_held3 (fun w' => w'.cell? ⟨q + 2 * k, 2, none⟩ = some (.int .i64 g)) (go_keep)
                (first
                  | (go_at_call 110; with_reducible refine RX.out _ _ ?_)
                  | (go_at_call 110; with_reducible refine RY.out _ _ ?_)
                  | (go_at_call 129; with_reducible refine RM.out _ _ ?_)
                  | (go_at_call 178; refine (HY.out _ (below_drewN (Below.refl _ _) _)).mono ?_; rintro e w2 ⟨rfl, rfl⟩))
              clear RX RY RM HY S2 M X1 X0
              have P2 := Lib.hid (HP.out _ (PH.out.later (below_drewN (Below.refl _ _) (nq + 1))))
              have B2 := Lib.hid ((WH.out.trans (below_drewN (Below.refl _ _) (nq + 1))).setCell (p := ⟨d, 0, none⟩) hN0 (.pointer (some ⟨q + 2 * k, 0, none⟩)))
              generalize (wr.drewN (nq + 1)).setCell ⟨d, 0, none⟩ (.pointer (some ⟨q + 2 * k, 0, none⟩)) = w4 at *
              have BX4 := Lib.hid (P2.out.br k hk)
              have e4 := BX4.out.cells 4 _ rfl
              have CU := Lib.hid (P2.out.cur hk)
              have SZ := P2.out.hs
              have QB := P2.out.qb
              have N0B : w0.heap.size ≤ base := by have := P2.out.m0; have := P2.out.mp; have := P2.out.pq; omega
              clear HP HLT hN0 c2 c3 c4 d1 d0 PH WH
              go_wp2_with (at_builtin; refine wpList_append_part rfl (.tmp 57) (.tmp 59) rfl base (S k) m (things T p q ((T.L k).take m)) rfl _ rfl CU.out rfl (by omega) SZ ?_; intro v' w5 ho hg; obtain ⟨va, vl, vc, rfl⟩ := row_shape ho; have X5 := (BX4.out.later (lay _ _)).grown hg (fun c hc e => by have := (CU.out.lt c hc).1; omega); have f4 := X5.cells 4 _ rfl; have g4 := X5.free 4)
              have B5 := Lib.hid (((B2.out.alloc (by omega) _).grown hg (by rw [World.size_alloc]; omega) (fun c hc => by have := (CU.out.lt c hc).1; omega)).setCell (p := ⟨q + 2 * k, 4, none⟩) (by have := P2.out.m0; have := P2.out.mp; have := P2.out.pq; dsimp only; omega) (.slice va vl vc))
              have P5 := Lib.hid (PUSH.out _ _ P2.out _ _ _ hg ho)
              clear X5 hg ho PUSH P2 B2 BX4 CU
              go_roundw
              case rel => exact ⟨m + 1, _, _, by omega, by go_num, GY.out, UX.out, P5.out, B5.out⟩
              case measure => simp [intOf]; omega
        · have G := Lib.hid (NOF.out (fun h => hxy h.2))
          have hne : (kx != ky) = true := by simpa using hxy
          clear HB TC MH KX KY hxy
          go_wp2
          go_quiet (fail)
          go_wp2
          go_quiet (first
            | (go_at_call 110; with_reducible exact QX.out _ _)
            | (go_at_call 110; with_reducible exact QY.out _ _)
            | (go_at_call 129; with_reducible exact QM.out _ _))
          go_wp2
          go_ret
          exact ⟨false, rfl, WH.out.trans (below_drewN (below_drewN (Below.refl _ _) _) _), fun _ => G.out, fun e => by cases e⟩
    · obtain rfl : m = n := by omega
      rw [HN.out] at HU HP F
      have G := Lib.hid (show T.Fit1 k ∧ ∃ U' S', Up T (k + 1) 0 U' ∧ Prt T I C w0.heap.size mb p q (k + 1) 0 wr.heap.size U' S' wr from ⟨fun i x hx => F i x (getD_of hx).1 hx, U, S, HU.next, HP.next hk⟩)
      have WH := Lib.hid hw
      clear HU HP F hw
      go_wp2
      go_ret
      exact ⟨true, rfl, WH.out, (fun e => by cases e), fun _ => G.out⟩
end Go.Proofs.Ytoikdonecbpjaaa.Tm
