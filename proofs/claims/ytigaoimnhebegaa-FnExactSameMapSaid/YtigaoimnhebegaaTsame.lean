/-
  Two trees compared: in the program and in the model.
-/
import Derived.Test.YtigaoimnhebegaaLawTree
import Derived.Test.YtigaoimnhebegaaSame
import Derived.Laws.StructEq
namespace Go.Proofs.Ytigaoimnhebegaa.Tm
open Go.RowKit Go.Proofs.Ytigaoimnhebegaa.GfI Go.Proofs.Ytigaoimnhebegaa.GfS Go.Proofs.Ytigaoimnhebegaa.MixC
open Go.Proofs.Ytigaoimnhebegaa.It (lay chain)
open Go.Proofs.Ytigaoimnhebegaa.Rc (Recs)
open Go.Proofs.Ytigaoimnhebegaa.Bk (Bks tval bval)
open Go.Proofs.Ytigaoimnhebegaa.Sg (BxN)
set_option linter.unusedVariables false
set_option linter.unusedSimpArgs false

structure DevEq (S T : TD) : Prop where
  n : S.dn = T.dn
  each : ∀ i, i < S.dn → S.df i = T.df i ∧ S.dg i = T.dg i
structure BktEq (S T : TD) : Prop where
  n : S.bn = T.bn
  each : ∀ i, i < S.bn → S.bf i = T.bf i ∧ S.bg i = T.bg i ∧ S.L i = T.L i
theorem ix_congr {f g : Nat → Int} {x : Int} : ∀ {n : Nat}, (∀ i, i < n → f i = g i) → ix f x n = ix g x n
  | 0, _ => rfl
  | n + 1, h => by
    unfold ix
    rw [ix_congr (n := n) (fun i hi => h i (by omega)), h n (by omega)]
theorem kd_congr {S T : TD} (d : DevEq S T) (b : BktEq S T) (x : Int) : S.kd x = T.kd x := by
  unfold TD.kd
  rw [ix_congr (fun i hi => (d.each i hi).1), ix_congr (fun i hi => (b.each i hi).1), d.n, b.n]
  cases ix T.df x T.dn with
  | some i => rfl
  | none =>
    dsimp only
    cases h : ix T.bf x T.bn with
    | some j => have := (ix_some h).1; exact (b.each j (by rw [b.n]; exact this)).2.1
    | none => rfl
theorem DevEq.symm {S T : TD} (d : DevEq S T) : DevEq T S := ⟨d.n.symm, fun i hi => by have := d.each i (by rw [d.n]; exact hi); exact ⟨this.1.symm, this.2.symm⟩⟩
theorem BktEq.symm {S T : TD} (d : BktEq S T) : BktEq T S := ⟨d.n.symm, fun i hi => by have := d.each i (by rw [d.n]; exact hi); exact ⟨this.1.symm, this.2.1.symm, this.2.2.symm⟩⟩
theorem ok_congr {S T : TD} (d : DevEq S T) (b : BktEq S T) (h : S.Ok) : T.Ok := by
  have d' := d.symm
  have b' := b.symm
  refine ⟨⟨by rw [← d.n]; exact h.dev.n, fun i hi => ?_, fun i hi => ?_⟩, ⟨by rw [← b.n]; exact h.bkt.n, fun i hi => ?_, fun i hi => ?_⟩, ⟨fun j hj => ?_, fun j k hjk hk x hx hy => ?_⟩, fun j hj i x hx => ?_⟩
  · rw [(d'.each i hi).1, (d'.each i hi).2]; exact h.dev.each i (by rw [d.n]; exact hi)
  · rw [(d'.each i (by omega)).1, (d'.each (i + 1) hi).1]; exact h.dev.rise i (by rw [d.n]; exact hi)
  · rw [(b'.each i hi).1, (b'.each i hi).2.1, (b'.each i hi).2.2]; exact h.bkt.each i (by rw [b.n]; exact hi)
  · rw [(b'.each i (by omega)).1, (b'.each (i + 1) hi).1]; exact h.bkt.fall i (by rw [b.n]; exact hi)
  · rw [(b'.each j hj).2.2]; exact h.once.one j (by rw [b.n]; exact hj)
  · rw [(b'.each j (by omega)).2.2] at hx
    rw [(b'.each k hk).2.2] at hy
    exact h.once.two j k hjk (by rw [b.n]; exact hk) x hx hy
  · have e := b'.each j hj
    rw [e.2.2] at hx ⊢
    rw [e.2.1, ← kd_congr d b, ← kd_congr d b]
    exact h.fit j (by rw [b.n]; exact hj) i x hx

set_option maxRecDepth 100000 in
set_option maxHeartbeats 1000000 in
theorem equalDev (S T : TD) (a b : Option Addr) (c1 c2 : Nat) (w : World) (hS : S.dn ≤ 2097152) (hT : T.dn ≤ 2097152) (ha : Recs w a S.dn S.df S.dg) (hb : Recs w b T.dn T.df T.dg) :
    Calls Try.prog 140 #[.slice a S.dn c1, .slice b T.dn c2] w (IffB (DevEq S T) w) := by
  obtain ⟨n, hn⟩ : ∃ n, n = S.dn := ⟨_, rfl⟩
  obtain ⟨m, hm⟩ : ∃ m, m = T.dn := ⟨_, rfl⟩
  rw [← hn] at hS ha ⊢
  rw [← hm] at hT hb ⊢
  have HN := Lib.hid hn
  have HM := Lib.hid hm
  clear hn hm
  by_cases hl : n = m
  · subst hl
    go_enter Try.func140, Try.ntmps140
    go_wp2
    go_loopw [13] (fun i wr => ∃ k : Nat, k ≤ n ∧ i = .int .i64 k ∧ (∀ j, j < k → S.df j = T.df j ∧ S.dg j = T.dg j) ∧ Below w.heap.size w wr) (fun i _ => n - (intOf i).toNat)
    case atStart => exact ⟨0, by omega, rfl, fun j hj => by omega, Below.refl _ _⟩
    case round =>
      obtain ⟨k, hk, rfl, P, hw⟩ := hrel
      have PH := Lib.hid P
      have WH := Lib.hid hw
      clear P
      by_cases hlt : k < n
      · obtain ⟨b1, o1, rfl, hB1, hc1⟩ := (ha.below hw).resolve_left (by omega)
        obtain ⟨b2, o2, rfl, hB2, hc2⟩ := (hb.below hw).resolve_left (by omega)
        obtain ⟨x0, x1⟩ := hc1 k hlt
        obtain ⟨y0, y1⟩ := hc2 k hlt
        have hkS : k < S.dn := by rw [← HN.out]; exact hlt
        have NO := Lib.hid (show ¬ (S.df k = T.df k ∧ S.dg k = T.dg k) → ¬ DevEq S T from fun h d => h (d.each k hkS))
        have YES := Lib.hid (show S.df k = T.df k ∧ S.dg k = T.dg k → ∀ j, j < k + 1 → S.df j = T.df j ∧ S.dg j = T.dg j from fun h j hj => if e : j = k then by rw [e]; exact h else PH.out j (by omega))
        clear hc1 hc2 hw
        generalize S.df k = u1 at *
        generalize S.dg k = u2 at *
        generalize T.df k = v1 at *
        generalize T.dg k = v2 at *
        by_cases h1 : u1 = v1
        · by_cases h2 : u2 = v2
          · have G := Lib.hid (YES.out ⟨h1, h2⟩)
            subst h1 h2
            go_wp2
            go_quiet (fail)
            go_wp2
            go_roundw
            case rel => exact ⟨k + 1, by omega, by go_num, G.out, WH.out.trans (below_drewN (Below.refl _ _) _)⟩
            case measure => simp [intOf]; omega
          · have G := Lib.hid (NO.out (fun h => h2 h.2))
            have b2' : (u2 == v2) = false := by simpa using h2
            subst h1
            clear h2
            go_wp2
            go_quiet (fail)
            go_wp2
            go_ret
            exact IffB.no G.out (WH.out.trans (below_drewN (Below.refl _ _) _))
        · have G := Lib.hid (NO.out (fun h => h1 h.1))
          have b1' : (u1 == v1) = false := by simpa using h1
          clear h1
          go_wp2
          go_quiet (fail)
          go_wp2
          go_ret
          exact IffB.no G.out (WH.out.trans (below_drewN (Below.refl _ _) _))
      · obtain rfl : k = n := by omega
        have G := Lib.hid (show DevEq S T from ⟨by rw [← HN.out, ← HM.out], fun i hi => PH.out i (by rw [HN.out]; exact hi)⟩)
        clear hw
        go_wp2
        go_ret
        exact IffB.yes G.out WH.out
  · have G := Lib.hid (show ¬ DevEq S T from fun d => hl (by rw [HN.out, HM.out]; exact d.n))
    go_enter Try.func140, Try.ntmps140
    go_wp2
    go_ret
    exact IffB.no G.out (Below.refl _ _)
def BkSame (x1 y1 x2 y2 : Int) (xs ys : List Int) : Prop := x1 = x2 ∧ y1 = y2 ∧ xs = ys
set_option maxRecDepth 100000 in
set_option maxHeartbeats 1000000 in
theorem sameBucket (x1 y1 x2 y2 : Int) (a b : Option Addr) (c1 c2 : Nat) (xs ys : List Int) (w : World) (h1 : xs.length ≤ 2097152) (h2 : ys.length ≤ 2097152) (ha : Words w a xs) (hb : Words w b ys) :
    Calls Try.prog 142 #[bval x1 y1 (.slice a xs.length c1), bval x2 y2 (.slice b ys.length c2)] w (IffB (BkSame x1 y1 x2 y2 xs ys) w) := by
  have LH := Lib.hid (chain (lay w (.cells #[.int .i64 x1, .int .i64 y1, .slice a xs.length c1] 165)) (lay _ (.cells #[.int .i64 x2, .int .i64 y2, .slice b ys.length c2] 165)))
  have Q := Lib.hid (Sa.slicesEqual a b c1 c2 xs ys _ h1 h2 (ha.below LH.out) (hb.below LH.out))
  clear ha hb
  by_cases e1 : x1 = x2
  · subst e1
    by_cases e2 : y1 = y2
    · subst e2
      have G : Hid ((Sa.same xs ys = true) ↔ BkSame x1 y1 x1 y1 xs ys) := by show _ ↔ _; unfold Sa.same BkSame; simp
      generalize Sa.same xs ys = s at *
      generalize xs.length = l1 at *
      generalize ys.length = l2 at *
      go_enter Try.func142, Try.ntmps142
      go_wp2_with fail
      refine Q.out.mono ?_
      rintro e w1 ⟨rfl, n, rfl⟩
      go_wp2
      go_ret
      exact ⟨s, rfl, G.out, LH.out.trans (below_drewN (Below.refl _ _) _)⟩
    · have G := Lib.hid (show ¬ BkSame x1 y1 x1 y2 xs ys from fun h => e2 h.2.1)
      have e2' : (y1 == y2) = false := by simpa using e2
      clear e2 Q
      go_enter Try.func142, Try.ntmps142
      go_wp2
      go_ret
      exact IffB.no G.out LH.out
  · have G := Lib.hid (show ¬ BkSame x1 y1 x2 y2 xs ys from fun h => e1 h.1)
    have e1' : (x1 == x2) = false := by simpa using e1
    clear e1 Q
    go_enter Try.func142, Try.ntmps142
    go_wp2
    go_ret
    exact IffB.no G.out LH.out

set_option maxRecDepth 100000 in
set_option maxHeartbeats 1000000 in
theorem equalBkt (S T : TD) (a b : Option Addr) (c1 c2 : Nat) (I J : Nat → Option Addr) (C D : Nat → Nat) (w : World) (hS : S.bn ≤ 2097152) (hT : T.bn ≤ 2097152) (lS : ∀ i, i < S.bn → (S.L i).length ≤ 2097152) (lT : ∀ i, i < T.bn → (T.L i).length ≤ 2097152)
    (ha : Bks w a S.bn S.bf S.bg I S.L C) (hb : Bks w b T.bn T.bf T.bg J T.L D) :
    Calls Try.prog 141 #[.slice a S.bn c1, .slice b T.bn c2, .func (.func 142) #[] #[]] w (IffB (BktEq S T) w) := by
  obtain ⟨n, hn⟩ : ∃ n, n = S.bn := ⟨_, rfl⟩
  obtain ⟨m, hm⟩ : ∃ m, m = T.bn := ⟨_, rfl⟩
  rw [← hn] at hS ha lS ⊢
  rw [← hm] at hT hb lT ⊢
  have HN := Lib.hid hn
  have HM := Lib.hid hm
  clear hn hm
  by_cases hl : n = m
  · subst hl
    go_enter Try.func141, Try.ntmps141
    go_wp2
    go_loopw [17] (fun i wr => ∃ k : Nat, k ≤ n ∧ i = .int .i64 k ∧ (∀ j, j < k → S.bf j = T.bf j ∧ S.bg j = T.bg j ∧ S.L j = T.L j) ∧ Below w.heap.size w wr) (fun i _ => n - (intOf i).toNat)
    case atStart => exact ⟨0, by omega, rfl, fun j hj => by omega, Below.refl _ _⟩
    case round =>
      obtain ⟨k, hk, rfl, P, hw⟩ := hrel
      have PH := Lib.hid P
      have WH := Lib.hid hw
      clear P
      by_cases hlt : k < n
      · obtain ⟨b1, o1, rfl, hB1, hc1⟩ := (ha.below hw).resolve_left (by omega)
        obtain ⟨b2, o2, rfl, hB2, hc2⟩ := (hb.below hw).resolve_left (by omega)
        obtain ⟨x0, x1, x2, wx⟩ := hc1 k hlt
        obtain ⟨y0, y1, y2, wy⟩ := hc2 k hlt
        have hkS : k < S.bn := by rw [← HN.out]; exact hlt
        have NO := Lib.hid (show ¬ BkSame (S.bf k) (S.bg k) (T.bf k) (T.bg k) (S.L k) (T.L k) → ¬ BktEq S T from fun h d => h (d.each k hkS))
        have YES := Lib.hid (show BkSame (S.bf k) (S.bg k) (T.bf k) (T.bg k) (S.L k) (T.L k) → ∀ j, j < k + 1 → S.bf j = T.bf j ∧ S.bg j = T.bg j ∧ S.L j = T.L j from fun h j hj => if e : j = k then by rw [e]; exact h else PH.out j (by omega))
        have LB := Lib.hid (chain (lay wr (.cells #[.int .i64 (S.bf k), .int .i64 (S.bg k), .slice (I k) (S.L k).length (C k)] 165)) (lay _ (.cells #[.int .i64 (T.bf k), .int .i64 (T.bg k), .slice (J k) (T.L k).length (D k)] 165)))
        have SB := Lib.hid (sameBucket (S.bf k) (S.bg k) (T.bf k) (T.bg k) (I k) (J k) (C k) (D k) (S.L k) (T.L k) _ (lS k hlt) (lT k hlt) (wx.below LB.out) (wy.below LB.out))
        clear hc1 hc2 hw wx wy
        generalize BkSame (S.bf k) (S.bg k) (T.bf k) (T.bg k) (S.L k) (T.L k) = BS at *
        generalize S.bf k = u1 at *
        generalize S.bg k = u2 at *
        generalize T.bf k = v1 at *
        generalize T.bg k = v2 at *
        generalize (S.L k).length = l1 at *
        generalize (T.L k).length = l2 at *
        generalize I k = ik at *
        generalize J k = jk at *
        generalize C k = ck at *
        generalize D k = dk at *
        go_wp2_with fail
        refine SB.out.mono ?_
        rintro e w3 ⟨bb, rfl, H, b3⟩
        have B3 := Lib.hid (chain (WH.out.trans (LB.out.mono WH.out.size)) b3)
        clear b3
        cases bb
        · have G := Lib.hid (NO.out (fun h => by have := H.2 h; cases this))
          clear H
          go_wp2
          go_ret
          exact IffB.no G.out B3.out
        · have G := Lib.hid (YES.out (H.1 rfl))
          clear H
          go_wp2
          go_roundw
          case rel => exact ⟨k + 1, by omega, by go_num, G.out, B3.out⟩
          case measure => simp [intOf]; omega
      · obtain rfl : k = n := by omega
        have G := Lib.hid (show BktEq S T from ⟨by rw [← HN.out, ← HM.out], fun i hi => PH.out i (by rw [HN.out]; exact hi)⟩)
        clear hw
        go_wp2
        go_ret
        exact IffB.yes G.out WH.out
  · have G := Lib.hid (show ¬ BktEq S T from fun d => hl (by rw [HN.out, HM.out]; exact d.n))
    go_enter Try.func141, Try.ntmps141
    go_wp2
    go_ret
    exact IffB.no G.out (Below.refl _ _)
end Go.Proofs.Ytigaoimnhebegaa.Tm
