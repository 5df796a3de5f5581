/-
  The law FnTickets: more weight for one item moves choices only to it.
-/
import Derived.Test.YtfdekhhlkieekaaTickets
import Derived.Deep.RegionWith
namespace Go.Proofs.Ytfdekhhlkieekaa.Ch
open Go.RowKit Go.Proofs.Ytfdekhhlkieekaa.It Go.Proofs.Ytfdekhhlkieekaa.Rc Go.Proofs.Ytfdekhhlkieekaa.Sr Go.Proofs.Ytfdekhhlkieekaa.At Go.Proofs.Ytfdekhhlkieekaa.Tk
set_option linter.unusedVariables false

theorem Recs.congr {w : World} {a : Option Addr} {n : Nat} {f g f' g' : Nat → Int} (h : Recs w a n f g) (e : ∀ i, i < n → f' i = f i ∧ g' i = g i) : Recs w a n f' g' := by
  rcases h with h | ⟨b, off, ha, hB, hc⟩
  · exact .inl h
  · exact .inr ⟨b, off, ha, hB, fun i hi => by rw [(e i hi).1, (e i hi).2]; exact hc i hi⟩
theorem cells_of_recs {w : World} {b o : Nat} : ∀ {l : List (Int × Int)}, Recs w (some ⟨b, o, none⟩) l.length (fstN l) (sndN l) → ∀ j u, (cellsT l)[j]? = some u → w.cell? ((⟨b, o, none⟩ : Addr).add j) = some u := by
  intro l h j u hu
  have hj : j < l.length * 2 := by
    rcases Nat.lt_or_ge j (l.length * 2) with q | q
    · exact q
    · rw [List.getElem?_eq_none (by rw [cellsT_len]; exact q)] at hu; cases hu
  rcases h with h | ⟨b', o', he, hB, hc⟩
  · omega
  · simp only [Option.some.injEq, Addr.mk.injEq, and_true] at he
    obtain ⟨rfl, rfl⟩ := he
    have hi : j / 2 < l.length := by omega
    have c := hc (j / 2) hi
    have e := cellsT_at l (j / 2) hi
    rw [Addr.add_lit]
    by_cases p : j % 2 = 0
    · have h2 : j / 2 * 2 = j := by omega
      rw [h2] at c e
      rw [c.1, ← hu, e.1]
    · have h2 : j / 2 * 2 + 1 = j := by omega
      have h3 : o + j / 2 * 2 + 1 = o + j := by omega
      rw [h3] at c
      rw [h2] at e
      rw [c.2, ← hu, e.2]
theorem cellsT_set : ∀ (l : List (Int × Int)) (k : Nat) (y : Int), k < l.length → (cellsT l).set (k * 2 + 1) (.int .i64 y) = cellsT (l.set k ((l.getD k (0, 0)).1, y))
  | [], k, y, h => by simp at h
  | p :: l, 0, y, _ => by simp [cellsT]
  | p :: l, k + 1, y, h => by
    have ih := cellsT_set l k y (by simpa using h)
    have e : ∀ (q : Int × Int) (m : List (Int × Int)), cellsT (q :: m) = .int .i64 q.1 :: .int .i64 q.2 :: cellsT m := fun _ _ => rfl
    rw [e, show (k + 1) * 2 + 1 = k * 2 + 1 + 1 + 1 from by omega, List.set_cons_succ, List.set_cons_succ, ih, List.set_cons_succ, e]
    simp
theorem set_fst {l : List (Int × Int)} {k : Nat} {y : Int} {i : Nat} (hi : i < l.length) : fstN (l.set k ((l.getD k (0, 0)).1, y)) i = fstN l i ∧ sndN (l.set k ((l.getD k (0, 0)).1, y)) i = up (sndN l) k y i := by
  unfold fstN sndN up
  rw [List.getD_eq_getElem?_getD, List.getElem?_set]
  by_cases e : k = i
  · subst e; rw [if_pos rfl, if_pos (by omega), if_pos rfl]; exact ⟨rfl, rfl⟩
  · rw [if_neg e, if_neg (fun q => e q.symm)]; simp [List.getD_eq_getElem?_getD]
theorem okL_up {n : Nat} {f g : Nat → Int} {k : Nat} {y : Int} (h : okL n f g = true) (y0 : 0 ≤ y) (y1 : y ≤ 128) : okL n f (up g k y) = true := by
  obtain ⟨h1, h2, h3⟩ := of_decide_eq_true h
  refine decide_eq_true ⟨h1, fun i hi => ?_, h3⟩
  have := okI_out (h2 i hi)
  unfold up
  split
  · exact okI_yes (by omega)
  · exact okI_yes (by omega)
theorem tsN_ne {f g : Nat → Int} {seed t : Int} {k : Nat} (hg : 0 < g k) : ∀ n, k < n → (tsN f g seed t n).length ≠ 0
  | 0, h => by omega
  | n + 1, h => by
    unfold tsN
    by_cases e : k = n
    · subst e; rw [if_pos hg]; simp
    · have := tsN_ne (f := f) (seed := seed) (t := t) hg n (by omega)
      split
      · simp
      · exact this
theorem wf_small5 {x : Int} (h0 : 1 ≤ x) (h1 : x ≤ 5) : (Lit.int .i64 x).wf = true := by
  have h : x = 1 ∨ x = 2 ∨ x = 3 ∨ x = 4 ∨ x = 5 := by omega
  rcases h with rfl | rfl | rfl | rfl | rfl <;> rfl
theorem ready {n : Nat} {f g : Nat → Int} {seed t : Int} (h : okL n f g = true) : coA n f g seed t = chA n f g seed t ∧ coB n f g seed t = chB n f g seed t := by
  unfold coA coB; rw [if_pos h, if_pos h]; exact ⟨rfl, rfl⟩

set_option maxRecDepth 100000 in
set_option maxHeartbeats 4000000 in
theorem fnTickets (a : Option Addr) (len cap : Nat) (z : List Int) (w : World) (w0 : IsRow .u8 w a len cap z) :
    Calls Try.prog 3 #[.slice a len cap] w fun e w' => e = .returned (.bool true) ∧ Below w.heap.size w w' := by
  have hf := w0.byts
  generalize (fun i => z.getD i 0) = fb at hf
  obtain ⟨i0, hi, hz0, hz1, hz2⟩ := info_parts info39
  clear w0
  by_cases hl : len ≤ 1048576
  · have HF := Lib.hid (fun w' (b : Below w.heap.size w w') => hf.below b)
    clear hf
    go_enter Try.func3, Try.ntmps3
    go_wp2_with fail
    refine (A8Items a len cap fb (by omega) _ (HF.out _ (Below.refl _ _))).mono ?_
    rintro e w1 ⟨al, cl, l, rfl, R, FL, b1⟩
    have B1 := Lib.hid b1
    have RH := Lib.hid R
    clear R b1
    go_wp2_with fail
    refine (A8Number a len cap fb (by omega) _ (HF.out _ B1.out)).mono ?_
    rintro e w2 ⟨⟨seed, s0, s1, rfl⟩, b2⟩
    have B12 := Lib.hid b2
    have B2 := Lib.hid (It.chain B1.out b2)
    clear b2
    go_wp2_with fail
    refine (a8At a len cap fb 0 9 _ (HF.out _ B2.out) (by omega) (by omega) (by omega) (by omega)).mono ?_
    rintro e w3 ⟨⟨t, t0, t1, rfl⟩, q3, rfl⟩
    have B13 := Lib.hid (below_drewN B12.out q3)
    have OK := Lib.hid FL.ok
    have WT := Lib.hid FL.weights
    have LL := FL.len
    obtain ⟨n, hn⟩ : ∃ n, n = l.length := ⟨_, rfl⟩
    have RN := RH.out
    rw [← hn] at RN LL ⊢
    have HN := Lib.hid hn
    clear hn FL
    by_cases h0 : n = 0
    · subst h0
      have C0 := implChooseOne al cl 0 (fstN l) (sndN l) seed t (w2.drewN q3) (by omega) (.inl rfl) (fun i hi => absurd hi (Nat.not_lt_zero _))
      have e3 : coB 0 (fstN l) (sndN l) seed t = 3 := by unfold coB; rw [if_pos (show okL 0 (fstN l) (sndN l) = true from decide_eq_true ⟨by omega, Pre.zero _ _⟩)]; rfl
      rw [e3] at C0
      have C0 := Lib.hid C0
      clear RN LL
      go_wp2_with fail
      refine C0.out.mono ?_
      rintro e w4 ⟨rfl, b4⟩
      have BE := Lib.hid (It.chain B1.out (It.chain B13.out b4))
      clear b4
      go_wp2
      go_ret
      exact ⟨rfl, BE.out⟩
    · obtain ⟨b1, o1, rfl, hb1, hc1⟩ := RN.resolve_left h0
      have hpos : 0 < n := Nat.pos_of_ne_zero h0
      clear h0 RN
      have B3 := Lib.hid (It.chain B1.out B13.out)
      have R3 := Lib.hid (Recs.below (show Recs w1 (some ⟨b1, o1, none⟩) n (fstN l) (sndN l) from .inr ⟨b1, o1, rfl, hb1, hc1⟩) B13.out)
      clear hb1 hc1
      generalize w2.drewN q3 = w3 at *
      clear B12 B13 B2 B1 RH
      go_wp2_with fail
      refine (a8At a len cap fb 1 n _ (HF.out _ B3.out) (by omega) (by omega) (by omega) (by omega)).mono ?_
      rintro e w4 ⟨⟨kk, k0, k1, rfl⟩, q4, rfl⟩
      obtain ⟨k, rfl⟩ := Int.eq_ofNat_of_zero_le k0
      have B4 := Lib.hid (below_drewN B3.out q4)
      have R4 := Lib.hid (Recs.below R3.out (below_drewN (Below.refl w3.heap.size w3) q4))
      generalize w3.drewN q4 = w4 at *
      clear B3 R3
      have E1 : (w4.alloc (.cells #[] 30)).ownsRow w4.heap.size 30 2 (.slice (some ⟨w4.heap.size, 0, none⟩) 0 0) 0 [] := World.ownsRow_made _ _ _ (Nat.le_refl _) (by unfold maxLen; omega) (by simp)
      have hnl := HN.out
      have N1 := cells_of_recs (show Recs (w4.alloc (.cells #[] 30)) (some ⟨b1, o1, none⟩) l.length (fstN l) (sndN l) from by rw [← hnl]; exact Recs.below R4.out (lay w4 _))
      have hcl : (cellsT l).length = l.length * 2 := cellsT_len l
      rw [← hnl] at hcl
      clear hnl
      have hone : ∀ u ∈ cellsT l, u.oneCell' = true := by intro u hu; obtain ⟨p, _, hp⟩ := List.mem_flatMap.1 hu; simp at hp; rcases hp with rfl | rfl <;> rfl
      go_wp2_with (at_builtin; refine wpList_append_own _ rfl (.tmp 41) (.tmp 42) 23 rfl w4.heap.size 30 i0 (.agg #[.int .i64 0, .int .i64 0]) 2 16 Try.underlying23 hi hz0 hz1 hz2 rfl (by decide) (.slice (some ⟨w4.heap.size, 0, none⟩) 0 0) 0 [] rfl E1 ⟨b1, o1, none⟩ n cl (cellsT l) rfl hcl N1 hone (by unfold maxLen; omega) (by omega) (by simp) ?_; intro v2 w5 ho2 hgr2 _)
      have B6 : Below w4.heap.size w4 w5 := (lay w4 _).grown hgr2 (by simp) (fun k hk => (E1.lt k hk).1)
      have ho3 : w5.ownsRow w4.heap.size 30 2 v2 n (cellsT l) := by simpa using ho2
      obtain ⟨g2, c2, hv2, hg21, hg22⟩ := ho3.form hpos
      subst hv2
      have hkl : k < n := by omega
      have hnl := HN.out
      have hcx := (cellsT_at l k (by omega)).2
      have cc : ∀ q, (w5.drewN q).cell? ⟨g2, k * 2 + 1, none⟩ = some (.int .i64 (sndN l k)) := fun q => by
        rw [(own_later ho3 (below_drewN (Below.refl _ _) q)).cellAt (k * 2 + 1) (by omega), hcx]
      have cf : ∀ q, (w5.drewN q).frozen? ⟨g2, k * 2 + 1, none⟩ = false := fun q => (own_later ho3 (below_drewN (Below.refl _ _) q)).frozenAt _
      have cc0 : w5.cell? ⟨g2, k * 2 + 1, none⟩ = some (.int .i64 (sndN l k)) := cc 0
      have cf0 : w5.frozen? ⟨g2, k * 2 + 1, none⟩ = false := cf 0
      have hf4 := HF.out _ (It.chain B4.out B6)
      have HD := Lib.hid (fun q => hf4.below (below_drewN (Below.refl w5.heap.size w5) q))
      have HO3 := Lib.hid ho3
      have HB6 := Lib.hid B6
      obtain ⟨x0, x1, -, -⟩ := WT.out k (by omega)
      obtain ⟨x, hx⟩ : ∃ x, x = sndN l k := ⟨_, rfl⟩
      rw [← hx] at cc cc0 x0 x1
      have HX := Lib.hid hx
      clear ho3 ho2 hgr2 B6 hf4 hx hcx hnl N1 E1 hone hcl
      go_region_with (go_at_call 14; refine (a8At a len cap fb 2 5 _ (by first | exact HD.out 1 | exact HD.out 0 | exact HD.out 2) (by omega) (by omega) (by omega) (by omega)).mono ?_; rintro e w4 ⟨⟨d, d0, d1, rfl⟩, q6, rfl⟩)
      all_goals (
        have hy : IntKind.i64.wrap (x + IntKind.i64.wrap (1 + d)) = x + 1 + d := by (simp only [IntKind.wrap_i64]; (try unfold wrap64); omega)
        rw [hy]
        clear hy
        obtain ⟨y, hy⟩ : ∃ y, y = x + 1 + d := ⟨_, rfl⟩
        rw [← hy]
        have y0 : x < y := by omega
        have y1 : y ≤ 13 := by omega
        clear hy
        have B7 := (below_drewN HB6.out (1 + q6)).setCell hg21 (p := ⟨g2, k * 2 + 1, none⟩) (.int .i64 y)
        have O7 := ((own_later HO3.out (below_drewN (Below.refl _ _) (1 + q6))).stored (k * 2 + 1) (.int .i64 y)).1
        generalize (w5.drewN (1 + q6)).setCell ⟨g2, k * 2 + 1, none⟩ (.int .i64 y) = w6 at *
        have hnl := HN.out
        rw [cellsT_set l k y (by omega)] at O7
        have R7 : Recs w6 (some ⟨g2, 0, none⟩) n (fstN l) (up (sndN l) k y) := by
          have e := recs_own (l := l.set k ((l.getD k (0, 0)).1, y)) (w := w6) (base := w4.heap.size) (e := 30) (a := some ⟨g2, 0, none⟩) (c := c2) (by rw [List.length_set, ← hnl]; exact O7)
          rw [List.length_set, ← hnl] at e
          exact Recs.congr e fun i hi => by have := set_fst (l := l) (k := k) (y := y) (i := i) (by omega); exact ⟨this.1.symm, this.2.symm⟩
        have OK1 := OK.out
        rw [← hnl] at OK1
        have OK2 := okL_up (k := k) OK1 (show 0 ≤ y by omega) (show y ≤ 128 by omega)
        have WT1 := WT.out
        rw [← hnl] at WT1
        have HWF : ∀ i, i < n → (Lit.int .i64 (fstN l i)).wf = true := fun i hi => wf_small5 (WT1 i hi).2.2.1 (WT1 i hi).2.2.2
        have T2 := tsN_ne (f := fstN l) (g := up (sndN l) k y) (seed := seed) (t := t) (k := k) (by unfold up; rw [if_pos rfl]; omega) n hkl
        have AH := ahead_all (f := fstN l) (g := sndN l) (seed := seed) (t := t) (y := y) hkl (by rw [← HX.out]; exact x0) (by rw [← HX.out]; exact y0)
        have G1 := sel_ge _ (tsN_pos (fstN l) (sndN l) seed t n)
        have G2 := sel_ge _ (tsN_pos (fstN l) (up (sndN l) k y) seed t n)
        have SP := sumN_pos (f := fstN l) (g := sndN l) (seed := seed) (t := t) n (fun i hi => ⟨(WT1 i hi).1, by have := (WT1 i hi).2.1; omega⟩)
        have SB : ∀ j, j ≤ n → 0 ≤ sumN (sndN l) j ∧ sumN (sndN l) j ≤ 128 * j := fun j hj => sumN_bounds j (fun i hi => ⟨(WT1 i (by omega)).1, by have := (WT1 i (by omega)).2.1; omega⟩)
        have C1 := implChooseOne (some ⟨b1, o1, none⟩) cl n (fstN l) (sndN l) seed t w6 (by omega) (Recs.below R4.out B7) HWF
        have C2 : ∀ w', Below w6.heap.size w6 w' → _ := fun w' b => implChooseOne (some ⟨g2, 0, none⟩) c2 n (fstN l) (up (sndN l) k y) seed t w' (by omega) (Recs.below R7 b) HWF
        have e1 := ready (seed := seed) (t := t) OK1
        have e2 := ready (seed := seed) (t := t) OK2
        simp only [e2.1, e2.2, chA, chB, if_neg T2] at C2
        simp only [e1.1, e1.2, chA] at C1
        have CE : ∀ w', Below w6.heap.size w6 w' → ∀ i, i < n → w'.cell? ⟨b1, o1 + i * 2, none⟩ = some (.int .i64 (fstN l i)) ∧ w'.cell? ⟨b1, o1 + i * 2 + 1, none⟩ = some (.int .i64 (sndN l i)) := fun w' b => by
          rcases Recs.below (Recs.below R4.out B7) b with h | ⟨b', o', e, _, c⟩
          · omega
          · simp only [Option.some.injEq, Addr.mk.injEq, and_true] at e
            obtain ⟨rfl, rfl⟩ := e
            exact c
        have BW := Lib.hid (It.chain B4.out B7)
        have C2 := Lib.hid C2
        have CE := Lib.hid CE
        have SB := Lib.hid SB
        have SP := Lib.hid SP
        have AH := Lib.hid AH
        have G1 := Lib.hid G1
        have G2 := Lib.hid G2
        have T2 := Lib.hid T2
        clear hnl OK1 OK2 WT1 HWF e1 e2 R7 O7 B7 cc cf cc0 cf0 hg21 hg22
        go_wp2_with fail
        refine C1.mono ?_
        rintro e' w7 ⟨rfl, b7⟩
        have B7 := Lib.hid b7
        clear b7 C1
        go_wp2_with fail
        refine (C2.out _ B7.out).mono ?_
        rintro e' w8 ⟨rfl, b8⟩
        have B8 := Lib.hid (It.chain B7.out b8)
        clear b8 B7 C2
        have SE : chB n (fstN l) (sndN l) seed t = (if (tsN (fstN l) (sndN l) seed t n).length = 0 then 3 else 0) := rfl
        rw [SE]
        clear SE
        have E8 := Lib.hid (CE.out _ B8.out)
        have BE := Lib.hid (It.chain BW.out B8.out)
        clear CE B8 BW B4 HB6 R4 HO3 HD HX OK
        have SPO := SP.out
        have SBn := (SB.out n (Nat.le_refl n)).1
        have AHo := AH.out
        have G1o := G1.out
        have G2o := G2.out
        have T2o := T2.out
        obtain ⟨m, hm⟩ : ∃ m, m = sumN (sndN l) n := ⟨_, rfl⟩
        rw [← hm] at SPO SBn
        have HM := Lib.hid hm
        have K1 : ∃ ca, (if (tsN (fstN l) (sndN l) seed t n).length = 0 then 3 else 0) = ca ∧ (ca = (3 : Int) ∧ m = 0 ∧ (sel (tsN (fstN l) (up (sndN l) k y) seed t n)).1 = fstN l k ∨ ca = 0 ∧ 0 < m ∧ ((sel (tsN (fstN l) (up (sndN l) k y) seed t n)).1 = fstN l k ∨ (sel (tsN (fstN l) (up (sndN l) k y) seed t n)).1 = (sel (tsN (fstN l) (sndN l) seed t n)).1)) := by
          refine ⟨_, rfl, ?_⟩
          by_cases q : (tsN (fstN l) (sndN l) seed t n).length = 0
          · rw [if_pos q]
            refine .inl ⟨rfl, by omega, ?_⟩
            rcases AHo with e | ⟨e, -⟩
            · have e0 : tsN (fstN l) (sndN l) seed t n = [] := List.length_eq_zero_iff.1 q
              rcases G2o with ⟨z, _⟩ | ⟨_, z⟩
              · rw [z] at T2o; simp at T2o
              · rw [e, e0] at z; simp [sel] at z
            · exact e
          · rw [if_neg q]
            refine .inr ⟨rfl, by omega, ?_⟩
            rcases AHo with e | ⟨e, -⟩
            · exact .inr (by rw [e])
            · exact .inl e
        obtain ⟨ca, hca, K1⟩ := K1
        rw [hca]
        generalize (sel (tsN (fstN l) (up (sndN l) k y) seed t n)).1 = now at *
        generalize (sel (tsN (fstN l) (sndN l) seed t n)).1 = old at *
        have K1 := Lib.hid K1
        clear hca hm SPO SBn AHo G1o G2o T2o AH G1 G2 T2 SP
        go_wp2
        go_loopw [14, 15] (fun v i wr => ∃ j : Nat, v = .int .i64 (sumN (sndN l) j) ∧ i = .int .i64 j ∧ j ≤ n ∧ wr = w8) (fun _ i _ => n - (intOf i).toNat)
        case atStart => exact ⟨0, rfl, rfl, by omega, rfl⟩
        case round =>
          obtain ⟨j, rfl, rfl, hj, rfl⟩ := hrel
          by_cases hlt : j < n
          · have c0 := (E8.out j hlt).2
            have hs := SB.out j hj
            have hs1 := SB.out (j + 1) hlt
            have e1 : IntKind.i64.wrap (sumN (sndN l) j + sndN l j) = sumN (sndN l) (j + 1) := by
              rw [show sumN (sndN l) (j + 1) = sumN (sndN l) j + sndN l j from rfl] at hs1 ⊢
              simp only [IntKind.wrap_i64]; (try unfold wrap64); omega
            clear hs hs1
            go_wp2
            go_roundw
            case rel => exact ⟨j + 1, by first | rfl | rw [e1], by go_num, hlt, by first | trivial | rfl⟩
            case measure => simp [intOf]; omega
          · obtain rfl : j = n := by omega
            have c1 := (E8.out k hkl).1
            rw [← HM.out]
            clear SB HM E8
            rcases K1.out with ⟨rfl, rfl, rfl⟩ | ⟨rfl, m0, hh⟩
            · go_wp2
              go_ret
              exact ⟨rfl, BE.out⟩
            · have m1 : ¬ m ≤ 0 := by omega
              by_cases q : now = old
              · subst q
                clear hh
                go_wp2
                go_ret
                exact ⟨rfl, BE.out⟩
              · obtain rfl := hh.resolve_right q
                have q1 : (fstN l k == old) = false := beq_eq_false_iff_ne.2 q
                have q2 : decide (fstN l k = old) = false := decide_eq_false q
                go_wp2
                go_ret
                exact ⟨rfl, BE.out⟩)
  · go_enter Try.func3, Try.ntmps3
    go_wp2
    go_ret
    exact ⟨rfl, Below.refl _ _⟩
end Go.Proofs.Ytfdekhhlkieekaa.Ch
