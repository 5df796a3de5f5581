/-
  The law FnShares: the item that is chosen has the highest of all tickets.
-/
import Derived.Test.YtmndkmkknkodhaaDrawItems
import Derived.Test.YtmndkmkknkodhaaDraws
namespace Go.Proofs.Ytmndkmkknkodhaa.Ch
open Go.RowKit Go.Proofs.Ytmndkmkknkodhaa.It Go.Proofs.Ytmndkmkknkodhaa.Rc Go.Proofs.Ytmndkmkknkodhaa.Sr Go.Proofs.Ytmndkmkknkodhaa.At Go.Proofs.Ytmndkmkknkodhaa.Tk Go.Proofs.Ytmndkmkknkodhaa.Gf2
set_option linter.unusedVariables false

/-- The best so far behind the first u units of an item. -/
def st (s : Int × Int) (x seed t : Int) (u : Nat) : Int × Int := if u = 0 then s else pickT s (x, bn x seed t u)
theorem st_zero (s : Int × Int) (x seed t : Int) : st s x seed t 0 = s := rfl
theorem st_succ (s : Int × Int) (x seed t : Int) (u : Nat) : st s x seed t (u + 1) = if (st s x seed t u).2 < tk x u seed t then (x, tk x u seed t) else st s x seed t u := by
  have T := tk_lt x u seed t
  have e1 : st s x seed t (u + 1) = pickT s (x, bn x seed t (u + 1)) := rfl
  have e2 : bn x seed t (u + 1) = if bn x seed t u < tk x u seed t then tk x u seed t else bn x seed t u := rfl
  rw [e1, e2]
  by_cases hu : u = 0
  · subst hu
    have e3 : st s x seed t 0 = s := rfl
    have e4 : bn x seed t 0 = 0 := rfl
    rw [e3, e4]
    unfold pickT
    by_cases h : 0 < tk x ((0 : Nat) : Int) seed t
    · rw [if_pos h]
    · rw [if_neg h]
      have e5 : tk x ((0 : Nat) : Int) seed t = 0 := by omega
      rw [e5]
  · have e3 : st s x seed t u = pickT s (x, bn x seed t u) := by unfold st; rw [if_neg hu]
    rw [e3]
    unfold pickT
    simp only
    by_cases h1 : s.2 < bn x seed t u
    · simp only [if_pos h1]
      by_cases h2 : bn x seed t u < tk x u seed t
      · simp only [if_pos h2]; rw [if_pos (by omega)]
      · simp only [if_neg h2]; rw [if_pos h1]
    · simp only [if_neg h1]
      by_cases h2 : bn x seed t u < tk x u seed t
      · simp only [if_pos h2]
      · simp only [if_neg h2]; rw [if_neg h1, if_neg (by omega)]
theorem sel_item (f g : Nat → Int) (seed t : Int) (k : Nat) (h : 0 ≤ g k) : sel (tsN f g seed t (k + 1)) = st (sel (tsN f g seed t k)) (f k) seed t (g k).toNat := by
  rw [tsN]
  by_cases hg : 0 < g k
  · rw [if_pos hg, sel_snoc]; unfold st; rw [if_neg (by omega)]
  · rw [if_neg hg]; unfold st; rw [if_pos (by omega)]

theorem wf_small {x : Int} (h0 : 1 ≤ x) (h1 : x ≤ 5) : (Lit.int .i64 x).wf = true := by
  have h : x = 1 ∨ x = 2 ∨ x = 3 ∨ x = 4 ∨ x = 5 := by omega
  rcases h with rfl | rfl | rfl | rfl | rfl <;> rfl

set_option maxRecDepth 100000 in
set_option maxHeartbeats 4000000 in
theorem fnShares (a : Option Addr) (len cap : Nat) (z : List Int) (w : World) (w0 : IsRow .u8 w a len cap z) :
    Calls Try.prog 4 #[.slice a len cap] w fun e w' => e = .returned (.bool true) ∧ Below w.heap.size w w' := by
  have hf := w0.byts
  generalize (fun i => z.getD i 0) = fb at hf
  clear w0
  by_cases hl : len ≤ 1048576
  · have HF := Lib.hid (fun w' (b : Below w.heap.size w w') => hf.below b)
    clear hf
    go_enter Try.func4, Try.ntmps4
    go_wp2_with fail
    refine (A8Items a len cap fb (by omega) _ (HF.out _ (Below.refl _ _))).mono ?_
    rintro e w1 ⟨al, cl, l, rfl, R, FL, b1⟩
    have B1 := Lib.hid b1
    have RH := Lib.hid R
    clear R b1
    go_wp2_with fail
    refine (A8Number a len cap fb (by omega) _ (HF.out _ B1.out)).mono ?_
    rintro e w2 ⟨⟨seed, s0, s1, rfl⟩, b2⟩
    have B12 := Lib.hid b2
    have B2 := Lib.hid (It.chain B1.out b2)
    clear b2
    go_wp2_with fail
    refine (a8At a len cap fb 0 9 _ (HF.out _ B2.out) (by omega) (by omega) (by omega) (by omega)).mono ?_
    rintro e w3 ⟨⟨t, t0, t1, rfl⟩, q3, rfl⟩
    have B13 := Lib.hid (below_drewN B12.out q3)
    have OK := FL.ok
    have WT := FL.weights
    have LL := FL.len
    have HN : ∃ n, n = l.length := ⟨_, rfl⟩
    obtain ⟨n, hn⟩ := HN
    have RN := RH.out
    rw [← hn] at RN OK WT LL ⊢
    have RH := Lib.hid RN
    clear hn RN
    generalize fstN l = f at *
    generalize sndN l = g at *
    have WH := Lib.hid WT
    have OH := Lib.hid OK
    clear WT OK FL
    go_wp2
    go_loopw [6, 7, 8] (fun y x i wr => ∃ k : Nat, k ≤ n ∧ i = .int .i64 k ∧ y = .int .i64 (sel (tsN f g seed t k)).2 ∧ x = .int .i64 (sel (tsN f g seed t k)).1 ∧ Below w1.heap.size w1 wr) (fun _ _ i _ => n - (intOf i).toNat)
    case atStart => exact ⟨0, by omega, rfl, rfl, rfl, B13.out⟩
    case round =>
      obtain ⟨k, hk, rfl, rfl, rfl, hw⟩ := hrel
      by_cases hlt : k < n
      · obtain ⟨g0, g1, x0, x1⟩ := WH.out k hlt
        have SI := Lib.hid (sel_item f g seed t k g0)
        have ha1 := RH.out.below hw
        obtain ⟨b1, o1, rfl, hB, c1⟩ := ha1.resolve_left (by omega)
        have CC := Lib.hid (fun w' (b : Below wr.heap.size wr w') => And.intro ((b.cell (p := ⟨b1, o1 + k * 2, none⟩) hB).trans (c1 k hlt).1) ((b.cell (p := ⟨b1, o1 + k * 2 + 1, none⟩) hB).trans (c1 k hlt).2))
        have HW := Lib.hid hw
        obtain ⟨gm, hgm⟩ : ∃ gm : Nat, g k = gm := ⟨(g k).toNat, by omega⟩
        rw [hgm] at SI CC g1
        rw [Int.toNat_natCast] at SI
        generalize hs : sel (tsN f g seed t k) = s at SI
        generalize hx : f k = x at *
        have HS := Lib.hid hs
        clear hs c1 ha1 hw hB hgm hx
        have ST0 := Lib.hid (st_zero s x seed t)
        obtain ⟨wo, rfl⟩ : ∃ wo : World, wo = wr := ⟨_, rfl⟩
        go_wp2
        go_loopw [6, 7, 9, 10] (fun y x' j _ wi => ∃ u : Nat, u ≤ gm ∧ j = .int .i64 u ∧ y = .int .i64 (st s x seed t u).2 ∧ x' = .int .i64 (st s x seed t u).1 ∧ Below wo.heap.size wo wi) (fun _ _ j _ _ => gm - (intOf j).toNat)
        case atStart => exact ⟨0, by omega, rfl, rfl, rfl, Below.refl _ _⟩
        case round =>
          obtain ⟨u, hu, rfl, rfl, rfl, hi⟩ := hrel
          obtain ⟨d0, d1⟩ := CC.out _ hi
          have HI := Lib.hid hi
          clear hi
          by_cases hlu : u < gm
          · have TB := tk_lt x u seed t
            have SS := Lib.hid (st_succ s x seed t u)
            generalize st s x seed t u = v at *
            obtain ⟨v1, v2⟩ := v
            go_wp2_with fail
            refine (implTicket _ _ _ _ _).mono ?_
            rintro e w4 ⟨rfl, b4⟩
            obtain ⟨e0, e1⟩ := CC.out _ (It.chain HI.out b4)
            have B4 := Lib.hid (It.chain HI.out b4)
            clear b4 d0 d1
            by_cases hq : v2 < tk x u seed t
            · have S2 : st s x seed t (u + 1) = (x, tk x u seed t) := by rw [SS.out, if_pos hq]
              have S2 := Lib.hid S2
              clear SS
              generalize tk x u seed t = y at *
              go_wp2
              go_roundw
              case rel => exact ⟨u + 1, by omega, by go_num, by rw [S2.out], by rw [S2.out], B4.out⟩
              case measure => simp [intOf]; omega
            · have S2 : st s x seed t (u + 1) = (v1, v2) := by rw [SS.out, if_neg hq]
              have S2 := Lib.hid S2
              clear SS
              generalize tk x u seed t = y at *
              go_wp2
              go_roundw
              case rel => exact ⟨u + 1, by omega, by go_num, by rw [S2.out], by rw [S2.out], B4.out⟩
              case measure => simp [intOf]; omega
          · obtain rfl : u = gm := by omega
            have BO := Lib.hid (It.chain HW.out HI.out)
            go_wp2
            go_roundw
            case rel => exact ⟨k + 1, by omega, by go_num, by rw [SI.out], by rw [SI.out], BO.out⟩
            case measure => simp [intOf]; omega
      · obtain rfl : k = n := by omega
        have P := tsN_pos f g seed t k
        have OK := OH.out
        have HWF : ∀ i, i < k → (Lit.int .i64 (f i)).wf = true := fun i hi => wf_small (WH.out i hi).2.2.1 (WH.out i hi).2.2.2
        have C1 := implChooseOne al cl k f g seed t wr (by omega) (RH.out.below hw) HWF
        have D1 := Lib.hid (fun w' (b : Below wr.heap.size wr w') => implDraws al cl k f g seed (t + 1) w' (by omega) ((RH.out.below hw).below b) HWF)
        have E1 : coA k f g seed t = (sel (tsN f g seed t k)).1 := by unfold coA; rw [if_pos OK]; rfl
        have E2 : coB k f g seed t = chB k f g seed t := by unfold coB; rw [if_pos OK]
        rw [E1, E2] at C1
        have HW := Lib.hid hw
        rcases sel_ge _ P with ⟨hnil, hsel⟩ | ⟨hne, hpos⟩
        · have E3 : chB k f g seed t = 3 := by unfold chB; rw [if_pos (by rw [hnil]; rfl)]
          rw [E3, hsel] at C1
          rw [hsel]
          have C1 := Lib.hid C1
          clear P OK E1 E2 E3 hnil hsel hw D1
          go_wp2_with fail
          refine C1.out.mono ?_
          rintro e w4 ⟨rfl, b4⟩
          have B4 := Lib.hid (It.chain (It.chain B1.out HW.out) b4)
          clear b4
          go_wp2
          go_ret
          exact ⟨rfl, B4.out⟩
        · have hlen : (tsN f g seed t k).length ≠ 0 := fun q => hne (List.eq_nil_of_length_eq_zero q)
          have E3 : chB k f g seed t = 0 := by unfold chB; rw [if_neg hlen]
          have E4 : chB k f g seed 0 = 0 := by rw [chB_same k f g seed 0 t]; exact E3
          have F1 : drA k f g seed (t + 1) = drN k f g seed (t + 1).toNat := by unfold drA; rw [if_pos ⟨OK, by omega, .inr E4⟩]
          have F2 : drB k f g seed (t + 1) = 0 := by unfold drB; rw [if_pos OK, if_pos (by omega), if_pos (.inr E4)]
          rw [F1, F2] at D1
          rw [E3] at C1
          obtain ⟨m, rfl⟩ := Int.eq_ofNat_of_zero_le t0
          rw [show ((m : Int) + 1).toNat = m + 1 from by omega] at D1
          have GL : (drN k f g seed (m + 1)).getD m 0 = (sel (tsN f g seed m k)).1 := by
            rw [drN_snoc, List.getD_eq_getElem?_getD, List.getElem?_append_right (by rw [drN_len]; exact Nat.le_refl _), drN_len]; simp; rfl
          have DL := drN_len k f g seed (m + 1)
          have C1 := Lib.hid C1
          generalize drN k f g seed (m + 1) = zs at D1 GL DL
          clear P OK E1 E2 E3 E4 F1 F2 hne hw hlen
          generalize sel (tsN f g seed m k) = s at *
          obtain ⟨s1', s2'⟩ := s
          have GH := Lib.hid GL
          have DH := Lib.hid DL
          clear GL DL
          go_wp2_with fail
          refine C1.out.mono ?_
          rintro e w4 ⟨rfl, b4⟩
          have B4 := Lib.hid b4
          clear b4
          go_wp2_with fail
          refine (D1.out _ B4.out).mono ?_
          rintro e w5 ⟨a5, c5, rfl, O5, b5⟩
          have B5 := Lib.hid (It.chain (It.chain (It.chain B1.out HW.out) B4.out) b5)
          obtain ⟨g5, rfl, _, _, N5, _⟩ := O5.resolve_left (by intro q; have := DH.out; rw [q] at this; simp at this)
          have c := N5 m (by rw [DH.out]; omega)
          rw [GH.out, Nat.zero_add] at c
          rw [DH.out]
          clear N5 b5
          go_wp2
          go_ret
          exact ⟨rfl, B5.out⟩
  · go_enter Try.func4, Try.ntmps4
    go_wp2
    go_ret
    exact ⟨rfl, Below.refl _ _⟩
end Go.Proofs.Ytmndkmkknkodhaa.Ch
