/-
  Where a chunk stands among chunks, in the program: the binary search (written by tools/gen/stq.py).
-/
import Derived.Test.YtbckdfoapmjilaaGreatDoorStQ
namespace Go.Proofs.YtbckdfoapmjilaaGreatDoor.Rd
open Go.RowKit Go.ChangeShapes Go.WideShapes Go.Proofs.YtbckdfoapmjilaaGreatDoor.GfI Go.Proofs.YtbckdfoapmjilaaGreatDoor.GfS
open Go.Proofs.YtbckdfoapmjilaaGreatDoor.Sg (BxN)
set_option linter.unusedVariables false
set_option linter.unusedSimpArgs false

set_option maxRecDepth 100000 in
set_option maxHeartbeats 4000000 in
theorem implSearch (a : Option Addr) (cap : Nat) (l : List DChunk) (c : DChunk) (w : World) (hl : l.length ≤ 2097152) {fr : Bool} {lo : Nat} (hc : Rows fr lo w a l) (hR : RisC l) : Calls Tryz.prog 102 #[.slice a l.length cap, .agg #[.string c.name, .int .i64 c.ver.epoch, .int .i64 c.ver.seq, .int .i64 c.pos, .int .i64 c.sum, .string c.bytes], .func (.func 97) #[] #[]] w (AnsC l c w) := by
  have LY := lay w (.cells #[.string c.name, .int .i64 c.ver.epoch, .int .i64 c.ver.seq, .int .i64 c.pos, .int .i64 c.sum, .string c.bytes] 48)
  have LW := Lib.hid LY
  have C0 := Lib.hid (BxN.new w #[.string c.name, .int .i64 c.ver.epoch, .int .i64 c.ver.seq, .int .i64 c.pos, .int .i64 c.sum, .string c.bytes] 48)
  have RH := Lib.hid (hc.below LY)
  have GET := Lib.hid (fun k (h : k < l.length) => get_lt h)
  have LEN := Lib.hid (fun k x (h : l[k]? = some x) => (List.getElem?_eq_some_iff.1 h).1)
  have RIS := Lib.hid hR
  obtain ⟨n, hn⟩ : ∃ n, l.length = n := ⟨_, rfl⟩
  have HN := Lib.hid hn
  rw [hn] at hl GET LEN ⊢
  clear hn hc LY hR
  go_enter Tryz.func102, Tryz.ntmps102
  go_wp2
  go_loopw [9, 10] (fun i j wr => ∃ p q : Nat, p ≤ q ∧ q ≤ n ∧ i = .int .i64 p ∧ j = .int .i64 q ∧ (∀ (i : Nat) (x : DChunk), i < p → l[i]? = some x → cLt x c = true) ∧ (∀ (i : Nat) (x : DChunk), q ≤ i → l[i]? = some x → cLt x c = false) ∧ Below (w.alloc (.cells #[.string c.name, .int .i64 c.ver.epoch, .int .i64 c.ver.seq, .int .i64 c.pos, .int .i64 c.sum, .string c.bytes] 48)).heap.size (w.alloc (.cells #[.string c.name, .int .i64 c.ver.epoch, .int .i64 c.ver.seq, .int .i64 c.pos, .int .i64 c.sum, .string c.bytes] 48)) wr) (fun i j _ => (intOf j).toNat - (intOf i).toNat)
  case atStart => exact ⟨0, n, by omega, by omega, rfl, rfl, fun i x hi => absurd hi (Nat.not_lt_zero _), fun i x hi hx => absurd (LEN.out _ _ hx) (by omega), Below.refl _ _⟩
  case round =>
    obtain ⟨p, q, hpq, hq, rfl, rfl, H1, H2, hw⟩ := hrel
    have H1 := Lib.hid H1
    have H2 := Lib.hid H2
    have CH := Lib.hid (C0.out.later hw)
    have BF := Lib.hid hw
    have BH := Lib.hid (Below.refl wr.heap.size wr)
    by_cases hlt : p < q
    · obtain ⟨m, hm⟩ : ∃ m, (p + q) / 2 = m := ⟨_, rfl⟩
      have hm1 : p ≤ m ∧ m < q := by omega
      have HM := Lib.hid hm1
      obtain ⟨x, hx⟩ := GET.out m (by omega)
      obtain ⟨b, off, cs, ea, -, hB, hr, hcc⟩ := (RH.out.below hw).at' hx
      obtain ⟨rfl, f0_0, f0_1, f0_2, f0_3, f0_4, f0_5⟩ := shape_Chunk hr
      have z0 : wr.cell? ⟨b, off + m * 6, none⟩ = some (.string x.name) := hcc 0 _ rfl
      have z1 : wr.cell? ⟨b, off + m * 6 + 1, none⟩ = some (.int .i64 x.ver.epoch) := hcc 1 _ rfl
      have z2 : wr.cell? ⟨b, off + m * 6 + 2, none⟩ = some (.int .i64 x.ver.seq) := hcc 2 _ rfl
      have z3 : wr.cell? ⟨b, off + m * 6 + 3, none⟩ = some (.int .i64 x.pos) := hcc 3 _ rfl
      have z4 : wr.cell? ⟨b, off + m * 6 + 4, none⟩ = some (.int .i64 x.sum) := hcc 4 _ rfl
      have z5 : wr.cell? ⟨b, off + m * 6 + 5, none⟩ = some (.string x.bytes) := hcc 5 _ rfl
      obtain ⟨C_0, C_1, C_2, C_3, C_4, C_5⟩ := c6 CH.out
      have HX := Lib.hid hx
      have CL := Lib.hid (fun w' (_ : Below wr.heap.size wr w') => implChunkCompare x c w')
      have NG := negChunk x c
      have w0 : IntKind.i64.wrap ((p : Int) + (q : Int)) = (p : Int) + (q : Int) := by rw [IntKind.wrap_i64]; omega
      have w2 : IntKind.u64.wrap ((p : Int) + (q : Int)) = (p : Int) + (q : Int) := by rw [IntKind.wrap_u64]; omega
      have w3 : ((p : Int) + (q : Int)) / 2 = (m : Int) := by omega
      have w4 : IntKind.u64.wrap (m : Int) = (m : Int) := by rw [IntKind.wrap_u64]; omega
      have w5 : IntKind.i64.wrap (m : Int) = (m : Int) := by rw [IntKind.wrap_i64]; omega
      have m0 : (0 : Int) ≤ (m : Int) := by omega
      have m1 : (m : Int) < (n : Int) := by omega
      have pq : (p : Int) < (q : Int) := by omega
      clear hcc hr hx hw hm
      subst ea
      generalize hz : chkC x c = z at *
      cases r : cLt x c
      · rw [r] at NG
        have Z := of_decide_eq_false NG
        have HQ := Lib.hid (show ∀ (i : Nat) (y : DChunk), m ≤ i → l[i]? = some y → cLt y c = false from fun i y hi hy => by
          by_cases e : i = m
          · subst e; rw [HX.out] at hy; cases hy; exact r
          · cases s : cLt y c
            · rfl
            · have := cLt_trans (RIS.out m i x y (by omega) HX.out hy) s
              rw [r] at this; cases this)
        clear NG r hz
        go_upto_region 5 with fail
        refine wp_region_still_tail 6 (by kernel_rfl) (by kernel_rfl) ?_
        simp only [List.take_succ_cons, List.take_zero, List.drop_succ_cons, List.drop_zero]
        still_step
        still_step
        still_step
        still_step
        still_step
        still_step
        refine wpStill_nil ?_
        change wpList _ _ _ _ _ (wr.drewN 1)
        have BD := Lib.hid (show Below wr.heap.size wr (wr.drewN 1) from BH.out.drew)
        generalize wr.drewN 1 = wd at *
        go_wp2_with fail
        refine (CL.out _ BD.out).mono ?_
        rintro e w1 ⟨rfl, b1⟩
        have B1 := Lib.hid (chainX _ BF.out (chainX _ BD.out b1))
        clear b1
        go_wp2
        go_roundw
        case rel => exact ⟨p, m, by omega, by omega, by go_num, by go_num, H1.out, HQ.out, B1.out⟩
        case measure => simp [intOf]; omega
      · rw [r] at NG
        have Z := of_decide_eq_true NG
        have HP := Lib.hid (show ∀ (i : Nat) (y : DChunk), i < m + 1 → l[i]? = some y → cLt y c = true from fun i y hi hy => by
          by_cases e : i = m
          · subst e; rw [HX.out] at hy; cases hy; exact r
          · exact cLt_trans (RIS.out i m y x (by omega) hy HX.out) r)
        have w6 : IntKind.i64.wrap ((m : Int) + 1) = (m : Int) + 1 := by rw [IntKind.wrap_i64]; omega
        clear NG r hz
        go_upto_region 5 with fail
        refine wp_region_still_tail 6 (by kernel_rfl) (by kernel_rfl) ?_
        simp only [List.take_succ_cons, List.take_zero, List.drop_succ_cons, List.drop_zero]
        still_step
        still_step
        still_step
        still_step
        still_step
        still_step
        refine wpStill_nil ?_
        change wpList _ _ _ _ _ (wr.drewN 1)
        have BD := Lib.hid (show Below wr.heap.size wr (wr.drewN 1) from BH.out.drew)
        generalize wr.drewN 1 = wd at *
        go_wp2_with fail
        refine (CL.out _ BD.out).mono ?_
        rintro e w1 ⟨rfl, b1⟩
        have B1 := Lib.hid (chainX _ BF.out (chainX _ BD.out b1))
        clear b1
        go_wp2
        go_roundw
        case rel => exact ⟨m + 1, q, by omega, by omega, by go_num, by go_num, HP.out, H2.out, B1.out⟩
        case measure => simp [intOf]; omega
    · obtain rfl : p = q := by omega
      by_cases hpn : p < n
      · obtain ⟨x, hx⟩ := GET.out p hpn
        obtain ⟨b, off, cs, ea, -, hB, hr, hcc⟩ := (RH.out.below hw).at' hx
        obtain ⟨rfl, f0_0, f0_1, f0_2, f0_3, f0_4, f0_5⟩ := shape_Chunk hr
        have z0 : wr.cell? ⟨b, off + p * 6, none⟩ = some (.string x.name) := hcc 0 _ rfl
        have z1 : wr.cell? ⟨b, off + p * 6 + 1, none⟩ = some (.int .i64 x.ver.epoch) := hcc 1 _ rfl
        have z2 : wr.cell? ⟨b, off + p * 6 + 2, none⟩ = some (.int .i64 x.ver.seq) := hcc 2 _ rfl
        have z3 : wr.cell? ⟨b, off + p * 6 + 3, none⟩ = some (.int .i64 x.pos) := hcc 3 _ rfl
        have z4 : wr.cell? ⟨b, off + p * 6 + 4, none⟩ = some (.int .i64 x.sum) := hcc 4 _ rfl
        have z5 : wr.cell? ⟨b, off + p * 6 + 5, none⟩ = some (.string x.bytes) := hcc 5 _ rfl
        have HX := Lib.hid hx
        have XR := Lib.hid (fun w' (q : Below wr.heap.size wr w') => (show w'.cell? ⟨b, off + p * 6, none⟩ = some (.string x.name) ∧ w'.cell? ⟨b, off + p * 6 + 1, none⟩ = some (.int .i64 x.ver.epoch) ∧ w'.cell? ⟨b, off + p * 6 + 2, none⟩ = some (.int .i64 x.ver.seq) ∧ w'.cell? ⟨b, off + p * 6 + 3, none⟩ = some (.int .i64 x.pos) ∧ w'.cell? ⟨b, off + p * 6 + 4, none⟩ = some (.int .i64 x.sum) ∧ w'.cell? ⟨b, off + p * 6 + 5, none⟩ = some (.string x.bytes) from ⟨(q.cell (p := ⟨b, off + p * 6, none⟩) hB).trans z0, (q.cell (p := ⟨b, off + p * 6 + 1, none⟩) hB).trans z1, (q.cell (p := ⟨b, off + p * 6 + 2, none⟩) hB).trans z2, (q.cell (p := ⟨b, off + p * 6 + 3, none⟩) hB).trans z3, (q.cell (p := ⟨b, off + p * 6 + 4, none⟩) hB).trans z4, (q.cell (p := ⟨b, off + p * 6 + 5, none⟩) hB).trans z5⟩))
        have CQ := Lib.hid (fun w' (_ : Below wr.heap.size wr w') => implChunkCompare x c w')
        have e0 := H2.out p x (Nat.le_refl _) hx
        have PL := Lib.hid (fun (b : Bool) (hb : b = true ↔ cLt c x = false) => (show PlaceC l c p b from ⟨by rw [HN.out]; exact hq, H1.out, fun y hy => (by rw [HX.out] at hy; cases hy; exact e0), ⟨fun h => ⟨x, HX.out, e0, hb.1 h⟩, fun ⟨y, hy, _, h2⟩ => (by rw [HX.out] at hy; cases hy; exact hb.2 h2)⟩⟩))
        have ZQ := Lib.hid (show chkC x c = 0 ↔ cLt c x = false from (chkC_zero x c).trans ⟨fun h => h.2, fun h => ⟨e0, h⟩⟩)
        clear hcc hr hx hw e0
        subst ea
        generalize hz : chkC x c = z at *
        clear hz
        by_cases z0' : z = 0
        · subst z0'
          have PB := Lib.hid (PL.out true ⟨fun _ => ZQ.out.1 rfl, fun _ => rfl⟩)
          clear PL ZQ
          obtain ⟨C_0, C_1, C_2, C_3, C_4, C_5⟩ := c6 CH.out
          obtain ⟨z0, z1, z2, z3, z4, z5⟩ := XR.out _ BH.out
          go_wp2
          refine wp_region_noPanic ?_
          refine wp_region_held_drew (S := (fun w' => w'.cell? ⟨w.heap.size, 0, none⟩ = some (.string c.name) ∧ w'.cell? ⟨w.heap.size, 1, none⟩ = some (.int .i64 c.ver.epoch) ∧ w'.cell? ⟨w.heap.size, 2, none⟩ = some (.int .i64 c.ver.seq) ∧ w'.cell? ⟨w.heap.size, 3, none⟩ = some (.int .i64 c.pos) ∧ w'.cell? ⟨w.heap.size, 4, none⟩ = some (.int .i64 c.sum) ∧ w'.cell? ⟨w.heap.size, 5, none⟩ = some (.string c.bytes) ∧ w'.cell? ⟨b, off + p * 6, none⟩ = some (.string x.name) ∧ w'.cell? ⟨b, off + p * 6 + 1, none⟩ = some (.int .i64 x.ver.epoch) ∧ w'.cell? ⟨b, off + p * 6 + 2, none⟩ = some (.int .i64 x.ver.seq) ∧ w'.cell? ⟨b, off + p * 6 + 3, none⟩ = some (.int .i64 x.pos) ∧ w'.cell? ⟨b, off + p * 6 + 4, none⟩ = some (.int .i64 x.sum) ∧ w'.cell? ⟨b, off + p * 6 + 5, none⟩ = some (.string x.bytes))) (by kernel_rfl) ?_ (fun hHeld => ?_)
          · go_keep
          refine tj 0 rfl ?_
          try simp only [Act.put, ya, yb, yc, yd, ye, yf]
          refine tj 1 rfl ?_
          try simp only [Act.put, ya, yb, yc, yd, ye, yf]
          refine tj 2 rfl ?_
          try simp only [Act.put, ya, yb, yc, yd, ye, yf]
          refine tj 3 rfl ?_
          try simp only [Act.put, ya, yb, yc, yd, ye, yf]
          refine tj 4 rfl ?_
          try simp only [Act.put, ya, yb, yc, yd, ye, yf]
          refine tj 5 rfl ?_
          try simp only [Act.put, ya, yb, yc, yd, ye, yf]
          refine tj 6 rfl ?_
          try simp only [Act.put, ya, yb, yc, yd, ye, yf]
          refine tj 7 rfl ?_
          try simp only [Act.put, ya, yb, yc, yd, ye, yf]
          refine tj 8 rfl ?_
          try simp only [Act.put, ya, yb, yc, yd, ye, yf]
          refine tj 9 rfl ?_
          try simp only [Act.put, ya, yb, yc, yd, ye, yf]
          refine tj 10 rfl ?_
          try simp only [Act.put, ya, yb, yc, yd, ye, yf]
          refine wpAnyH_ready (rs := [11]) (by kernel_rfl) (by simp) ?_
          refine AllReadyH.cons rfl (fun K hK => ?_) AllReadyH.nil
          go_simp
          (go_at_call 97; refine (CQ.out _ (by first | exact BH.out | exact BH.out.drew)).mono ?_; rintro e9 w9 ⟨rfl, b9⟩; (try replace b9 := undrewX b9); have CH := Lib.hid (CH.out.later b9); have BH := Lib.hid (chainX _ BH.out b9); obtain ⟨C_0, C_1, C_2, C_3, C_4, C_5⟩ := c6 CH.out; obtain ⟨z0, z1, z2, z3, z4, z5⟩ := XR.out _ BH.out; clear b9)
          (try go_wp2_with fail)
          refine hK.out _ _ ?_ (fun hHeld11 => ?_)
          · (try dsimp only); go_keep
          clear hK K
          try simp only [Act.put, ya, yb, yc, yd, ye, yf]
          refine tj 12 rfl ?_
          try simp only [Act.put, ya, yb, yc, yd, ye, yf]
          refine tj 13 rfl ?_
          try simp only [Act.put, ya, yb, yc, yd, ye, yf]
          refine tj 14 rfl ?_
          try simp only [Act.put, ya, yb, yc, yd, ye, yf]
          refine tj 15 rfl ?_
          try simp only [Act.put, ya, yb, yc, yd, ye, yf]
          refine wpAnyH_done (by kernel_rfl) ?_ _
          refine NoPanic.normal ?_
          go_wp2
          go_ret2
          exact ⟨p, true, rfl, PB.out, chainX w LW.out (chainX _ BF.out BH.out)⟩
        · have PB := Lib.hid (PL.out false ⟨fun h => (by cases h), fun h => absurd (ZQ.out.2 h) z0'⟩)
          have zb : (z == 0) = false := by simpa using z0'
          clear PL ZQ
          obtain ⟨C_0, C_1, C_2, C_3, C_4, C_5⟩ := c6 CH.out
          obtain ⟨z0, z1, z2, z3, z4, z5⟩ := XR.out _ BH.out
          go_wp2
          refine wp_region_noPanic ?_
          refine wp_region_held_drew (S := (fun w' => w'.cell? ⟨w.heap.size, 0, none⟩ = some (.string c.name) ∧ w'.cell? ⟨w.heap.size, 1, none⟩ = some (.int .i64 c.ver.epoch) ∧ w'.cell? ⟨w.heap.size, 2, none⟩ = some (.int .i64 c.ver.seq) ∧ w'.cell? ⟨w.heap.size, 3, none⟩ = some (.int .i64 c.pos) ∧ w'.cell? ⟨w.heap.size, 4, none⟩ = some (.int .i64 c.sum) ∧ w'.cell? ⟨w.heap.size, 5, none⟩ = some (.string c.bytes) ∧ w'.cell? ⟨b, off + p * 6, none⟩ = some (.string x.name) ∧ w'.cell? ⟨b, off + p * 6 + 1, none⟩ = some (.int .i64 x.ver.epoch) ∧ w'.cell? ⟨b, off + p * 6 + 2, none⟩ = some (.int .i64 x.ver.seq) ∧ w'.cell? ⟨b, off + p * 6 + 3, none⟩ = some (.int .i64 x.pos) ∧ w'.cell? ⟨b, off + p * 6 + 4, none⟩ = some (.int .i64 x.sum) ∧ w'.cell? ⟨b, off + p * 6 + 5, none⟩ = some (.string x.bytes))) (by kernel_rfl) ?_ (fun hHeld => ?_)
          · go_keep
          refine tj 0 rfl ?_
          try simp only [Act.put, ya, yb, yc, yd, ye, yf]
          refine tj 1 rfl ?_
          try simp only [Act.put, ya, yb, yc, yd, ye, yf]
          refine tj 2 rfl ?_
          try simp only [Act.put, ya, yb, yc, yd, ye, yf]
          refine tj 3 rfl ?_
          try simp only [Act.put, ya, yb, yc, yd, ye, yf]
          refine tj 4 rfl ?_
          try simp only [Act.put, ya, yb, yc, yd, ye, yf]
          refine tj 5 rfl ?_
          try simp only [Act.put, ya, yb, yc, yd, ye, yf]
          refine tj 6 rfl ?_
          try simp only [Act.put, ya, yb, yc, yd, ye, yf]
          refine tj 7 rfl ?_
          try simp only [Act.put, ya, yb, yc, yd, ye, yf]
          refine tj 8 rfl ?_
          try simp only [Act.put, ya, yb, yc, yd, ye, yf]
          refine tj 9 rfl ?_
          try simp only [Act.put, ya, yb, yc, yd, ye, yf]
          refine tj 10 rfl ?_
          try simp only [Act.put, ya, yb, yc, yd, ye, yf]
          refine wpAnyH_ready (rs := [11]) (by kernel_rfl) (by simp) ?_
          refine AllReadyH.cons rfl (fun K hK => ?_) AllReadyH.nil
          go_simp
          (go_at_call 97; refine (CQ.out _ (by first | exact BH.out | exact BH.out.drew)).mono ?_; rintro e9 w9 ⟨rfl, b9⟩; (try replace b9 := undrewX b9); have CH := Lib.hid (CH.out.later b9); have BH := Lib.hid (chainX _ BH.out b9); obtain ⟨C_0, C_1, C_2, C_3, C_4, C_5⟩ := c6 CH.out; obtain ⟨z0, z1, z2, z3, z4, z5⟩ := XR.out _ BH.out; clear b9)
          (try go_wp2_with fail)
          refine hK.out _ _ ?_ (fun hHeld11 => ?_)
          · (try dsimp only); go_keep
          clear hK K
          try simp only [Act.put, ya, yb, yc, yd, ye, yf]
          refine tj 12 rfl ?_
          try simp only [Act.put, ya, yb, yc, yd, ye, yf]
          refine tj 13 rfl ?_
          try simp only [Act.put, ya, yb, yc, yd, ye, yf]
          refine tj 14 rfl ?_
          try simp only [Act.put, ya, yb, yc, yd, ye, yf]
          refine tj 15 rfl ?_
          try simp only [Act.put, ya, yb, yc, yd, ye, yf]
          refine wpAnyH_done (by kernel_rfl) ?_ _
          refine NoPanic.normal ?_
          go_wp2
          go_ret2
          exact ⟨p, false, rfl, PB.out, chainX w LW.out (chainX _ BF.out BH.out)⟩
      · obtain rfl : p = n := by omega
        have PB := Lib.hid (show PlaceC l c p false from ⟨by rw [HN.out]; exact Nat.le_refl _, H1.out, fun y hy => absurd (LEN.out _ _ hy) (Nat.lt_irrefl _), ⟨fun h => (by cases h), fun ⟨y, hy, _⟩ => absurd (LEN.out _ _ hy) (Nat.lt_irrefl _)⟩⟩)
        clear hw
        obtain ⟨C_0, C_1, C_2, C_3, C_4, C_5⟩ := c6 CH.out
        go_wp2
        refine wp_region_noPanic ?_
        refine wp_region_held_drew (S := (fun w' => w'.cell? ⟨w.heap.size, 0, none⟩ = some (.string c.name) ∧ w'.cell? ⟨w.heap.size, 1, none⟩ = some (.int .i64 c.ver.epoch) ∧ w'.cell? ⟨w.heap.size, 2, none⟩ = some (.int .i64 c.ver.seq) ∧ w'.cell? ⟨w.heap.size, 3, none⟩ = some (.int .i64 c.pos) ∧ w'.cell? ⟨w.heap.size, 4, none⟩ = some (.int .i64 c.sum) ∧ w'.cell? ⟨w.heap.size, 5, none⟩ = some (.string c.bytes))) (by kernel_rfl) ?_ (fun hHeld => ?_)
        · go_keep
        refine tj 0 rfl ?_
        try simp only [Act.put, ya, yb, yc, yd, ye, yf]
        refine tj 1 rfl ?_
        try simp only [Act.put, ya, yb, yc, yd, ye, yf]
        refine tj 2 rfl ?_
        try simp only [Act.put, ya, yb, yc, yd, ye, yf]
        refine tj 3 rfl ?_
        try simp only [Act.put, ya, yb, yc, yd, ye, yf]
        refine tj 4 rfl ?_
        try simp only [Act.put, ya, yb, yc, yd, ye, yf]
        refine tk 5 (v := undef) rfl (Or.inr ⟨by kernel_rfl, rfl⟩) (by assumption) ?_
        try simp only [Act.put, ya, yb, yc, yd, ye, yf]
        refine tk 6 (v := undef) rfl (Or.inr ⟨by kernel_rfl, rfl⟩) (by assumption) ?_
        try simp only [Act.put, ya, yb, yc, yd, ye, yf]
        refine tk 7 (v := undef) rfl (Or.inr ⟨by kernel_rfl, rfl⟩) (by assumption) ?_
        try simp only [Act.put, ya, yb, yc, yd, ye, yf]
        refine tk 8 (v := undef) rfl (Or.inr ⟨by kernel_rfl, rfl⟩) (by assumption) ?_
        try simp only [Act.put, ya, yb, yc, yd, ye, yf]
        refine tk 9 (v := undef) rfl (Or.inr ⟨by kernel_rfl, rfl⟩) (by assumption) ?_
        try simp only [Act.put, ya, yb, yc, yd, ye, yf]
        refine tk 10 (v := undef) rfl (Or.inr ⟨by kernel_rfl, rfl⟩) (by assumption) ?_
        try simp only [Act.put, ya, yb, yc, yd, ye, yf]
        refine tk 11 (v := undef) rfl (Or.inr ⟨by kernel_rfl, rfl⟩) (by assumption) ?_
        try simp only [Act.put, ya, yb, yc, yd, ye, yf]
        refine tk 12 (v := undef) rfl (Or.inr ⟨by kernel_rfl, rfl⟩) (by assumption) ?_
        try simp only [Act.put, ya, yb, yc, yd, ye, yf]
        refine tj 13 rfl ?_
        try simp only [Act.put, ya, yb, yc, yd, ye, yf]
        refine tj 14 rfl ?_
        try simp only [Act.put, ya, yb, yc, yd, ye, yf]
        refine tj 15 rfl ?_
        try simp only [Act.put, ya, yb, yc, yd, ye, yf]
        refine wpAnyH_done (by kernel_rfl) ?_ _
        refine NoPanic.normal ?_
        have BH := Lib.hid BH.out.drew
        go_wp2
        go_ret2
        exact ⟨p, false, rfl, PB.out, chainX w LW.out (chainX _ BF.out BH.out)⟩
end Go.Proofs.YtbckdfoapmjilaaGreatDoor.Rd
