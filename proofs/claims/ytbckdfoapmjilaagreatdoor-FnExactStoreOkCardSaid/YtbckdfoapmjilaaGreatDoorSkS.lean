/-
  StoreOk in the model (written by tools/gen/sko.py).
-/
import Derived.Test.YtbckdfoapmjilaaGreatDoorSkP
import Derived.Test.YtbckdfoapmjilaaGreatDoorStO
namespace Go.Proofs.YtbckdfoapmjilaaGreatDoor.Rd
open Go.RowKit Go.ChangeShapes Go.WideShapes Go.Proofs.YtbckdfoapmjilaaGreatDoor.GfI Go.Proofs.YtbckdfoapmjilaaGreatDoor.GfS
open Go.Proofs.YtbckdfoapmjilaaGreatDoor.Sg (BxN)
set_option linter.unusedVariables false
set_option linter.unusedSimpArgs false

set_option maxRecDepth 100000 in
set_option maxHeartbeats 4000000 in
theorem specPgLess (a b : DPgState) (w : World) : Calls Tryz.prog 103 #[.agg #[.int .i64 a.pg.pool, .int .i64 a.pg.no], .agg #[.int .i64 b.pg.pool, .int .i64 b.pg.no]] w (RetW (.bool (sPLt a b)) w) := by
  have BH := Lib.hid (chainX w (lay w (.cells #[.int .i64 a.pg.pool, .int .i64 a.pg.no] 34)) (lay _ (.cells #[.int .i64 b.pg.pool, .int .i64 b.pg.no] 34)))
  unfold sPLt pgL
  generalize a.pg.pool = x0 at *
  generalize a.pg.no = x1 at *
  generalize b.pg.pool = y0 at *
  generalize b.pg.no = y1 at *
  by_cases h0 : x0 < y0
  · rw [show decide (x0 < y0 ∨ (x0 = y0 ∧ x1 < y1)) = true from decide_eq_true (.inl h0)]
    go_enter Tryz.func103, Tryz.ntmps103
    go_wp2
    go_ret
    exact ⟨rfl, BH.out⟩
  · by_cases h1 : x0 = y0
    · subst h1
      by_cases h2 : x1 < y1
      · rw [show decide (x0 < x0 ∨ (x0 = x0 ∧ x1 < y1)) = true from decide_eq_true (.inr ⟨rfl, h2⟩)]
        clear h0
        have h0 : decide (x0 < x0) = false := decide_eq_false (by omega)
        go_enter Tryz.func103, Tryz.ntmps103
        go_wp2
        go_ret
        exact ⟨rfl, BH.out⟩
      · rw [show decide (x0 < x0 ∨ (x0 = x0 ∧ x1 < y1)) = false from decide_eq_false (by omega)]
        have d2 : decide (x1 < y1) = false := decide_eq_false h2
        clear h0 h2
        have h0 : decide (x0 < x0) = false := decide_eq_false (by omega)
        go_enter Tryz.func103, Tryz.ntmps103
        go_wp2
        go_ret
        exact ⟨rfl, BH.out⟩
    · rw [show decide (x0 < y0 ∨ (x0 = y0 ∧ x1 < y1)) = false from decide_eq_false (by omega)]
      have q0 : decide (x0 < y0) = false := decide_eq_false h0
      have q1 : (x0 == y0) = false := by simpa using h1
      clear h0 h1
      go_enter Tryz.func103, Tryz.ntmps103
      go_wp2
      go_ret
      exact ⟨rfl, BH.out⟩
set_option maxRecDepth 100000 in
set_option maxHeartbeats 4000000 in
theorem specStateList (a : Option Addr) (cap : Nat) (l : List DPgState) (w : World) (hl : l.length ≤ 2097152) {fr : Bool} {lo : Nat} (hc : Rows fr lo w a l) (p : DPgState → Bool) (hp : ∀ d, p d = true ↔ StP d) (hsz : ∀ x, x ∈ l → Rdb.sz x ≤ 2097152) :
    Calls Tryz.prog 58 #[.slice a l.length cap] w (IffB (SeqP 8 sPLt (idB p) l) w) := by
  have LW := Lib.hid (Below.refl w.heap.size w)
  have RH := Lib.hid hc
  have GET := Lib.hid (fun k (h : k < l.length) => get_lt h)
  have LEN := Lib.hid (fun k x (h : l[k]? = some x) => (List.getElem?_eq_some_iff.1 h).1)
  obtain ⟨n, hn⟩ : ∃ n, l.length = n := ⟨_, rfl⟩
  have HN := Lib.hid hn
  rw [hn] at hl GET LEN ⊢
  clear hn hc
  go_enter Tryz.func58, Tryz.ntmps58
  go_wp2
  go_loopw [3] (fun i wr => ∃ k : Nat, k ≤ n ∧ k ≤ 9 ∧ i = .int .i64 k ∧ (∀ (i : Nat) (x y : DPgState), i + 1 < k → l[i]? = some x → l[i + 1]? = some y → sPLt x y = true) ∧ (∀ (i : Nat) (x : DPgState), i < k → l[i]? = some x → (idB p) x = true) ∧ Below w.heap.size w wr) (fun i _ => n - (intOf i).toNat)
  case atStart => exact ⟨0, by omega, by omega, rfl, fun i x y hi => absurd hi (Nat.not_lt_zero _), fun i x hi => absurd hi (Nat.not_lt_zero _), Below.refl _ _⟩
  case round =>
    obtain ⟨k, hk, hk2, rfl, H1, H2, hw⟩ := hrel
    have H1 := Lib.hid H1
    have H2 := Lib.hid H2
    have BW := Lib.hid (chainX w LW.out hw)
    by_cases hlt : k < n
    · by_cases hmx : k ≤ 8
      rotate_left
      · have NO := Lib.hid (show ¬ SeqP 8 sPLt (idB p) l from fun h => by have h1 := h.1; have h2 := HN.out; omega)
        have d1 : decide ((k : Int) ≤ 8) = false := decide_eq_false (by omega)
        have d2 : decide ((n : Int) ≤ 8) = false := decide_eq_false (by omega)
        clear hw
        go_wp2
        go_ret
        exact IffB.no NO.out BW.out
      · have dk : decide ((k : Int) ≤ 8) = true := decide_eq_true (by omega)
        obtain ⟨c, hx⟩ := GET.out k hlt
        obtain ⟨b, off, cs, ea, -, hB, hr, hcc⟩ := (RH.out.below hw).at' hx
        obtain ⟨a0_6, c0_6, a0_7, c0_7, a0_8, c0_8, a0_11, c0_11, rfl, f0_0, f0_1, f0_2, f0_3, f0_4, f0_5, f0_6, g0_6, f0_7, g0_7, f0_8, g0_8, f0_9, f0_10, f0_11, g0_11⟩ := shape_PgState hr
        have z0 : wr.cell? ⟨b, off + k * 12, none⟩ = some (.int .i64 c.pg.pool) := hcc 0 _ rfl
        have z1 : wr.cell? ⟨b, off + k * 12 + 1, none⟩ = some (.int .i64 c.pg.no) := hcc 1 _ rfl
        have z2 : wr.cell? ⟨b, off + k * 12 + 2, none⟩ = some (.int .i64 c.seen) := hcc 2 _ rfl
        have z3 : wr.cell? ⟨b, off + k * 12 + 3, none⟩ = some (.int .i64 c.started) := hcc 3 _ rfl
        have z4 : wr.cell? ⟨b, off + k * 12 + 4, none⟩ = some (.int .i64 c.tail.epoch) := hcc 4 _ rfl
        have z5 : wr.cell? ⟨b, off + k * 12 + 5, none⟩ = some (.int .i64 c.tail.seq) := hcc 5 _ rfl
        have z6 : wr.cell? ⟨b, off + k * 12 + 6, none⟩ = some (.slice a0_6 c.base.length c0_6) := hcc 6 _ rfl
        have z7 : wr.cell? ⟨b, off + k * 12 + 7, none⟩ = some (.slice a0_7 c.clients.length c0_7) := hcc 7 _ rfl
        have z8 : wr.cell? ⟨b, off + k * 12 + 8, none⟩ = some (.slice a0_8 c.log.length c0_8) := hcc 8 _ rfl
        have z9 : wr.cell? ⟨b, off + k * 12 + 9, none⟩ = some (.int .i64 c.firm.epoch) := hcc 9 _ rfl
        have z10 : wr.cell? ⟨b, off + k * 12 + 10, none⟩ = some (.int .i64 c.firm.seq) := hcc 10 _ rfl
        have z11 : wr.cell? ⟨b, off + k * 12 + 11, none⟩ = some (.slice a0_11 c.chunks.length c0_11) := hcc 11 _ rfl
        have LE := Below.refl wr.heap.size wr
        have BF := Lib.hid (chainX w hw LE)
        have BH := Lib.hid (Below.refl wr.heap.size wr)
        have HX := Lib.hid hx
        have ZC0 := Lib.hid (fun w' (q : Below wr.heap.size wr w') => (q.cell (p := ⟨b, off + k * 12, none⟩) hB).trans z0)
        have ZC1 := Lib.hid (fun w' (q : Below wr.heap.size wr w') => (q.cell (p := ⟨b, off + k * 12 + 1, none⟩) hB).trans z1)
        have ZC2 := Lib.hid (fun w' (q : Below wr.heap.size wr w') => (q.cell (p := ⟨b, off + k * 12 + 2, none⟩) hB).trans z2)
        have ZC3 := Lib.hid (fun w' (q : Below wr.heap.size wr w') => (q.cell (p := ⟨b, off + k * 12 + 3, none⟩) hB).trans z3)
        have ZC4 := Lib.hid (fun w' (q : Below wr.heap.size wr w') => (q.cell (p := ⟨b, off + k * 12 + 4, none⟩) hB).trans z4)
        have ZC5 := Lib.hid (fun w' (q : Below wr.heap.size wr w') => (q.cell (p := ⟨b, off + k * 12 + 5, none⟩) hB).trans z5)
        have ZC6 := Lib.hid (fun w' (q : Below wr.heap.size wr w') => (q.cell (p := ⟨b, off + k * 12 + 6, none⟩) hB).trans z6)
        have ZC7 := Lib.hid (fun w' (q : Below wr.heap.size wr w') => (q.cell (p := ⟨b, off + k * 12 + 7, none⟩) hB).trans z7)
        have ZC8 := Lib.hid (fun w' (q : Below wr.heap.size wr w') => (q.cell (p := ⟨b, off + k * 12 + 8, none⟩) hB).trans z8)
        have ZC9 := Lib.hid (fun w' (q : Below wr.heap.size wr w') => (q.cell (p := ⟨b, off + k * 12 + 9, none⟩) hB).trans z9)
        have ZC10 := Lib.hid (fun w' (q : Below wr.heap.size wr w') => (q.cell (p := ⟨b, off + k * 12 + 10, none⟩) hB).trans z10)
        have ZC11 := Lib.hid (fun w' (q : Below wr.heap.size wr w') => (q.cell (p := ⟨b, off + k * 12 + 11, none⟩) hB).trans z11)
        have C0 := Lib.hid (fun w' (q : Below wr.heap.size wr w') => (specStateOk c (c6 := c0_6) (c7 := c0_7) (c8 := c0_8) (c11 := c0_11) w' (lenS (hsz c (List.mem_of_getElem? hx))).1 (lenS (hsz c (List.mem_of_getElem? hx))).2.1 (lenS (hsz c (List.mem_of_getElem? hx))).2.2.1 (lenS (hsz c (List.mem_of_getElem? hx))).2.2.2 g0_6.2 g0_8.2 (f0_6.below q) (f0_7.below q) (f0_8.below q) (f0_11.below q)).mono fun _ _ q => iff_ret (hp c) q)
        have NOW := Lib.hid (fun (hno : (idB p) c = false) => (show ¬ SeqP 8 sPLt (idB p) l from fun hS => by have := hS.2.2 k c HX.out; rw [hno] at this; cases this))
        have YES := Lib.hid (fun (hok : (idB p) c = true) => (show ∀ (i : Nat) (x : DPgState), i < k + 1 → l[i]? = some x → (idB p) x = true from fun i x hi hxi => by
          by_cases e : i = k
          · subst e; rw [HX.out] at hxi; cases hxi; exact hok
          · exact H2.out i x (by omega) hxi))
        have HP := (show idB p c = p c from rfl)
        generalize p c = b0 at *
        by_cases hk0 : k = 0
        · subst hk0
          simp only [Nat.zero_mul, Nat.add_zero] at z0 z1 z2 z3 z4 z5 z6 z7 z8 z9 z10 z11
          have H5 := Lib.hid (show ∀ (i : Nat) (x y : DPgState), i + 1 < 0 + 1 → l[i]? = some x → l[i + 1]? = some y → sPLt x y = true from fun i x y hi => absurd hi (by omega))
          clear hcc hr hx hw LE H1 H2
          subst ea
          cases b0
          · skip
            have NO := Lib.hid (NOW.out (by rw [HP]; try simp))
            clear NOW YES HP
            (try clear NOP)
            (try clear H4)
            (try clear H5)
            have z0 := ZC0.out _ BH.out
            simp only [Nat.zero_mul, Nat.add_zero] at z0
            have z1 := ZC1.out _ BH.out
            simp only [Nat.zero_mul, Nat.add_zero] at z1
            have z2 := ZC2.out _ BH.out
            simp only [Nat.zero_mul, Nat.add_zero] at z2
            have z3 := ZC3.out _ BH.out
            simp only [Nat.zero_mul, Nat.add_zero] at z3
            have z4 := ZC4.out _ BH.out
            simp only [Nat.zero_mul, Nat.add_zero] at z4
            have z5 := ZC5.out _ BH.out
            simp only [Nat.zero_mul, Nat.add_zero] at z5
            have z6 := ZC6.out _ BH.out
            simp only [Nat.zero_mul, Nat.add_zero] at z6
            have z7 := ZC7.out _ BH.out
            simp only [Nat.zero_mul, Nat.add_zero] at z7
            have z8 := ZC8.out _ BH.out
            simp only [Nat.zero_mul, Nat.add_zero] at z8
            have z9 := ZC9.out _ BH.out
            simp only [Nat.zero_mul, Nat.add_zero] at z9
            have z10 := ZC10.out _ BH.out
            simp only [Nat.zero_mul, Nat.add_zero] at z10
            have z11 := ZC11.out _ BH.out
            simp only [Nat.zero_mul, Nat.add_zero] at z11
            go_wp2
            refine wp_region_noPanic ?_
            refine wp_region_held_drew (S := (fun w' => w'.cell? ⟨b, off, none⟩ = some (.int .i64 c.pg.pool) ∧ w'.cell? ⟨b, off + 1, none⟩ = some (.int .i64 c.pg.no) ∧ w'.cell? ⟨b, off + 2, none⟩ = some (.int .i64 c.seen) ∧ w'.cell? ⟨b, off + 3, none⟩ = some (.int .i64 c.started) ∧ w'.cell? ⟨b, off + 4, none⟩ = some (.int .i64 c.tail.epoch) ∧ w'.cell? ⟨b, off + 5, none⟩ = some (.int .i64 c.tail.seq) ∧ w'.cell? ⟨b, off + 6, none⟩ = some (.slice a0_6 c.base.length c0_6) ∧ w'.cell? ⟨b, off + 7, none⟩ = some (.slice a0_7 c.clients.length c0_7) ∧ w'.cell? ⟨b, off + 8, none⟩ = some (.slice a0_8 c.log.length c0_8) ∧ w'.cell? ⟨b, off + 9, none⟩ = some (.int .i64 c.firm.epoch) ∧ w'.cell? ⟨b, off + 10, none⟩ = some (.int .i64 c.firm.seq) ∧ w'.cell? ⟨b, off + 11, none⟩ = some (.slice a0_11 c.chunks.length c0_11))) (by kernel_rfl) ?_ (fun hHeld => ?_)
            · go_keep
            refine tj 0 rfl ?_
            try simp only [Act.put, ya, yb, yc, yd, ye, yf]
            refine tj 1 rfl ?_
            try simp only [Act.put, ya, yb, yc, yd, ye, yf]
            refine tj 2 rfl ?_
            try simp only [Act.put, ya, yb, yc, yd, ye, yf]
            refine tj 3 rfl ?_
            try simp only [Act.put, ya, yb, yc, yd, ye, yf]
            refine wpAnyH_ready (rs := [4]) (by kernel_rfl) (by simp) ?_
            refine AllReadyH.cons rfl (fun K hK => ?_) AllReadyH.nil
            go_simp
            (go_at_call 8; refine (C0.out _ (by first | exact BH.out | exact BH.out.drew)).mono ?_; rintro e9 w9 ⟨rfl, b9⟩; (try replace b9 := undrewX b9); have BH := Lib.hid (chainX _ BH.out b9); have z0 := ZC0.out _ BH.out; simp only [Nat.zero_mul, Nat.add_zero] at z0; have z1 := ZC1.out _ BH.out; simp only [Nat.zero_mul, Nat.add_zero] at z1; have z2 := ZC2.out _ BH.out; simp only [Nat.zero_mul, Nat.add_zero] at z2; have z3 := ZC3.out _ BH.out; simp only [Nat.zero_mul, Nat.add_zero] at z3; have z4 := ZC4.out _ BH.out; simp only [Nat.zero_mul, Nat.add_zero] at z4; have z5 := ZC5.out _ BH.out; simp only [Nat.zero_mul, Nat.add_zero] at z5; have z6 := ZC6.out _ BH.out; simp only [Nat.zero_mul, Nat.add_zero] at z6; have z7 := ZC7.out _ BH.out; simp only [Nat.zero_mul, Nat.add_zero] at z7; have z8 := ZC8.out _ BH.out; simp only [Nat.zero_mul, Nat.add_zero] at z8; have z9 := ZC9.out _ BH.out; simp only [Nat.zero_mul, Nat.add_zero] at z9; have z10 := ZC10.out _ BH.out; simp only [Nat.zero_mul, Nat.add_zero] at z10; have z11 := ZC11.out _ BH.out; simp only [Nat.zero_mul, Nat.add_zero] at z11; clear b9)
            (try go_wp2_with fail)
            refine hK.out _ _ ?_ (fun hHeld4 => ?_)
            · (try dsimp only); go_keep
            clear hK K
            try simp only [Act.put, ya, yb, yc, yd, ye, yf]
            refine tj 5 rfl ?_
            try simp only [Act.put, ya, yb, yc, yd, ye, yf]
            refine tj 6 rfl ?_
            try simp only [Act.put, ya, yb, yc, yd, ye, yf]
            refine tk 7 (v := undef) rfl (Or.inr ⟨by kernel_rfl, rfl⟩) (by assumption) ?_
            try simp only [Act.put, ya, yb, yc, yd, ye, yf]
            refine tk 8 (v := undef) rfl (Or.inr ⟨by kernel_rfl, rfl⟩) (by assumption) ?_
            try simp only [Act.put, ya, yb, yc, yd, ye, yf]
            refine tk 9 (v := undef) rfl (Or.inr ⟨by kernel_rfl, rfl⟩) (by assumption) ?_
            try simp only [Act.put, ya, yb, yc, yd, ye, yf]
            refine tk 10 (v := undef) rfl (Or.inr ⟨by kernel_rfl, rfl⟩) (by assumption) ?_
            try simp only [Act.put, ya, yb, yc, yd, ye, yf]
            refine tk 11 (v := undef) rfl (Or.inr ⟨by kernel_rfl, rfl⟩) (by assumption) ?_
            try simp only [Act.put, ya, yb, yc, yd, ye, yf]
            refine tk 12 (v := undef) rfl (Or.inr ⟨by kernel_rfl, rfl⟩) (by assumption) ?_
            try simp only [Act.put, ya, yb, yc, yd, ye, yf]
            refine tk 13 (v := undef) rfl (Or.inr ⟨by kernel_rfl, rfl⟩) (by assumption) ?_
            try simp only [Act.put, ya, yb, yc, yd, ye, yf]
            refine tk 14 (v := undef) rfl (Or.inr ⟨by kernel_rfl, rfl⟩) (by assumption) ?_
            try simp only [Act.put, ya, yb, yc, yd, ye, yf]
            refine tk 15 (v := undef) rfl (Or.inr ⟨by kernel_rfl, rfl⟩) (by assumption) ?_
            try simp only [Act.put, ya, yb, yc, yd, ye, yf]
            refine tk 16 (v := undef) rfl (Or.inr ⟨by kernel_rfl, rfl⟩) (by assumption) ?_
            try simp only [Act.put, ya, yb, yc, yd, ye, yf]
            refine tk 17 (v := undef) rfl (Or.inr ⟨by kernel_rfl, rfl⟩) (by assumption) ?_
            try simp only [Act.put, ya, yb, yc, yd, ye, yf]
            refine tk 18 (v := undef) rfl (Or.inr ⟨by kernel_rfl, rfl⟩) (by assumption) ?_
            try simp only [Act.put, ya, yb, yc, yd, ye, yf]
            refine tk 19 (v := undef) rfl (Or.inr ⟨by kernel_rfl, rfl⟩) (by assumption) ?_
            try simp only [Act.put, ya, yb, yc, yd, ye, yf]
            refine tk 20 (v := undef) rfl (Or.inr ⟨by kernel_rfl, rfl⟩) (by assumption) ?_
            try simp only [Act.put, ya, yb, yc, yd, ye, yf]
            refine tk 21 (v := undef) rfl (Or.inr ⟨by kernel_rfl, rfl⟩) (by assumption) ?_
            try simp only [Act.put, ya, yb, yc, yd, ye, yf]
            refine tk 22 (v := undef) rfl (Or.inr ⟨by kernel_rfl, rfl⟩) (by assumption) ?_
            try simp only [Act.put, ya, yb, yc, yd, ye, yf]
            refine tk 23 (v := undef) rfl (Or.inr ⟨by kernel_rfl, rfl⟩) (by assumption) ?_
            try simp only [Act.put, ya, yb, yc, yd, ye, yf]
            refine tj 24 rfl ?_
            try simp only [Act.put, ya, yb, yc, yd, ye, yf]
            refine wpAnyH_done (by kernel_rfl) ?_ _
            refine NoPanic.normal ?_
            go_wp2
            go_ret
            exact IffB.no NO.out (chainX w LW.out (chainX w BF.out BH.out))
          · skip
            have HV : (idB p) c = true := by rw [HP]; try rfl
            clear NOW HP
            have H3 := Lib.hid (YES.out HV)
            clear YES HV
            have z0 := ZC0.out _ BH.out
            simp only [Nat.zero_mul, Nat.add_zero] at z0
            have z1 := ZC1.out _ BH.out
            simp only [Nat.zero_mul, Nat.add_zero] at z1
            have z2 := ZC2.out _ BH.out
            simp only [Nat.zero_mul, Nat.add_zero] at z2
            have z3 := ZC3.out _ BH.out
            simp only [Nat.zero_mul, Nat.add_zero] at z3
            have z4 := ZC4.out _ BH.out
            simp only [Nat.zero_mul, Nat.add_zero] at z4
            have z5 := ZC5.out _ BH.out
            simp only [Nat.zero_mul, Nat.add_zero] at z5
            have z6 := ZC6.out _ BH.out
            simp only [Nat.zero_mul, Nat.add_zero] at z6
            have z7 := ZC7.out _ BH.out
            simp only [Nat.zero_mul, Nat.add_zero] at z7
            have z8 := ZC8.out _ BH.out
            simp only [Nat.zero_mul, Nat.add_zero] at z8
            have z9 := ZC9.out _ BH.out
            simp only [Nat.zero_mul, Nat.add_zero] at z9
            have z10 := ZC10.out _ BH.out
            simp only [Nat.zero_mul, Nat.add_zero] at z10
            have z11 := ZC11.out _ BH.out
            simp only [Nat.zero_mul, Nat.add_zero] at z11
            go_wp2
            refine wp_region_noPanic ?_
            refine wp_region_held_drew (S := (fun w' => w'.cell? ⟨b, off, none⟩ = some (.int .i64 c.pg.pool) ∧ w'.cell? ⟨b, off + 1, none⟩ = some (.int .i64 c.pg.no) ∧ w'.cell? ⟨b, off + 2, none⟩ = some (.int .i64 c.seen) ∧ w'.cell? ⟨b, off + 3, none⟩ = some (.int .i64 c.started) ∧ w'.cell? ⟨b, off + 4, none⟩ = some (.int .i64 c.tail.epoch) ∧ w'.cell? ⟨b, off + 5, none⟩ = some (.int .i64 c.tail.seq) ∧ w'.cell? ⟨b, off + 6, none⟩ = some (.slice a0_6 c.base.length c0_6) ∧ w'.cell? ⟨b, off + 7, none⟩ = some (.slice a0_7 c.clients.length c0_7) ∧ w'.cell? ⟨b, off + 8, none⟩ = some (.slice a0_8 c.log.length c0_8) ∧ w'.cell? ⟨b, off + 9, none⟩ = some (.int .i64 c.firm.epoch) ∧ w'.cell? ⟨b, off + 10, none⟩ = some (.int .i64 c.firm.seq) ∧ w'.cell? ⟨b, off + 11, none⟩ = some (.slice a0_11 c.chunks.length c0_11))) (by kernel_rfl) ?_ (fun hHeld => ?_)
            · go_keep
            refine tj 0 rfl ?_
            try simp only [Act.put, ya, yb, yc, yd, ye, yf]
            refine tj 1 rfl ?_
            try simp only [Act.put, ya, yb, yc, yd, ye, yf]
            refine tj 2 rfl ?_
            try simp only [Act.put, ya, yb, yc, yd, ye, yf]
            refine tj 3 rfl ?_
            try simp only [Act.put, ya, yb, yc, yd, ye, yf]
            refine wpAnyH_ready (rs := [4]) (by kernel_rfl) (by simp) ?_
            refine AllReadyH.cons rfl (fun K hK => ?_) AllReadyH.nil
            go_simp
            (go_at_call 8; refine (C0.out _ (by first | exact BH.out | exact BH.out.drew)).mono ?_; rintro e9 w9 ⟨rfl, b9⟩; (try replace b9 := undrewX b9); have BH := Lib.hid (chainX _ BH.out b9); have z0 := ZC0.out _ BH.out; simp only [Nat.zero_mul, Nat.add_zero] at z0; have z1 := ZC1.out _ BH.out; simp only [Nat.zero_mul, Nat.add_zero] at z1; have z2 := ZC2.out _ BH.out; simp only [Nat.zero_mul, Nat.add_zero] at z2; have z3 := ZC3.out _ BH.out; simp only [Nat.zero_mul, Nat.add_zero] at z3; have z4 := ZC4.out _ BH.out; simp only [Nat.zero_mul, Nat.add_zero] at z4; have z5 := ZC5.out _ BH.out; simp only [Nat.zero_mul, Nat.add_zero] at z5; have z6 := ZC6.out _ BH.out; simp only [Nat.zero_mul, Nat.add_zero] at z6; have z7 := ZC7.out _ BH.out; simp only [Nat.zero_mul, Nat.add_zero] at z7; have z8 := ZC8.out _ BH.out; simp only [Nat.zero_mul, Nat.add_zero] at z8; have z9 := ZC9.out _ BH.out; simp only [Nat.zero_mul, Nat.add_zero] at z9; have z10 := ZC10.out _ BH.out; simp only [Nat.zero_mul, Nat.add_zero] at z10; have z11 := ZC11.out _ BH.out; simp only [Nat.zero_mul, Nat.add_zero] at z11; clear b9)
            (try go_wp2_with fail)
            refine hK.out _ _ ?_ (fun hHeld4 => ?_)
            · (try dsimp only); go_keep
            clear hK K
            try simp only [Act.put, ya, yb, yc, yd, ye, yf]
            refine tj 5 rfl ?_
            try simp only [Act.put, ya, yb, yc, yd, ye, yf]
            refine tj 6 rfl ?_
            try simp only [Act.put, ya, yb, yc, yd, ye, yf]
            refine tj 7 rfl ?_
            try simp only [Act.put, ya, yb, yc, yd, ye, yf]
            refine tj 8 rfl ?_
            try simp only [Act.put, ya, yb, yc, yd, ye, yf]
            refine tj 9 rfl ?_
            try simp only [Act.put, ya, yb, yc, yd, ye, yf]
            refine tk 10 (v := undef) rfl (Or.inr ⟨by kernel_rfl, rfl⟩) (by assumption) ?_
            try simp only [Act.put, ya, yb, yc, yd, ye, yf]
            refine tk 11 (v := undef) rfl (Or.inr ⟨by kernel_rfl, rfl⟩) (by assumption) ?_
            try simp only [Act.put, ya, yb, yc, yd, ye, yf]
            refine tk 12 (v := undef) rfl (Or.inr ⟨by kernel_rfl, rfl⟩) (by assumption) ?_
            try simp only [Act.put, ya, yb, yc, yd, ye, yf]
            refine tk 13 (v := undef) rfl (Or.inr ⟨by kernel_rfl, rfl⟩) (by assumption) ?_
            try simp only [Act.put, ya, yb, yc, yd, ye, yf]
            refine tk 14 (v := undef) rfl (Or.inr ⟨by kernel_rfl, rfl⟩) (by assumption) ?_
            try simp only [Act.put, ya, yb, yc, yd, ye, yf]
            refine tk 15 (v := undef) rfl (Or.inr ⟨by kernel_rfl, rfl⟩) (by assumption) ?_
            try simp only [Act.put, ya, yb, yc, yd, ye, yf]
            refine tk 16 (v := undef) rfl (Or.inr ⟨by kernel_rfl, rfl⟩) (by assumption) ?_
            try simp only [Act.put, ya, yb, yc, yd, ye, yf]
            refine tk 17 (v := undef) rfl (Or.inr ⟨by kernel_rfl, rfl⟩) (by assumption) ?_
            try simp only [Act.put, ya, yb, yc, yd, ye, yf]
            refine tk 18 (v := undef) rfl (Or.inr ⟨by kernel_rfl, rfl⟩) (by assumption) ?_
            try simp only [Act.put, ya, yb, yc, yd, ye, yf]
            refine tk 19 (v := undef) rfl (Or.inr ⟨by kernel_rfl, rfl⟩) (by assumption) ?_
            try simp only [Act.put, ya, yb, yc, yd, ye, yf]
            refine tk 20 (v := undef) rfl (Or.inr ⟨by kernel_rfl, rfl⟩) (by assumption) ?_
            try simp only [Act.put, ya, yb, yc, yd, ye, yf]
            refine tk 21 (v := undef) rfl (Or.inr ⟨by kernel_rfl, rfl⟩) (by assumption) ?_
            try simp only [Act.put, ya, yb, yc, yd, ye, yf]
            refine tk 22 (v := undef) rfl (Or.inr ⟨by kernel_rfl, rfl⟩) (by assumption) ?_
            try simp only [Act.put, ya, yb, yc, yd, ye, yf]
            refine tj 23 rfl ?_
            try simp only [Act.put, ya, yb, yc, yd, ye, yf]
            refine tj 24 rfl ?_
            try simp only [Act.put, ya, yb, yc, yd, ye, yf]
            refine wpAnyH_done (by kernel_rfl) ?_ _
            refine NoPanic.normal ?_
            go_wp2
            have BZ := Lib.hid (chainX w BF.out BH.out)
            go_roundw
            case rel => exact ⟨0 + 1, by omega, by omega, by go_num, H5.out, H3.out, BZ.out⟩
            case measure => simp [intOf]; omega
        · obtain ⟨j, rfl⟩ : ∃ j, k = j + 1 := ⟨k - 1, by omega⟩
          obtain ⟨x, hpx⟩ := GET.out j (by omega)
          obtain ⟨b', off', cs', e', -, -, hr2, hcc2⟩ := (RH.out.below hw).at' hpx
          rw [ea] at e'
          obtain ⟨rfl, rfl⟩ : b = b' ∧ off = off' := by simpa using e'
          obtain ⟨a1_6, c1_6, a1_7, c1_7, a1_8, c1_8, a1_11, c1_11, rfl, f1_0, f1_1, f1_2, f1_3, f1_4, f1_5, f1_6, g1_6, f1_7, g1_7, f1_8, g1_8, f1_9, f1_10, f1_11, g1_11⟩ := shape_PgState hr2
          have PC0 := Lib.hid (fun w' (q : Below wr.heap.size wr w') => (q.cell (p := ⟨b, off + j * 12, none⟩) (Nat.lt_of_lt_of_le hB LE.size)).trans ((LE.cell (p := ⟨b, off + j * 12, none⟩) hB).trans (show wr.cell? ⟨b, off + j * 12, none⟩ = some (.int .i64 x.pg.pool) from hcc2 0 _ rfl)))
          have y0 : wr.cell? ⟨b, off + j * 12, none⟩ = some (.int .i64 x.pg.pool) := hcc2 0 _ rfl
          have PC1 := Lib.hid (fun w' (q : Below wr.heap.size wr w') => (q.cell (p := ⟨b, off + j * 12 + 1, none⟩) (Nat.lt_of_lt_of_le hB LE.size)).trans ((LE.cell (p := ⟨b, off + j * 12 + 1, none⟩) hB).trans (show wr.cell? ⟨b, off + j * 12 + 1, none⟩ = some (.int .i64 x.pg.no) from hcc2 1 _ rfl)))
          have y1 : wr.cell? ⟨b, off + j * 12 + 1, none⟩ = some (.int .i64 x.pg.no) := hcc2 1 _ rfl
          have CQ := Lib.hid (fun w' (q : Below wr.heap.size wr w') => specPgLess x c w')
          have NOP := Lib.hid (fun (hno : sPLt x c = false) => (show ¬ SeqP 8 sPLt (idB p) l from fun hS => by have := hS.2.1 j x c hpx HX.out; rw [hno] at this; cases this))
          have H4 := Lib.hid (fun (hok : sPLt x c = true) => (show ∀ (i : Nat) (x y : DPgState), i + 1 < j + 1 + 1 → l[i]? = some x → l[i + 1]? = some y → sPLt x y = true from fun i x' y' hi h1 h2 => by
            by_cases e : i = j
            · subst e; rw [hpx] at h1; rw [HX.out] at h2; cases h1; cases h2; exact hok
            · exact H1.out i x' y' (by omega) h1 h2))
          have j0 : (0 : Int) ≤ (j : Int) := by omega
          have j1 : (j : Int) < (n : Int) := by omega
          have WK : IntKind.i64.wrap (((j + 1 : Nat) : Int) - 1) = (j : Int) := by rw [IntKind.wrap_i64]; omega
          have WK2 : IntKind.i64.wrap (j : Int) = (j : Int) := by rw [IntKind.wrap_i64]; omega
          have k2 : (0 : Int) ≤ (j : Int) + 1 := by omega
          have k3 : (0 : Int) < (j : Int) + 1 := by omega
          have k1 : ((j + 1 : Nat) : Int) < (n : Int) := by omega
          generalize hbq : sPLt x c = bq at *
          clear hcc hr hx hw LE H1 H2 hpx hr2 hcc2
          subst ea
          cases b0
          · skip
            have NO := Lib.hid (NOW.out (by rw [HP]; try simp))
            clear NOW YES HP
            (try clear NOP)
            (try clear H4)
            (try clear H5)
            have z0 := ZC0.out _ BH.out
            have z1 := ZC1.out _ BH.out
            have z2 := ZC2.out _ BH.out
            have z3 := ZC3.out _ BH.out
            have z4 := ZC4.out _ BH.out
            have z5 := ZC5.out _ BH.out
            have z6 := ZC6.out _ BH.out
            have z7 := ZC7.out _ BH.out
            have z8 := ZC8.out _ BH.out
            have z9 := ZC9.out _ BH.out
            have z10 := ZC10.out _ BH.out
            have z11 := ZC11.out _ BH.out
            have p0 := PC0.out _ BH.out
            have p1 := PC1.out _ BH.out
            go_wp2
            refine wp_region_noPanic ?_
            refine wp_region_held_drew (S := (fun w' => w'.cell? ⟨b, off + (j + 1) * 12, none⟩ = some (.int .i64 c.pg.pool) ∧ w'.cell? ⟨b, off + (j + 1) * 12 + 1, none⟩ = some (.int .i64 c.pg.no) ∧ w'.cell? ⟨b, off + (j + 1) * 12 + 2, none⟩ = some (.int .i64 c.seen) ∧ w'.cell? ⟨b, off + (j + 1) * 12 + 3, none⟩ = some (.int .i64 c.started) ∧ w'.cell? ⟨b, off + (j + 1) * 12 + 4, none⟩ = some (.int .i64 c.tail.epoch) ∧ w'.cell? ⟨b, off + (j + 1) * 12 + 5, none⟩ = some (.int .i64 c.tail.seq) ∧ w'.cell? ⟨b, off + (j + 1) * 12 + 6, none⟩ = some (.slice a0_6 c.base.length c0_6) ∧ w'.cell? ⟨b, off + (j + 1) * 12 + 7, none⟩ = some (.slice a0_7 c.clients.length c0_7) ∧ w'.cell? ⟨b, off + (j + 1) * 12 + 8, none⟩ = some (.slice a0_8 c.log.length c0_8) ∧ w'.cell? ⟨b, off + (j + 1) * 12 + 9, none⟩ = some (.int .i64 c.firm.epoch) ∧ w'.cell? ⟨b, off + (j + 1) * 12 + 10, none⟩ = some (.int .i64 c.firm.seq) ∧ w'.cell? ⟨b, off + (j + 1) * 12 + 11, none⟩ = some (.slice a0_11 c.chunks.length c0_11) ∧ w'.cell? ⟨b, off + j * 12, none⟩ = some (.int .i64 x.pg.pool) ∧ w'.cell? ⟨b, off + j * 12 + 1, none⟩ = some (.int .i64 x.pg.no))) (by kernel_rfl) ?_ (fun hHeld => ?_)
            · go_keep
            refine tj 0 rfl ?_
            try simp only [Act.put, ya, yb, yc, yd, ye, yf]
            refine tj 1 rfl ?_
            try simp only [Act.put, ya, yb, yc, yd, ye, yf]
            refine tj 2 rfl ?_
            try simp only [Act.put, ya, yb, yc, yd, ye, yf]
            refine tj 3 rfl ?_
            try simp only [Act.put, ya, yb, yc, yd, ye, yf]
            refine wpAnyH_ready (rs := [4]) (by kernel_rfl) (by simp) ?_
            refine AllReadyH.cons rfl (fun K hK => ?_) AllReadyH.nil
            go_simp
            (go_at_call 8; refine (C0.out _ (by first | exact BH.out | exact BH.out.drew)).mono ?_; rintro e9 w9 ⟨rfl, b9⟩; (try replace b9 := undrewX b9); have BH := Lib.hid (chainX _ BH.out b9); have z0 := ZC0.out _ BH.out; have z1 := ZC1.out _ BH.out; have z2 := ZC2.out _ BH.out; have z3 := ZC3.out _ BH.out; have z4 := ZC4.out _ BH.out; have z5 := ZC5.out _ BH.out; have z6 := ZC6.out _ BH.out; have z7 := ZC7.out _ BH.out; have z8 := ZC8.out _ BH.out; have z9 := ZC9.out _ BH.out; have z10 := ZC10.out _ BH.out; have z11 := ZC11.out _ BH.out; have p0 := PC0.out _ BH.out; have p1 := PC1.out _ BH.out; clear b9)
            (try go_wp2_with fail)
            refine hK.out _ _ ?_ (fun hHeld4 => ?_)
            · (try dsimp only); go_keep
            clear hK K
            try simp only [Act.put, ya, yb, yc, yd, ye, yf]
            refine tj 5 rfl ?_
            try simp only [Act.put, ya, yb, yc, yd, ye, yf]
            refine tj 6 rfl ?_
            try simp only [Act.put, ya, yb, yc, yd, ye, yf]
            refine tk 7 (v := undef) rfl (Or.inr ⟨by kernel_rfl, rfl⟩) (by assumption) ?_
            try simp only [Act.put, ya, yb, yc, yd, ye, yf]
            refine tk 8 (v := undef) rfl (Or.inr ⟨by kernel_rfl, rfl⟩) (by assumption) ?_
            try simp only [Act.put, ya, yb, yc, yd, ye, yf]
            refine tk 9 (v := undef) rfl (Or.inr ⟨by kernel_rfl, rfl⟩) (by assumption) ?_
            try simp only [Act.put, ya, yb, yc, yd, ye, yf]
            refine tk 10 (v := undef) rfl (Or.inr ⟨by kernel_rfl, rfl⟩) (by assumption) ?_
            try simp only [Act.put, ya, yb, yc, yd, ye, yf]
            refine tk 11 (v := undef) rfl (Or.inr ⟨by kernel_rfl, rfl⟩) (by assumption) ?_
            try simp only [Act.put, ya, yb, yc, yd, ye, yf]
            refine tk 12 (v := undef) rfl (Or.inr ⟨by kernel_rfl, rfl⟩) (by assumption) ?_
            try simp only [Act.put, ya, yb, yc, yd, ye, yf]
            refine tk 13 (v := undef) rfl (Or.inr ⟨by kernel_rfl, rfl⟩) (by assumption) ?_
            try simp only [Act.put, ya, yb, yc, yd, ye, yf]
            refine tk 14 (v := undef) rfl (Or.inr ⟨by kernel_rfl, rfl⟩) (by assumption) ?_
            try simp only [Act.put, ya, yb, yc, yd, ye, yf]
            refine tk 15 (v := undef) rfl (Or.inr ⟨by kernel_rfl, rfl⟩) (by assumption) ?_
            try simp only [Act.put, ya, yb, yc, yd, ye, yf]
            refine tk 16 (v := undef) rfl (Or.inr ⟨by kernel_rfl, rfl⟩) (by assumption) ?_
            try simp only [Act.put, ya, yb, yc, yd, ye, yf]
            refine tk 17 (v := undef) rfl (Or.inr ⟨by kernel_rfl, rfl⟩) (by assumption) ?_
            try simp only [Act.put, ya, yb, yc, yd, ye, yf]
            refine tk 18 (v := undef) rfl (Or.inr ⟨by kernel_rfl, rfl⟩) (by assumption) ?_
            try simp only [Act.put, ya, yb, yc, yd, ye, yf]
            refine tk 19 (v := undef) rfl (Or.inr ⟨by kernel_rfl, rfl⟩) (by assumption) ?_
            try simp only [Act.put, ya, yb, yc, yd, ye, yf]
            refine tk 20 (v := undef) rfl (Or.inr ⟨by kernel_rfl, rfl⟩) (by assumption) ?_
            try simp only [Act.put, ya, yb, yc, yd, ye, yf]
            refine tk 21 (v := undef) rfl (Or.inr ⟨by kernel_rfl, rfl⟩) (by assumption) ?_
            try simp only [Act.put, ya, yb, yc, yd, ye, yf]
            refine tk 22 (v := undef) rfl (Or.inr ⟨by kernel_rfl, rfl⟩) (by assumption) ?_
            try simp only [Act.put, ya, yb, yc, yd, ye, yf]
            refine tk 23 (v := undef) rfl (Or.inr ⟨by kernel_rfl, rfl⟩) (by assumption) ?_
            try simp only [Act.put, ya, yb, yc, yd, ye, yf]
            refine tj 24 rfl ?_
            try simp only [Act.put, ya, yb, yc, yd, ye, yf]
            refine wpAnyH_done (by kernel_rfl) ?_ _
            refine NoPanic.normal ?_
            go_wp2
            go_ret
            exact IffB.no NO.out (chainX w LW.out (chainX w BF.out BH.out))
          · skip
            cases bq
            · skip
              have NO := Lib.hid (NOP.out rfl)
              clear NOW YES HP
              (try clear NOP)
              (try clear H4)
              (try clear H5)
              have z0 := ZC0.out _ BH.out
              have z1 := ZC1.out _ BH.out
              have z2 := ZC2.out _ BH.out
              have z3 := ZC3.out _ BH.out
              have z4 := ZC4.out _ BH.out
              have z5 := ZC5.out _ BH.out
              have z6 := ZC6.out _ BH.out
              have z7 := ZC7.out _ BH.out
              have z8 := ZC8.out _ BH.out
              have z9 := ZC9.out _ BH.out
              have z10 := ZC10.out _ BH.out
              have z11 := ZC11.out _ BH.out
              have p0 := PC0.out _ BH.out
              have p1 := PC1.out _ BH.out
              go_wp2
              refine wp_region_noPanic ?_
              refine wp_region_held_drew (S := (fun w' => w'.cell? ⟨b, off + (j + 1) * 12, none⟩ = some (.int .i64 c.pg.pool) ∧ w'.cell? ⟨b, off + (j + 1) * 12 + 1, none⟩ = some (.int .i64 c.pg.no) ∧ w'.cell? ⟨b, off + (j + 1) * 12 + 2, none⟩ = some (.int .i64 c.seen) ∧ w'.cell? ⟨b, off + (j + 1) * 12 + 3, none⟩ = some (.int .i64 c.started) ∧ w'.cell? ⟨b, off + (j + 1) * 12 + 4, none⟩ = some (.int .i64 c.tail.epoch) ∧ w'.cell? ⟨b, off + (j + 1) * 12 + 5, none⟩ = some (.int .i64 c.tail.seq) ∧ w'.cell? ⟨b, off + (j + 1) * 12 + 6, none⟩ = some (.slice a0_6 c.base.length c0_6) ∧ w'.cell? ⟨b, off + (j + 1) * 12 + 7, none⟩ = some (.slice a0_7 c.clients.length c0_7) ∧ w'.cell? ⟨b, off + (j + 1) * 12 + 8, none⟩ = some (.slice a0_8 c.log.length c0_8) ∧ w'.cell? ⟨b, off + (j + 1) * 12 + 9, none⟩ = some (.int .i64 c.firm.epoch) ∧ w'.cell? ⟨b, off + (j + 1) * 12 + 10, none⟩ = some (.int .i64 c.firm.seq) ∧ w'.cell? ⟨b, off + (j + 1) * 12 + 11, none⟩ = some (.slice a0_11 c.chunks.length c0_11) ∧ w'.cell? ⟨b, off + j * 12, none⟩ = some (.int .i64 x.pg.pool) ∧ w'.cell? ⟨b, off + j * 12 + 1, none⟩ = some (.int .i64 x.pg.no))) (by kernel_rfl) ?_ (fun hHeld => ?_)
              · go_keep
              refine tj 0 rfl ?_
              try simp only [Act.put, ya, yb, yc, yd, ye, yf]
              refine tj 1 rfl ?_
              try simp only [Act.put, ya, yb, yc, yd, ye, yf]
              refine tj 2 rfl ?_
              try simp only [Act.put, ya, yb, yc, yd, ye, yf]
              refine tj 3 rfl ?_
              try simp only [Act.put, ya, yb, yc, yd, ye, yf]
              refine wpAnyH_ready (rs := [4]) (by kernel_rfl) (by simp) ?_
              refine AllReadyH.cons rfl (fun K hK => ?_) AllReadyH.nil
              go_simp
              (go_at_call 8; refine (C0.out _ (by first | exact BH.out | exact BH.out.drew)).mono ?_; rintro e9 w9 ⟨rfl, b9⟩; (try replace b9 := undrewX b9); have BH := Lib.hid (chainX _ BH.out b9); have z0 := ZC0.out _ BH.out; have z1 := ZC1.out _ BH.out; have z2 := ZC2.out _ BH.out; have z3 := ZC3.out _ BH.out; have z4 := ZC4.out _ BH.out; have z5 := ZC5.out _ BH.out; have z6 := ZC6.out _ BH.out; have z7 := ZC7.out _ BH.out; have z8 := ZC8.out _ BH.out; have z9 := ZC9.out _ BH.out; have z10 := ZC10.out _ BH.out; have z11 := ZC11.out _ BH.out; have p0 := PC0.out _ BH.out; have p1 := PC1.out _ BH.out; clear b9)
              (try go_wp2_with fail)
              refine hK.out _ _ ?_ (fun hHeld4 => ?_)
              · (try dsimp only); go_keep
              clear hK K
              try simp only [Act.put, ya, yb, yc, yd, ye, yf]
              refine tj 5 rfl ?_
              try simp only [Act.put, ya, yb, yc, yd, ye, yf]
              refine tj 6 rfl ?_
              try simp only [Act.put, ya, yb, yc, yd, ye, yf]
              refine tj 7 rfl ?_
              try simp only [Act.put, ya, yb, yc, yd, ye, yf]
              refine tj 8 rfl ?_
              try simp only [Act.put, ya, yb, yc, yd, ye, yf]
              refine tj 9 rfl ?_
              try simp only [Act.put, ya, yb, yc, yd, ye, yf]
              refine tj 10 rfl ?_
              try simp only [Act.put, ya, yb, yc, yd, ye, yf]
              refine tj 11 rfl ?_
              try simp only [Act.put, ya, yb, yc, yd, ye, yf]
              refine tj 12 rfl ?_
              try simp only [Act.put, ya, yb, yc, yd, ye, yf]
              refine tj 13 rfl ?_
              try simp only [Act.put, ya, yb, yc, yd, ye, yf]
              refine tj 14 rfl ?_
              try simp only [Act.put, ya, yb, yc, yd, ye, yf]
              refine tj 15 rfl ?_
              try simp only [Act.put, ya, yb, yc, yd, ye, yf]
              refine tj 16 rfl ?_
              try simp only [Act.put, ya, yb, yc, yd, ye, yf]
              refine tj 17 rfl ?_
              try simp only [Act.put, ya, yb, yc, yd, ye, yf]
              refine tj 18 rfl ?_
              try simp only [Act.put, ya, yb, yc, yd, ye, yf]
              refine tj 19 rfl ?_
              try simp only [Act.put, ya, yb, yc, yd, ye, yf]
              refine tj 20 rfl ?_
              try simp only [Act.put, ya, yb, yc, yd, ye, yf]
              refine wpAnyH_ready (rs := [21]) (by kernel_rfl) (by simp) ?_
              refine AllReadyH.cons rfl (fun K hK => ?_) AllReadyH.nil
              go_simp
              (go_at_call 103; refine (CQ.out _ (by first | exact BH.out | exact BH.out.drew)).mono ?_; rintro e9 w9 ⟨rfl, b9⟩; (try replace b9 := undrewX b9); have BH := Lib.hid (chainX _ BH.out b9); have z0 := ZC0.out _ BH.out; have z1 := ZC1.out _ BH.out; have z2 := ZC2.out _ BH.out; have z3 := ZC3.out _ BH.out; have z4 := ZC4.out _ BH.out; have z5 := ZC5.out _ BH.out; have z6 := ZC6.out _ BH.out; have z7 := ZC7.out _ BH.out; have z8 := ZC8.out _ BH.out; have z9 := ZC9.out _ BH.out; have z10 := ZC10.out _ BH.out; have z11 := ZC11.out _ BH.out; have p0 := PC0.out _ BH.out; have p1 := PC1.out _ BH.out; clear b9)
              (try go_wp2_with fail)
              refine hK.out _ _ ?_ (fun hHeld21 => ?_)
              · (try dsimp only); go_keep
              clear hK K
              try simp only [Act.put, ya, yb, yc, yd, ye, yf]
              refine tj 22 rfl ?_
              try simp only [Act.put, ya, yb, yc, yd, ye, yf]
              refine tj 23 rfl ?_
              try simp only [Act.put, ya, yb, yc, yd, ye, yf]
              refine tj 24 rfl ?_
              try simp only [Act.put, ya, yb, yc, yd, ye, yf]
              refine wpAnyH_done (by kernel_rfl) ?_ _
              refine NoPanic.normal ?_
              go_wp2
              go_ret
              exact IffB.no NO.out (chainX w LW.out (chainX w BF.out BH.out))
            · skip
              have H5 := Lib.hid (H4.out rfl)
              clear NOP H4
              have HV : (idB p) c = true := by rw [HP]; try rfl
              clear NOW HP
              have H3 := Lib.hid (YES.out HV)
              clear YES HV
              have z0 := ZC0.out _ BH.out
              have z1 := ZC1.out _ BH.out
              have z2 := ZC2.out _ BH.out
              have z3 := ZC3.out _ BH.out
              have z4 := ZC4.out _ BH.out
              have z5 := ZC5.out _ BH.out
              have z6 := ZC6.out _ BH.out
              have z7 := ZC7.out _ BH.out
              have z8 := ZC8.out _ BH.out
              have z9 := ZC9.out _ BH.out
              have z10 := ZC10.out _ BH.out
              have z11 := ZC11.out _ BH.out
              have p0 := PC0.out _ BH.out
              have p1 := PC1.out _ BH.out
              go_wp2
              refine wp_region_noPanic ?_
              refine wp_region_held_drew (S := (fun w' => w'.cell? ⟨b, off + (j + 1) * 12, none⟩ = some (.int .i64 c.pg.pool) ∧ w'.cell? ⟨b, off + (j + 1) * 12 + 1, none⟩ = some (.int .i64 c.pg.no) ∧ w'.cell? ⟨b, off + (j + 1) * 12 + 2, none⟩ = some (.int .i64 c.seen) ∧ w'.cell? ⟨b, off + (j + 1) * 12 + 3, none⟩ = some (.int .i64 c.started) ∧ w'.cell? ⟨b, off + (j + 1) * 12 + 4, none⟩ = some (.int .i64 c.tail.epoch) ∧ w'.cell? ⟨b, off + (j + 1) * 12 + 5, none⟩ = some (.int .i64 c.tail.seq) ∧ w'.cell? ⟨b, off + (j + 1) * 12 + 6, none⟩ = some (.slice a0_6 c.base.length c0_6) ∧ w'.cell? ⟨b, off + (j + 1) * 12 + 7, none⟩ = some (.slice a0_7 c.clients.length c0_7) ∧ w'.cell? ⟨b, off + (j + 1) * 12 + 8, none⟩ = some (.slice a0_8 c.log.length c0_8) ∧ w'.cell? ⟨b, off + (j + 1) * 12 + 9, none⟩ = some (.int .i64 c.firm.epoch) ∧ w'.cell? ⟨b, off + (j + 1) * 12 + 10, none⟩ = some (.int .i64 c.firm.seq) ∧ w'.cell? ⟨b, off + (j + 1) * 12 + 11, none⟩ = some (.slice a0_11 c.chunks.length c0_11) ∧ w'.cell? ⟨b, off + j * 12, none⟩ = some (.int .i64 x.pg.pool) ∧ w'.cell? ⟨b, off + j * 12 + 1, none⟩ = some (.int .i64 x.pg.no))) (by kernel_rfl) ?_ (fun hHeld => ?_)
              · go_keep
              refine tj 0 rfl ?_
              try simp only [Act.put, ya, yb, yc, yd, ye, yf]
              refine tj 1 rfl ?_
              try simp only [Act.put, ya, yb, yc, yd, ye, yf]
              refine tj 2 rfl ?_
              try simp only [Act.put, ya, yb, yc, yd, ye, yf]
              refine tj 3 rfl ?_
              try simp only [Act.put, ya, yb, yc, yd, ye, yf]
              refine wpAnyH_ready (rs := [4]) (by kernel_rfl) (by simp) ?_
              refine AllReadyH.cons rfl (fun K hK => ?_) AllReadyH.nil
              go_simp
              (go_at_call 8; refine (C0.out _ (by first | exact BH.out | exact BH.out.drew)).mono ?_; rintro e9 w9 ⟨rfl, b9⟩; (try replace b9 := undrewX b9); have BH := Lib.hid (chainX _ BH.out b9); have z0 := ZC0.out _ BH.out; have z1 := ZC1.out _ BH.out; have z2 := ZC2.out _ BH.out; have z3 := ZC3.out _ BH.out; have z4 := ZC4.out _ BH.out; have z5 := ZC5.out _ BH.out; have z6 := ZC6.out _ BH.out; have z7 := ZC7.out _ BH.out; have z8 := ZC8.out _ BH.out; have z9 := ZC9.out _ BH.out; have z10 := ZC10.out _ BH.out; have z11 := ZC11.out _ BH.out; have p0 := PC0.out _ BH.out; have p1 := PC1.out _ BH.out; clear b9)
              (try go_wp2_with fail)
              refine hK.out _ _ ?_ (fun hHeld4 => ?_)
              · (try dsimp only); go_keep
              clear hK K
              try simp only [Act.put, ya, yb, yc, yd, ye, yf]
              refine tj 5 rfl ?_
              try simp only [Act.put, ya, yb, yc, yd, ye, yf]
              refine tj 6 rfl ?_
              try simp only [Act.put, ya, yb, yc, yd, ye, yf]
              refine tj 7 rfl ?_
              try simp only [Act.put, ya, yb, yc, yd, ye, yf]
              refine tj 8 rfl ?_
              try simp only [Act.put, ya, yb, yc, yd, ye, yf]
              refine tj 9 rfl ?_
              try simp only [Act.put, ya, yb, yc, yd, ye, yf]
              refine tj 10 rfl ?_
              try simp only [Act.put, ya, yb, yc, yd, ye, yf]
              refine tj 11 rfl ?_
              try simp only [Act.put, ya, yb, yc, yd, ye, yf]
              refine tj 12 rfl ?_
              try simp only [Act.put, ya, yb, yc, yd, ye, yf]
              refine tj 13 rfl ?_
              try simp only [Act.put, ya, yb, yc, yd, ye, yf]
              refine tj 14 rfl ?_
              try simp only [Act.put, ya, yb, yc, yd, ye, yf]
              refine tj 15 rfl ?_
              try simp only [Act.put, ya, yb, yc, yd, ye, yf]
              refine tj 16 rfl ?_
              try simp only [Act.put, ya, yb, yc, yd, ye, yf]
              refine tj 17 rfl ?_
              try simp only [Act.put, ya, yb, yc, yd, ye, yf]
              refine tj 18 rfl ?_
              try simp only [Act.put, ya, yb, yc, yd, ye, yf]
              refine tj 19 rfl ?_
              try simp only [Act.put, ya, yb, yc, yd, ye, yf]
              refine tj 20 rfl ?_
              try simp only [Act.put, ya, yb, yc, yd, ye, yf]
              refine wpAnyH_ready (rs := [21]) (by kernel_rfl) (by simp) ?_
              refine AllReadyH.cons rfl (fun K hK => ?_) AllReadyH.nil
              go_simp
              (go_at_call 103; refine (CQ.out _ (by first | exact BH.out | exact BH.out.drew)).mono ?_; rintro e9 w9 ⟨rfl, b9⟩; (try replace b9 := undrewX b9); have BH := Lib.hid (chainX _ BH.out b9); have z0 := ZC0.out _ BH.out; have z1 := ZC1.out _ BH.out; have z2 := ZC2.out _ BH.out; have z3 := ZC3.out _ BH.out; have z4 := ZC4.out _ BH.out; have z5 := ZC5.out _ BH.out; have z6 := ZC6.out _ BH.out; have z7 := ZC7.out _ BH.out; have z8 := ZC8.out _ BH.out; have z9 := ZC9.out _ BH.out; have z10 := ZC10.out _ BH.out; have z11 := ZC11.out _ BH.out; have p0 := PC0.out _ BH.out; have p1 := PC1.out _ BH.out; clear b9)
              (try go_wp2_with fail)
              refine hK.out _ _ ?_ (fun hHeld21 => ?_)
              · (try dsimp only); go_keep
              clear hK K
              try simp only [Act.put, ya, yb, yc, yd, ye, yf]
              refine tj 22 rfl ?_
              try simp only [Act.put, ya, yb, yc, yd, ye, yf]
              refine tj 23 rfl ?_
              try simp only [Act.put, ya, yb, yc, yd, ye, yf]
              refine tj 24 rfl ?_
              try simp only [Act.put, ya, yb, yc, yd, ye, yf]
              refine wpAnyH_done (by kernel_rfl) ?_ _
              refine NoPanic.normal ?_
              go_wp2
              have BZ := Lib.hid (chainX w BF.out BH.out)
              go_roundw
              case rel => exact ⟨j + 1 + 1, by omega, by omega, by go_num, H5.out, H3.out, BZ.out⟩
              case measure => simp [intOf]; omega
    · obtain rfl : k = n := by omega
      clear hw
      by_cases hmx : k ≤ 8
      · have YS := Lib.hid (show SeqP 8 sPLt (idB p) l from ⟨by rw [HN.out]; exact hmx, fun i x y h1 h2 => H1.out i x y (LEN.out _ _ h2) h1 h2, fun i x h1 => H2.out i x (LEN.out _ _ h1) h1⟩)
        have d2 : decide ((k : Int) ≤ 8) = true := decide_eq_true (by omega)
        go_wp2
        go_ret
        exact IffB.yes YS.out BW.out
      · have NO := Lib.hid (show ¬ SeqP 8 sPLt (idB p) l from fun h => hmx (by rw [← HN.out]; exact h.1))
        have d2 : decide ((k : Int) ≤ 8) = false := decide_eq_false (by omega)
        go_wp2
        go_ret
        exact IffB.no NO.out BW.out
theorem specListOk (p : DPgState → Bool) (hp : ∀ d, p d = true ↔ StP d) (a : Option Addr) (cap : Nat) (l : List DPgState) (w : World) (hsz : Rdb.sz l ≤ 2097152) {fr : Bool} {lo : Nat} (hc : Rows fr lo w a l) :
    Calls Tryz.prog 58 #[.slice a l.length cap] w (IffB (SeqP 8 sPLt p l) w) :=
  specStateList a cap l w (Nat.le_trans (sz_len l) hsz) hc p hp (fun x hx => by
    obtain ⟨i, hi, e⟩ := List.getElem_of_mem hx
    exact Nat.le_trans (sz_mem (l := l) (k := i) (x := x) (by rw [List.getElem?_eq_getElem hi, e])) hsz)
set_option maxRecDepth 100000 in
set_option maxHeartbeats 4000000 in
theorem specStoreOk (p : DPgState → Bool) (hp : ∀ d, p d = true ↔ StP d) (d : DStore) {cs : List Value} {fr : Bool} {lo : Nat} (w : World) (hd : Rdb.sz d ≤ 2097152) (h : Rdb.rd fr lo w cs d) :
    Calls Tryz.prog 20 #[.agg cs.toArray] w (IffB (StoP p d) w) := by
  have qd : Rdb.sz d = Rdb.sz d.live + Rdb.sz d.kept := rfl
  obtain ⟨a0_0, c0_0, a0_1, c0_1, rfl, f0_0, g0_0, f0_1, g0_1⟩ := shape_Store h
  have L := Lib.hid (lay w (.cells #[.slice a0_0 d.live.length c0_0, .slice a0_1 d.kept.length c0_1] 61))
  have XA := Lib.hid (BxN.new w #[.slice a0_0 d.live.length c0_0, .slice a0_1 d.kept.length c0_1] 61)
  have C0 := Lib.hid (fun w' (b : Below w.heap.size w w') => specListOk p hp _ c0_0 d.live w' (by omega) (f0_0.below b))
  have C1 := Lib.hid (fun w' (b : Below w.heap.size w w') => specListOk p hp _ c0_1 d.kept w' (by omega) (f0_1.below b))
  clear f0_0 f0_1 g0_0 g0_1 qd hd
  have N0 := Lib.hid (show ¬ SeqP 8 sPLt p d.live → ¬ StoP p d from fun h q => h q.1)
  have N1 := Lib.hid (show ¬ SeqP 8 sPLt p d.kept → ¬ StoP p d from fun h q => h q.2)
  have YS := Lib.hid (show SeqP 8 sPLt p d.live → SeqP 8 sPLt p d.kept → StoP p d from fun a b => ⟨a, b⟩)
  generalize d.live.length = nlive at *
  generalize d.kept.length = nkept at *
  clear hp
  have CA := Rd.c2 XA.out
  go_enter Tryz.func20, Tryz.ntmps20
  go_wp2_with fail
  refine (C0.out _ L.out).mono ?_
  rintro e0 w0 ⟨t0, rfl, H, b⟩
  have B0 := Lib.hid (chainX w L.out b)
  have XA0 := Lib.hid (XA.out.later b)
  clear CA
  have CA := Rd.c2 XA0.out
  have HH := Lib.hid H
  clear H b
  cases t0
  · have G := Lib.hid (N0.out (fun q => by have := HH.out.2 q; cases this))
    clear HH
    go_wp2
    go_ret
    exact IffB.no G.out B0.out
  · have q0 := Lib.hid (HH.out.1 rfl)
    clear HH
    go_wp2_with fail
    refine (C1.out _ B0.out).mono ?_
    rintro e1 w1 ⟨t1, rfl, H, b⟩
    have B1 := Lib.hid (chainX w B0.out b)
    have XA1 := Lib.hid (XA0.out.later b)
    clear CA
    have CA := Rd.c2 XA1.out
    have HH := Lib.hid H
    clear H b
    cases t1
    · have G := Lib.hid (N1.out (fun q => by have := HH.out.2 q; cases this))
      clear HH
      go_wp2
      go_ret
      exact IffB.no G.out B1.out
    · have q1 := Lib.hid (HH.out.1 rfl)
      clear HH
      have G := Lib.hid (YS.out q0.out q1.out)
      go_wp2
      go_ret
      exact IffB.yes G.out B1.out
end Go.Proofs.YtbckdfoapmjilaaGreatDoor.Rd
