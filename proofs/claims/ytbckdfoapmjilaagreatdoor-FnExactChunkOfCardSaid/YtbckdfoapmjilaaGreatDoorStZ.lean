/-
  Chunks tested in the model (written by tools/gen/stx.py).
-/
import Derived.Test.YtbckdfoapmjilaaGreatDoorStM
import Derived.Test.YtbckdfoapmjilaaGreatDoorVer
import Derived.Test.YtbckdfoapmjilaaGreatDoorNst
import Derived.Test.YtbckdfoapmjilaaGreatDoorRs
import Derived.Deep.DeepCutAuto
import Derived.Deep.RegionHeld3
namespace Go.Proofs.YtbckdfoapmjilaaGreatDoor.Rd
open Go.RowKit Go.ChangeShapes Go.WideShapes Go.Proofs.YtbckdfoapmjilaaGreatDoor.GfI Go.Proofs.YtbckdfoapmjilaaGreatDoor.GfS
open Go.Proofs.YtbckdfoapmjilaaGreatDoor.Sg (BxN)
set_option linter.unusedVariables false
set_option linter.unusedSimpArgs false

def chB (c : DChunk) : Bool := chunkB c
set_option maxRecDepth 100000 in
set_option maxHeartbeats 4000000 in
theorem specChunkLess (a b : DChunk) (w : World) : Calls Tryz.prog 73 #[.agg #[.string a.name, .int .i64 a.ver.epoch, .int .i64 a.ver.seq, .int .i64 a.pos, .int .i64 a.sum, .string a.bytes], .agg #[.string b.name, .int .i64 b.ver.epoch, .int .i64 b.ver.seq, .int .i64 b.pos, .int .i64 b.sum, .string b.bytes]] w (RetW (.bool (cLt a b)) w) := by
  have BH := Lib.hid (chainX w (lay w (.cells #[.string a.name, .int .i64 a.ver.epoch, .int .i64 a.ver.seq, .int .i64 a.pos, .int .i64 a.sum, .string a.bytes] 48)) (lay _ (.cells #[.string b.name, .int .i64 b.ver.epoch, .int .i64 b.ver.seq, .int .i64 b.pos, .int .i64 b.sum, .string b.bytes] 48)))
  have C := Lib.hid (fun w' (_ : Below w.heap.size w w') => specVerLess a.ver b.ver w')
  obtain ⟨v, hv⟩ : ∃ v, cLt a b = v := ⟨_, rfl⟩
  rw [hv]
  unfold cLt at hv
  generalize verL a.ver b.ver = bl at *
  cases h1 : sameS a.name b.name
  · rw [h1] at hv
    simp only [Bool.false_eq_true, if_false] at hv
    subst hv
    unfold sameS at h1
    generalize hs : sLt a.name b.name = s at *
    unfold sLt at hs
    go_enter Tryz.func73, Tryz.ntmps73
    go_wp2
    go_ret
    exact ⟨rfl, BH.out⟩
  · rw [h1] at hv
    simp only [if_true] at hv
    unfold sameS at h1
    generalize a.ver.epoch = ae at *
    generalize b.ver.epoch = be at *
    generalize a.ver.seq = sa at *
    generalize b.ver.seq = sb at *
    by_cases h2 : ae = be
    · subst h2
      by_cases h3 : sa = sb
      · subst h3
        simp only [and_self, if_true] at hv
        subst hv
        go_enter Tryz.func73, Tryz.ntmps73
        go_wp2
        go_ret
        exact ⟨rfl, BH.out⟩
      · simp only [h3, and_false, if_false] at hv
        subst hv
        go_enter Tryz.func73, Tryz.ntmps73
        go_wp2_with fail
        refine (C.out _ BH.out).mono ?_
        rintro e w2 ⟨rfl, b2⟩
        have BH := Lib.hid (chainX w BH.out b2)
        clear b2
        go_wp2
        go_ret
        exact ⟨rfl, BH.out⟩
    · simp only [h2, false_and, if_false] at hv
      subst hv
      go_enter Tryz.func73, Tryz.ntmps73
      go_wp2_with fail
      refine (C.out _ BH.out).mono ?_
      rintro e w2 ⟨rfl, b2⟩
      have BH := Lib.hid (chainX w BH.out b2)
      clear b2
      go_wp2
      go_ret
      exact ⟨rfl, BH.out⟩
set_option maxRecDepth 100000 in
set_option maxHeartbeats 4000000 in
theorem specChunksB (a : Option Addr) (cap : Nat) (l : List DChunk) (w : World) (hl : l.length ≤ 2097152) {fr : Bool} {lo : Nat} (hc : Rows fr lo w a l) :
    Calls Tryz.prog 36 #[.slice a l.length cap] w (IffB (SeqP 160 cLt chB l) w) := by
  have LW := Lib.hid (Below.refl w.heap.size w)
  have RH := Lib.hid hc
  have GET := Lib.hid (fun k (h : k < l.length) => get_lt h)
  have LEN := Lib.hid (fun k x (h : l[k]? = some x) => (List.getElem?_eq_some_iff.1 h).1)
  obtain ⟨n, hn⟩ : ∃ n, l.length = n := ⟨_, rfl⟩
  have HN := Lib.hid hn
  rw [hn] at hl GET LEN ⊢
  clear hn hc
  go_enter Tryz.func36, Tryz.ntmps36
  go_wp2
  go_loopw [3] (fun i wr => ∃ k : Nat, k ≤ n ∧ k ≤ 161 ∧ i = .int .i64 k ∧ (∀ (i : Nat) (x y : DChunk), i + 1 < k → l[i]? = some x → l[i + 1]? = some y → cLt x y = true) ∧ (∀ (i : Nat) (x : DChunk), i < k → l[i]? = some x → chB x = true) ∧ Below w.heap.size w wr) (fun i _ => n - (intOf i).toNat)
  case atStart => exact ⟨0, by omega, by omega, rfl, fun i x y hi => absurd hi (Nat.not_lt_zero _), fun i x hi => absurd hi (Nat.not_lt_zero _), Below.refl _ _⟩
  case round =>
    obtain ⟨k, hk, hk2, rfl, H1, H2, hw⟩ := hrel
    have H1 := Lib.hid H1
    have H2 := Lib.hid H2
    have BW := Lib.hid (chainX w LW.out hw)
    by_cases hlt : k < n
    · by_cases hmx : k ≤ 160
      rotate_left
      · have NO := Lib.hid (show ¬ SeqP 160 cLt chB l from fun h => by have h1 := h.1; have h2 := HN.out; omega)
        have d1 : decide ((k : Int) ≤ 160) = false := decide_eq_false (by omega)
        have d2 : decide ((n : Int) ≤ 160) = false := decide_eq_false (by omega)
        clear hw
        go_wp2
        go_ret
        exact IffB.no NO.out BW.out
      · have dk : decide ((k : Int) ≤ 160) = true := decide_eq_true (by omega)
        obtain ⟨c, hx⟩ := GET.out k hlt
        obtain ⟨b, off, cs, ea, -, hB, hr, hcc⟩ := (RH.out.below hw).at' hx
        obtain ⟨rfl, f0_0, f0_1, f0_2, f0_3, f0_4, f0_5⟩ := shape_Chunk hr
        have z0 : wr.cell? ⟨b, off + k * 6, none⟩ = some (.string c.name) := hcc 0 _ rfl
        have z1 : wr.cell? ⟨b, off + k * 6 + 1, none⟩ = some (.int .i64 c.ver.epoch) := hcc 1 _ rfl
        have z2 : wr.cell? ⟨b, off + k * 6 + 2, none⟩ = some (.int .i64 c.ver.seq) := hcc 2 _ rfl
        have z3 : wr.cell? ⟨b, off + k * 6 + 3, none⟩ = some (.int .i64 c.pos) := hcc 3 _ rfl
        have z4 : wr.cell? ⟨b, off + k * 6 + 4, none⟩ = some (.int .i64 c.sum) := hcc 4 _ rfl
        have z5 : wr.cell? ⟨b, off + k * 6 + 5, none⟩ = some (.string c.bytes) := hcc 5 _ rfl
        have LE := Below.refl wr.heap.size wr
        have BF := Lib.hid (chainX w hw LE)
        have BH := Lib.hid (Below.refl wr.heap.size wr)
        have HX := Lib.hid hx
        have ZC0 := Lib.hid (fun w' (q : Below wr.heap.size wr w') => (q.cell (p := ⟨b, off + k * 6, none⟩) hB).trans z0)
        have ZC1 := Lib.hid (fun w' (q : Below wr.heap.size wr w') => (q.cell (p := ⟨b, off + k * 6 + 1, none⟩) hB).trans z1)
        have ZC2 := Lib.hid (fun w' (q : Below wr.heap.size wr w') => (q.cell (p := ⟨b, off + k * 6 + 2, none⟩) hB).trans z2)
        have ZC3 := Lib.hid (fun w' (q : Below wr.heap.size wr w') => (q.cell (p := ⟨b, off + k * 6 + 3, none⟩) hB).trans z3)
        have ZC4 := Lib.hid (fun w' (q : Below wr.heap.size wr w') => (q.cell (p := ⟨b, off + k * 6 + 4, none⟩) hB).trans z4)
        have ZC5 := Lib.hid (fun w' (q : Below wr.heap.size wr w') => (q.cell (p := ⟨b, off + k * 6 + 5, none⟩) hB).trans z5)
        have C0 := Lib.hid (fun w' (q : Below wr.heap.size wr w') => specChunkOk c w')
        have NOW := Lib.hid (fun (hno : chB c = false) => (show ¬ SeqP 160 cLt chB l from fun hS => by have := hS.2.2 k c HX.out; rw [hno] at this; cases this))
        have YES := Lib.hid (fun (hok : chB c = true) => (show ∀ (i : Nat) (x : DChunk), i < k + 1 → l[i]? = some x → chB x = true from fun i x hi hxi => by
          by_cases e : i = k
          · subst e; rw [HX.out] at hxi; cases hxi; exact hok
          · exact H2.out i x (by omega) hxi))
        have HP := (show chB c = chunkB c from rfl)
        generalize chunkB c = b0 at *
        by_cases hk0 : k = 0
        · subst hk0
          simp only [Nat.zero_mul, Nat.add_zero] at z0 z1 z2 z3 z4 z5
          have H5 := Lib.hid (show ∀ (i : Nat) (x y : DChunk), i + 1 < 0 + 1 → l[i]? = some x → l[i + 1]? = some y → cLt x y = true from fun i x y hi => absurd hi (by omega))
          clear hcc hr hx hw LE H1 H2
          subst ea
          cases b0
          · skip
            have NO := Lib.hid (NOW.out (by rw [HP]; try simp))
            clear NOW YES HP
            (try clear NOP)
            (try clear H4)
            (try clear H5)
            have z0 := ZC0.out _ BH.out
            simp only [Nat.zero_mul, Nat.add_zero] at z0
            have z1 := ZC1.out _ BH.out
            simp only [Nat.zero_mul, Nat.add_zero] at z1
            have z2 := ZC2.out _ BH.out
            simp only [Nat.zero_mul, Nat.add_zero] at z2
            have z3 := ZC3.out _ BH.out
            simp only [Nat.zero_mul, Nat.add_zero] at z3
            have z4 := ZC4.out _ BH.out
            simp only [Nat.zero_mul, Nat.add_zero] at z4
            have z5 := ZC5.out _ BH.out
            simp only [Nat.zero_mul, Nat.add_zero] at z5
            go_wp2
            refine wp_region_noPanic ?_
            refine wp_region_held_drew (S := (fun w' => w'.cell? ⟨b, off, none⟩ = some (.string c.name) ∧ w'.cell? ⟨b, off + 1, none⟩ = some (.int .i64 c.ver.epoch) ∧ w'.cell? ⟨b, off + 2, none⟩ = some (.int .i64 c.ver.seq) ∧ w'.cell? ⟨b, off + 3, none⟩ = some (.int .i64 c.pos) ∧ w'.cell? ⟨b, off + 4, none⟩ = some (.int .i64 c.sum) ∧ w'.cell? ⟨b, off + 5, none⟩ = some (.string c.bytes))) (by kernel_rfl) ?_ (fun hHeld => ?_)
            · go_keep
            refine tj 0 rfl ?_
            try simp only [Act.put, ya, yb, yc, yd, ye, yf]
            refine tj 1 rfl ?_
            try simp only [Act.put, ya, yb, yc, yd, ye, yf]
            refine tj 2 rfl ?_
            try simp only [Act.put, ya, yb, yc, yd, ye, yf]
            refine tj 3 rfl ?_
            try simp only [Act.put, ya, yb, yc, yd, ye, yf]
            refine wpAnyH_ready (rs := [4]) (by kernel_rfl) (by simp) ?_
            refine AllReadyH.cons rfl (fun K hK => ?_) AllReadyH.nil
            go_simp
            (go_at_call 72; refine (C0.out _ (by first | exact BH.out | exact BH.out.drew)).mono ?_; rintro e9 w9 ⟨rfl, b9⟩; (try replace b9 := undrewX b9); have BH := Lib.hid (chainX _ BH.out b9); have z0 := ZC0.out _ BH.out; simp only [Nat.zero_mul, Nat.add_zero] at z0; have z1 := ZC1.out _ BH.out; simp only [Nat.zero_mul, Nat.add_zero] at z1; have z2 := ZC2.out _ BH.out; simp only [Nat.zero_mul, Nat.add_zero] at z2; have z3 := ZC3.out _ BH.out; simp only [Nat.zero_mul, Nat.add_zero] at z3; have z4 := ZC4.out _ BH.out; simp only [Nat.zero_mul, Nat.add_zero] at z4; have z5 := ZC5.out _ BH.out; simp only [Nat.zero_mul, Nat.add_zero] at z5; clear b9)
            (try go_wp2_with fail)
            refine hK.out _ _ ?_ (fun hHeld4 => ?_)
            · (try dsimp only); go_keep
            clear hK K
            try simp only [Act.put, ya, yb, yc, yd, ye, yf]
            refine tj 5 rfl ?_
            try simp only [Act.put, ya, yb, yc, yd, ye, yf]
            refine tj 6 rfl ?_
            try simp only [Act.put, ya, yb, yc, yd, ye, yf]
            refine tk 7 (v := undef) rfl (Or.inr ⟨by kernel_rfl, rfl⟩) (by assumption) ?_
            try simp only [Act.put, ya, yb, yc, yd, ye, yf]
            refine tk 8 (v := undef) rfl (Or.inr ⟨by kernel_rfl, rfl⟩) (by assumption) ?_
            try simp only [Act.put, ya, yb, yc, yd, ye, yf]
            refine tk 9 (v := undef) rfl (Or.inr ⟨by kernel_rfl, rfl⟩) (by assumption) ?_
            try simp only [Act.put, ya, yb, yc, yd, ye, yf]
            refine tk 10 (v := undef) rfl (Or.inr ⟨by kernel_rfl, rfl⟩) (by assumption) ?_
            try simp only [Act.put, ya, yb, yc, yd, ye, yf]
            refine tk 11 (v := undef) rfl (Or.inr ⟨by kernel_rfl, rfl⟩) (by assumption) ?_
            try simp only [Act.put, ya, yb, yc, yd, ye, yf]
            refine tk 12 (v := undef) rfl (Or.inr ⟨by kernel_rfl, rfl⟩) (by assumption) ?_
            try simp only [Act.put, ya, yb, yc, yd, ye, yf]
            refine tk 13 (v := undef) rfl (Or.inr ⟨by kernel_rfl, rfl⟩) (by assumption) ?_
            try simp only [Act.put, ya, yb, yc, yd, ye, yf]
            refine tk 14 (v := undef) rfl (Or.inr ⟨by kernel_rfl, rfl⟩) (by assumption) ?_
            try simp only [Act.put, ya, yb, yc, yd, ye, yf]
            refine tk 15 (v := undef) rfl (Or.inr ⟨by kernel_rfl, rfl⟩) (by assumption) ?_
            try simp only [Act.put, ya, yb, yc, yd, ye, yf]
            refine tk 16 (v := undef) rfl (Or.inr ⟨by kernel_rfl, rfl⟩) (by assumption) ?_
            try simp only [Act.put, ya, yb, yc, yd, ye, yf]
            refine tk 17 (v := undef) rfl (Or.inr ⟨by kernel_rfl, rfl⟩) (by assumption) ?_
            try simp only [Act.put, ya, yb, yc, yd, ye, yf]
            refine tk 18 (v := undef) rfl (Or.inr ⟨by kernel_rfl, rfl⟩) (by assumption) ?_
            try simp only [Act.put, ya, yb, yc, yd, ye, yf]
            refine tk 19 (v := undef) rfl (Or.inr ⟨by kernel_rfl, rfl⟩) (by assumption) ?_
            try simp only [Act.put, ya, yb, yc, yd, ye, yf]
            refine tk 20 (v := undef) rfl (Or.inr ⟨by kernel_rfl, rfl⟩) (by assumption) ?_
            try simp only [Act.put, ya, yb, yc, yd, ye, yf]
            refine tk 21 (v := undef) rfl (Or.inr ⟨by kernel_rfl, rfl⟩) (by assumption) ?_
            try simp only [Act.put, ya, yb, yc, yd, ye, yf]
            refine tj 22 rfl ?_
            try simp only [Act.put, ya, yb, yc, yd, ye, yf]
            refine wpAnyH_done (by kernel_rfl) ?_ _
            refine NoPanic.normal ?_
            go_wp2
            go_ret
            exact IffB.no NO.out (chainX w LW.out (chainX w BF.out BH.out))
          · skip
            have HV : chB c = true := by rw [HP]; try rfl
            clear NOW HP
            have H3 := Lib.hid (YES.out HV)
            clear YES HV
            have z0 := ZC0.out _ BH.out
            simp only [Nat.zero_mul, Nat.add_zero] at z0
            have z1 := ZC1.out _ BH.out
            simp only [Nat.zero_mul, Nat.add_zero] at z1
            have z2 := ZC2.out _ BH.out
            simp only [Nat.zero_mul, Nat.add_zero] at z2
            have z3 := ZC3.out _ BH.out
            simp only [Nat.zero_mul, Nat.add_zero] at z3
            have z4 := ZC4.out _ BH.out
            simp only [Nat.zero_mul, Nat.add_zero] at z4
            have z5 := ZC5.out _ BH.out
            simp only [Nat.zero_mul, Nat.add_zero] at z5
            go_wp2
            refine wp_region_noPanic ?_
            refine wp_region_held_drew (S := (fun w' => w'.cell? ⟨b, off, none⟩ = some (.string c.name) ∧ w'.cell? ⟨b, off + 1, none⟩ = some (.int .i64 c.ver.epoch) ∧ w'.cell? ⟨b, off + 2, none⟩ = some (.int .i64 c.ver.seq) ∧ w'.cell? ⟨b, off + 3, none⟩ = some (.int .i64 c.pos) ∧ w'.cell? ⟨b, off + 4, none⟩ = some (.int .i64 c.sum) ∧ w'.cell? ⟨b, off + 5, none⟩ = some (.string c.bytes))) (by kernel_rfl) ?_ (fun hHeld => ?_)
            · go_keep
            refine tj 0 rfl ?_
            try simp only [Act.put, ya, yb, yc, yd, ye, yf]
            refine tj 1 rfl ?_
            try simp only [Act.put, ya, yb, yc, yd, ye, yf]
            refine tj 2 rfl ?_
            try simp only [Act.put, ya, yb, yc, yd, ye, yf]
            refine tj 3 rfl ?_
            try simp only [Act.put, ya, yb, yc, yd, ye, yf]
            refine wpAnyH_ready (rs := [4]) (by kernel_rfl) (by simp) ?_
            refine AllReadyH.cons rfl (fun K hK => ?_) AllReadyH.nil
            go_simp
            (go_at_call 72; refine (C0.out _ (by first | exact BH.out | exact BH.out.drew)).mono ?_; rintro e9 w9 ⟨rfl, b9⟩; (try replace b9 := undrewX b9); have BH := Lib.hid (chainX _ BH.out b9); have z0 := ZC0.out _ BH.out; simp only [Nat.zero_mul, Nat.add_zero] at z0; have z1 := ZC1.out _ BH.out; simp only [Nat.zero_mul, Nat.add_zero] at z1; have z2 := ZC2.out _ BH.out; simp only [Nat.zero_mul, Nat.add_zero] at z2; have z3 := ZC3.out _ BH.out; simp only [Nat.zero_mul, Nat.add_zero] at z3; have z4 := ZC4.out _ BH.out; simp only [Nat.zero_mul, Nat.add_zero] at z4; have z5 := ZC5.out _ BH.out; simp only [Nat.zero_mul, Nat.add_zero] at z5; clear b9)
            (try go_wp2_with fail)
            refine hK.out _ _ ?_ (fun hHeld4 => ?_)
            · (try dsimp only); go_keep
            clear hK K
            try simp only [Act.put, ya, yb, yc, yd, ye, yf]
            refine tj 5 rfl ?_
            try simp only [Act.put, ya, yb, yc, yd, ye, yf]
            refine tj 6 rfl ?_
            try simp only [Act.put, ya, yb, yc, yd, ye, yf]
            refine tj 7 rfl ?_
            try simp only [Act.put, ya, yb, yc, yd, ye, yf]
            refine tj 8 rfl ?_
            try simp only [Act.put, ya, yb, yc, yd, ye, yf]
            refine tj 9 rfl ?_
            try simp only [Act.put, ya, yb, yc, yd, ye, yf]
            refine tk 10 (v := undef) rfl (Or.inr ⟨by kernel_rfl, rfl⟩) (by assumption) ?_
            try simp only [Act.put, ya, yb, yc, yd, ye, yf]
            refine tk 11 (v := undef) rfl (Or.inr ⟨by kernel_rfl, rfl⟩) (by assumption) ?_
            try simp only [Act.put, ya, yb, yc, yd, ye, yf]
            refine tk 12 (v := undef) rfl (Or.inr ⟨by kernel_rfl, rfl⟩) (by assumption) ?_
            try simp only [Act.put, ya, yb, yc, yd, ye, yf]
            refine tk 13 (v := undef) rfl (Or.inr ⟨by kernel_rfl, rfl⟩) (by assumption) ?_
            try simp only [Act.put, ya, yb, yc, yd, ye, yf]
            refine tk 14 (v := undef) rfl (Or.inr ⟨by kernel_rfl, rfl⟩) (by assumption) ?_
            try simp only [Act.put, ya, yb, yc, yd, ye, yf]
            refine tk 15 (v := undef) rfl (Or.inr ⟨by kernel_rfl, rfl⟩) (by assumption) ?_
            try simp only [Act.put, ya, yb, yc, yd, ye, yf]
            refine tk 16 (v := undef) rfl (Or.inr ⟨by kernel_rfl, rfl⟩) (by assumption) ?_
            try simp only [Act.put, ya, yb, yc, yd, ye, yf]
            refine tk 17 (v := undef) rfl (Or.inr ⟨by kernel_rfl, rfl⟩) (by assumption) ?_
            try simp only [Act.put, ya, yb, yc, yd, ye, yf]
            refine tk 18 (v := undef) rfl (Or.inr ⟨by kernel_rfl, rfl⟩) (by assumption) ?_
            try simp only [Act.put, ya, yb, yc, yd, ye, yf]
            refine tk 19 (v := undef) rfl (Or.inr ⟨by kernel_rfl, rfl⟩) (by assumption) ?_
            try simp only [Act.put, ya, yb, yc, yd, ye, yf]
            refine tk 20 (v := undef) rfl (Or.inr ⟨by kernel_rfl, rfl⟩) (by assumption) ?_
            try simp only [Act.put, ya, yb, yc, yd, ye, yf]
            refine tj 21 rfl ?_
            try simp only [Act.put, ya, yb, yc, yd, ye, yf]
            refine tj 22 rfl ?_
            try simp only [Act.put, ya, yb, yc, yd, ye, yf]
            refine wpAnyH_done (by kernel_rfl) ?_ _
            refine NoPanic.normal ?_
            go_wp2
            have BZ := Lib.hid (chainX w BF.out BH.out)
            go_roundw
            case rel => exact ⟨0 + 1, by omega, by omega, by go_num, H5.out, H3.out, BZ.out⟩
            case measure => simp [intOf]; omega
        · obtain ⟨j, rfl⟩ : ∃ j, k = j + 1 := ⟨k - 1, by omega⟩
          obtain ⟨x, hpx⟩ := GET.out j (by omega)
          obtain ⟨b', off', cs', e', -, -, hr2, hcc2⟩ := (RH.out.below hw).at' hpx
          rw [ea] at e'
          obtain ⟨rfl, rfl⟩ : b = b' ∧ off = off' := by simpa using e'
          obtain ⟨rfl, f1_0, f1_1, f1_2, f1_3, f1_4, f1_5⟩ := shape_Chunk hr2
          have PC0 := Lib.hid (fun w' (q : Below wr.heap.size wr w') => (q.cell (p := ⟨b, off + j * 6, none⟩) (Nat.lt_of_lt_of_le hB LE.size)).trans ((LE.cell (p := ⟨b, off + j * 6, none⟩) hB).trans (show wr.cell? ⟨b, off + j * 6, none⟩ = some (.string x.name) from hcc2 0 _ rfl)))
          have y0 : wr.cell? ⟨b, off + j * 6, none⟩ = some (.string x.name) := hcc2 0 _ rfl
          have PC1 := Lib.hid (fun w' (q : Below wr.heap.size wr w') => (q.cell (p := ⟨b, off + j * 6 + 1, none⟩) (Nat.lt_of_lt_of_le hB LE.size)).trans ((LE.cell (p := ⟨b, off + j * 6 + 1, none⟩) hB).trans (show wr.cell? ⟨b, off + j * 6 + 1, none⟩ = some (.int .i64 x.ver.epoch) from hcc2 1 _ rfl)))
          have y1 : wr.cell? ⟨b, off + j * 6 + 1, none⟩ = some (.int .i64 x.ver.epoch) := hcc2 1 _ rfl
          have PC2 := Lib.hid (fun w' (q : Below wr.heap.size wr w') => (q.cell (p := ⟨b, off + j * 6 + 2, none⟩) (Nat.lt_of_lt_of_le hB LE.size)).trans ((LE.cell (p := ⟨b, off + j * 6 + 2, none⟩) hB).trans (show wr.cell? ⟨b, off + j * 6 + 2, none⟩ = some (.int .i64 x.ver.seq) from hcc2 2 _ rfl)))
          have y2 : wr.cell? ⟨b, off + j * 6 + 2, none⟩ = some (.int .i64 x.ver.seq) := hcc2 2 _ rfl
          have PC3 := Lib.hid (fun w' (q : Below wr.heap.size wr w') => (q.cell (p := ⟨b, off + j * 6 + 3, none⟩) (Nat.lt_of_lt_of_le hB LE.size)).trans ((LE.cell (p := ⟨b, off + j * 6 + 3, none⟩) hB).trans (show wr.cell? ⟨b, off + j * 6 + 3, none⟩ = some (.int .i64 x.pos) from hcc2 3 _ rfl)))
          have y3 : wr.cell? ⟨b, off + j * 6 + 3, none⟩ = some (.int .i64 x.pos) := hcc2 3 _ rfl
          have PC4 := Lib.hid (fun w' (q : Below wr.heap.size wr w') => (q.cell (p := ⟨b, off + j * 6 + 4, none⟩) (Nat.lt_of_lt_of_le hB LE.size)).trans ((LE.cell (p := ⟨b, off + j * 6 + 4, none⟩) hB).trans (show wr.cell? ⟨b, off + j * 6 + 4, none⟩ = some (.int .i64 x.sum) from hcc2 4 _ rfl)))
          have y4 : wr.cell? ⟨b, off + j * 6 + 4, none⟩ = some (.int .i64 x.sum) := hcc2 4 _ rfl
          have PC5 := Lib.hid (fun w' (q : Below wr.heap.size wr w') => (q.cell (p := ⟨b, off + j * 6 + 5, none⟩) (Nat.lt_of_lt_of_le hB LE.size)).trans ((LE.cell (p := ⟨b, off + j * 6 + 5, none⟩) hB).trans (show wr.cell? ⟨b, off + j * 6 + 5, none⟩ = some (.string x.bytes) from hcc2 5 _ rfl)))
          have y5 : wr.cell? ⟨b, off + j * 6 + 5, none⟩ = some (.string x.bytes) := hcc2 5 _ rfl
          have CQ := Lib.hid (fun w' (q : Below wr.heap.size wr w') => specChunkLess x c w')
          have NOP := Lib.hid (fun (hno : cLt x c = false) => (show ¬ SeqP 160 cLt chB l from fun hS => by have := hS.2.1 j x c hpx HX.out; rw [hno] at this; cases this))
          have H4 := Lib.hid (fun (hok : cLt x c = true) => (show ∀ (i : Nat) (x y : DChunk), i + 1 < j + 1 + 1 → l[i]? = some x → l[i + 1]? = some y → cLt x y = true from fun i x' y' hi h1 h2 => by
            by_cases e : i = j
            · subst e; rw [hpx] at h1; rw [HX.out] at h2; cases h1; cases h2; exact hok
            · exact H1.out i x' y' (by omega) h1 h2))
          have j0 : (0 : Int) ≤ (j : Int) := by omega
          have j1 : (j : Int) < (n : Int) := by omega
          have WK : IntKind.i64.wrap (((j + 1 : Nat) : Int) - 1) = (j : Int) := by rw [IntKind.wrap_i64]; omega
          have WK2 : IntKind.i64.wrap (j : Int) = (j : Int) := by rw [IntKind.wrap_i64]; omega
          have k2 : (0 : Int) ≤ (j : Int) + 1 := by omega
          have k3 : (0 : Int) < (j : Int) + 1 := by omega
          have k1 : ((j + 1 : Nat) : Int) < (n : Int) := by omega
          generalize hbq : cLt x c = bq at *
          clear hcc hr hx hw LE H1 H2 hpx hr2 hcc2
          subst ea
          cases b0
          · skip
            have NO := Lib.hid (NOW.out (by rw [HP]; try simp))
            clear NOW YES HP
            (try clear NOP)
            (try clear H4)
            (try clear H5)
            have z0 := ZC0.out _ BH.out
            have z1 := ZC1.out _ BH.out
            have z2 := ZC2.out _ BH.out
            have z3 := ZC3.out _ BH.out
            have z4 := ZC4.out _ BH.out
            have z5 := ZC5.out _ BH.out
            have p0 := PC0.out _ BH.out
            have p1 := PC1.out _ BH.out
            have p2 := PC2.out _ BH.out
            have p3 := PC3.out _ BH.out
            have p4 := PC4.out _ BH.out
            have p5 := PC5.out _ BH.out
            go_wp2
            refine wp_region_noPanic ?_
            refine wp_region_held_drew (S := (fun w' => w'.cell? ⟨b, off + (j + 1) * 6, none⟩ = some (.string c.name) ∧ w'.cell? ⟨b, off + (j + 1) * 6 + 1, none⟩ = some (.int .i64 c.ver.epoch) ∧ w'.cell? ⟨b, off + (j + 1) * 6 + 2, none⟩ = some (.int .i64 c.ver.seq) ∧ w'.cell? ⟨b, off + (j + 1) * 6 + 3, none⟩ = some (.int .i64 c.pos) ∧ w'.cell? ⟨b, off + (j + 1) * 6 + 4, none⟩ = some (.int .i64 c.sum) ∧ w'.cell? ⟨b, off + (j + 1) * 6 + 5, none⟩ = some (.string c.bytes) ∧ w'.cell? ⟨b, off + j * 6, none⟩ = some (.string x.name) ∧ w'.cell? ⟨b, off + j * 6 + 1, none⟩ = some (.int .i64 x.ver.epoch) ∧ w'.cell? ⟨b, off + j * 6 + 2, none⟩ = some (.int .i64 x.ver.seq) ∧ w'.cell? ⟨b, off + j * 6 + 3, none⟩ = some (.int .i64 x.pos) ∧ w'.cell? ⟨b, off + j * 6 + 4, none⟩ = some (.int .i64 x.sum) ∧ w'.cell? ⟨b, off + j * 6 + 5, none⟩ = some (.string x.bytes))) (by kernel_rfl) ?_ (fun hHeld => ?_)
            · go_keep
            refine tj 0 rfl ?_
            try simp only [Act.put, ya, yb, yc, yd, ye, yf]
            refine tj 1 rfl ?_
            try simp only [Act.put, ya, yb, yc, yd, ye, yf]
            refine tj 2 rfl ?_
            try simp only [Act.put, ya, yb, yc, yd, ye, yf]
            refine tj 3 rfl ?_
            try simp only [Act.put, ya, yb, yc, yd, ye, yf]
            refine wpAnyH_ready (rs := [4]) (by kernel_rfl) (by simp) ?_
            refine AllReadyH.cons rfl (fun K hK => ?_) AllReadyH.nil
            go_simp
            (go_at_call 72; refine (C0.out _ (by first | exact BH.out | exact BH.out.drew)).mono ?_; rintro e9 w9 ⟨rfl, b9⟩; (try replace b9 := undrewX b9); have BH := Lib.hid (chainX _ BH.out b9); have z0 := ZC0.out _ BH.out; have z1 := ZC1.out _ BH.out; have z2 := ZC2.out _ BH.out; have z3 := ZC3.out _ BH.out; have z4 := ZC4.out _ BH.out; have z5 := ZC5.out _ BH.out; have p0 := PC0.out _ BH.out; have p1 := PC1.out _ BH.out; have p2 := PC2.out _ BH.out; have p3 := PC3.out _ BH.out; have p4 := PC4.out _ BH.out; have p5 := PC5.out _ BH.out; clear b9)
            (try go_wp2_with fail)
            refine hK.out _ _ ?_ (fun hHeld4 => ?_)
            · (try dsimp only); go_keep
            clear hK K
            try simp only [Act.put, ya, yb, yc, yd, ye, yf]
            refine tj 5 rfl ?_
            try simp only [Act.put, ya, yb, yc, yd, ye, yf]
            refine tj 6 rfl ?_
            try simp only [Act.put, ya, yb, yc, yd, ye, yf]
            refine tk 7 (v := undef) rfl (Or.inr ⟨by kernel_rfl, rfl⟩) (by assumption) ?_
            try simp only [Act.put, ya, yb, yc, yd, ye, yf]
            refine tk 8 (v := undef) rfl (Or.inr ⟨by kernel_rfl, rfl⟩) (by assumption) ?_
            try simp only [Act.put, ya, yb, yc, yd, ye, yf]
            refine tk 9 (v := undef) rfl (Or.inr ⟨by kernel_rfl, rfl⟩) (by assumption) ?_
            try simp only [Act.put, ya, yb, yc, yd, ye, yf]
            refine tk 10 (v := undef) rfl (Or.inr ⟨by kernel_rfl, rfl⟩) (by assumption) ?_
            try simp only [Act.put, ya, yb, yc, yd, ye, yf]
            refine tk 11 (v := undef) rfl (Or.inr ⟨by kernel_rfl, rfl⟩) (by assumption) ?_
            try simp only [Act.put, ya, yb, yc, yd, ye, yf]
            refine tk 12 (v := undef) rfl (Or.inr ⟨by kernel_rfl, rfl⟩) (by assumption) ?_
            try simp only [Act.put, ya, yb, yc, yd, ye, yf]
            refine tk 13 (v := undef) rfl (Or.inr ⟨by kernel_rfl, rfl⟩) (by assumption) ?_
            try simp only [Act.put, ya, yb, yc, yd, ye, yf]
            refine tk 14 (v := undef) rfl (Or.inr ⟨by kernel_rfl, rfl⟩) (by assumption) ?_
            try simp only [Act.put, ya, yb, yc, yd, ye, yf]
            refine tk 15 (v := undef) rfl (Or.inr ⟨by kernel_rfl, rfl⟩) (by assumption) ?_
            try simp only [Act.put, ya, yb, yc, yd, ye, yf]
            refine tk 16 (v := undef) rfl (Or.inr ⟨by kernel_rfl, rfl⟩) (by assumption) ?_
            try simp only [Act.put, ya, yb, yc, yd, ye, yf]
            refine tk 17 (v := undef) rfl (Or.inr ⟨by kernel_rfl, rfl⟩) (by assumption) ?_
            try simp only [Act.put, ya, yb, yc, yd, ye, yf]
            refine tk 18 (v := undef) rfl (Or.inr ⟨by kernel_rfl, rfl⟩) (by assumption) ?_
            try simp only [Act.put, ya, yb, yc, yd, ye, yf]
            refine tk 19 (v := undef) rfl (Or.inr ⟨by kernel_rfl, rfl⟩) (by assumption) ?_
            try simp only [Act.put, ya, yb, yc, yd, ye, yf]
            refine tk 20 (v := undef) rfl (Or.inr ⟨by kernel_rfl, rfl⟩) (by assumption) ?_
            try simp only [Act.put, ya, yb, yc, yd, ye, yf]
            refine tk 21 (v := undef) rfl (Or.inr ⟨by kernel_rfl, rfl⟩) (by assumption) ?_
            try simp only [Act.put, ya, yb, yc, yd, ye, yf]
            refine tj 22 rfl ?_
            try simp only [Act.put, ya, yb, yc, yd, ye, yf]
            refine wpAnyH_done (by kernel_rfl) ?_ _
            refine NoPanic.normal ?_
            go_wp2
            go_ret
            exact IffB.no NO.out (chainX w LW.out (chainX w BF.out BH.out))
          · skip
            cases bq
            · skip
              have NO := Lib.hid (NOP.out rfl)
              clear NOW YES HP
              (try clear NOP)
              (try clear H4)
              (try clear H5)
              have z0 := ZC0.out _ BH.out
              have z1 := ZC1.out _ BH.out
              have z2 := ZC2.out _ BH.out
              have z3 := ZC3.out _ BH.out
              have z4 := ZC4.out _ BH.out
              have z5 := ZC5.out _ BH.out
              have p0 := PC0.out _ BH.out
              have p1 := PC1.out _ BH.out
              have p2 := PC2.out _ BH.out
              have p3 := PC3.out _ BH.out
              have p4 := PC4.out _ BH.out
              have p5 := PC5.out _ BH.out
              go_wp2
              refine wp_region_noPanic ?_
              refine wp_region_held_drew (S := (fun w' => w'.cell? ⟨b, off + (j + 1) * 6, none⟩ = some (.string c.name) ∧ w'.cell? ⟨b, off + (j + 1) * 6 + 1, none⟩ = some (.int .i64 c.ver.epoch) ∧ w'.cell? ⟨b, off + (j + 1) * 6 + 2, none⟩ = some (.int .i64 c.ver.seq) ∧ w'.cell? ⟨b, off + (j + 1) * 6 + 3, none⟩ = some (.int .i64 c.pos) ∧ w'.cell? ⟨b, off + (j + 1) * 6 + 4, none⟩ = some (.int .i64 c.sum) ∧ w'.cell? ⟨b, off + (j + 1) * 6 + 5, none⟩ = some (.string c.bytes) ∧ w'.cell? ⟨b, off + j * 6, none⟩ = some (.string x.name) ∧ w'.cell? ⟨b, off + j * 6 + 1, none⟩ = some (.int .i64 x.ver.epoch) ∧ w'.cell? ⟨b, off + j * 6 + 2, none⟩ = some (.int .i64 x.ver.seq) ∧ w'.cell? ⟨b, off + j * 6 + 3, none⟩ = some (.int .i64 x.pos) ∧ w'.cell? ⟨b, off + j * 6 + 4, none⟩ = some (.int .i64 x.sum) ∧ w'.cell? ⟨b, off + j * 6 + 5, none⟩ = some (.string x.bytes))) (by kernel_rfl) ?_ (fun hHeld => ?_)
              · go_keep
              refine tj 0 rfl ?_
              try simp only [Act.put, ya, yb, yc, yd, ye, yf]
              refine tj 1 rfl ?_
              try simp only [Act.put, ya, yb, yc, yd, ye, yf]
              refine tj 2 rfl ?_
              try simp only [Act.put, ya, yb, yc, yd, ye, yf]
              refine tj 3 rfl ?_
              try simp only [Act.put, ya, yb, yc, yd, ye, yf]
              refine wpAnyH_ready (rs := [4]) (by kernel_rfl) (by simp) ?_
              refine AllReadyH.cons rfl (fun K hK => ?_) AllReadyH.nil
              go_simp
              (go_at_call 72; refine (C0.out _ (by first | exact BH.out | exact BH.out.drew)).mono ?_; rintro e9 w9 ⟨rfl, b9⟩; (try replace b9 := undrewX b9); have BH := Lib.hid (chainX _ BH.out b9); have z0 := ZC0.out _ BH.out; have z1 := ZC1.out _ BH.out; have z2 := ZC2.out _ BH.out; have z3 := ZC3.out _ BH.out; have z4 := ZC4.out _ BH.out; have z5 := ZC5.out _ BH.out; have p0 := PC0.out _ BH.out; have p1 := PC1.out _ BH.out; have p2 := PC2.out _ BH.out; have p3 := PC3.out _ BH.out; have p4 := PC4.out _ BH.out; have p5 := PC5.out _ BH.out; clear b9)
              (try go_wp2_with fail)
              refine hK.out _ _ ?_ (fun hHeld4 => ?_)
              · (try dsimp only); go_keep
              clear hK K
              try simp only [Act.put, ya, yb, yc, yd, ye, yf]
              refine tj 5 rfl ?_
              try simp only [Act.put, ya, yb, yc, yd, ye, yf]
              refine tj 6 rfl ?_
              try simp only [Act.put, ya, yb, yc, yd, ye, yf]
              refine tj 7 rfl ?_
              try simp only [Act.put, ya, yb, yc, yd, ye, yf]
              refine tj 8 rfl ?_
              try simp only [Act.put, ya, yb, yc, yd, ye, yf]
              refine tj 9 rfl ?_
              try simp only [Act.put, ya, yb, yc, yd, ye, yf]
              refine tj 10 rfl ?_
              try simp only [Act.put, ya, yb, yc, yd, ye, yf]
              refine tj 11 rfl ?_
              try simp only [Act.put, ya, yb, yc, yd, ye, yf]
              refine tj 12 rfl ?_
              try simp only [Act.put, ya, yb, yc, yd, ye, yf]
              refine tj 13 rfl ?_
              try simp only [Act.put, ya, yb, yc, yd, ye, yf]
              refine tj 14 rfl ?_
              try simp only [Act.put, ya, yb, yc, yd, ye, yf]
              refine tj 15 rfl ?_
              try simp only [Act.put, ya, yb, yc, yd, ye, yf]
              refine tj 16 rfl ?_
              try simp only [Act.put, ya, yb, yc, yd, ye, yf]
              refine tj 17 rfl ?_
              try simp only [Act.put, ya, yb, yc, yd, ye, yf]
              refine tj 18 rfl ?_
              try simp only [Act.put, ya, yb, yc, yd, ye, yf]
              refine wpAnyH_ready (rs := [19]) (by kernel_rfl) (by simp) ?_
              refine AllReadyH.cons rfl (fun K hK => ?_) AllReadyH.nil
              go_simp
              (go_at_call 73; refine (CQ.out _ (by first | exact BH.out | exact BH.out.drew)).mono ?_; rintro e9 w9 ⟨rfl, b9⟩; (try replace b9 := undrewX b9); have BH := Lib.hid (chainX _ BH.out b9); have z0 := ZC0.out _ BH.out; have z1 := ZC1.out _ BH.out; have z2 := ZC2.out _ BH.out; have z3 := ZC3.out _ BH.out; have z4 := ZC4.out _ BH.out; have z5 := ZC5.out _ BH.out; have p0 := PC0.out _ BH.out; have p1 := PC1.out _ BH.out; have p2 := PC2.out _ BH.out; have p3 := PC3.out _ BH.out; have p4 := PC4.out _ BH.out; have p5 := PC5.out _ BH.out; clear b9)
              (try go_wp2_with fail)
              refine hK.out _ _ ?_ (fun hHeld19 => ?_)
              · (try dsimp only); go_keep
              clear hK K
              try simp only [Act.put, ya, yb, yc, yd, ye, yf]
              refine tj 20 rfl ?_
              try simp only [Act.put, ya, yb, yc, yd, ye, yf]
              refine tj 21 rfl ?_
              try simp only [Act.put, ya, yb, yc, yd, ye, yf]
              refine tj 22 rfl ?_
              try simp only [Act.put, ya, yb, yc, yd, ye, yf]
              refine wpAnyH_done (by kernel_rfl) ?_ _
              refine NoPanic.normal ?_
              go_wp2
              go_ret
              exact IffB.no NO.out (chainX w LW.out (chainX w BF.out BH.out))
            · skip
              have H5 := Lib.hid (H4.out rfl)
              clear NOP H4
              have HV : chB c = true := by rw [HP]; try rfl
              clear NOW HP
              have H3 := Lib.hid (YES.out HV)
              clear YES HV
              have z0 := ZC0.out _ BH.out
              have z1 := ZC1.out _ BH.out
              have z2 := ZC2.out _ BH.out
              have z3 := ZC3.out _ BH.out
              have z4 := ZC4.out _ BH.out
              have z5 := ZC5.out _ BH.out
              have p0 := PC0.out _ BH.out
              have p1 := PC1.out _ BH.out
              have p2 := PC2.out _ BH.out
              have p3 := PC3.out _ BH.out
              have p4 := PC4.out _ BH.out
              have p5 := PC5.out _ BH.out
              go_wp2
              refine wp_region_noPanic ?_
              refine wp_region_held_drew (S := (fun w' => w'.cell? ⟨b, off + (j + 1) * 6, none⟩ = some (.string c.name) ∧ w'.cell? ⟨b, off + (j + 1) * 6 + 1, none⟩ = some (.int .i64 c.ver.epoch) ∧ w'.cell? ⟨b, off + (j + 1) * 6 + 2, none⟩ = some (.int .i64 c.ver.seq) ∧ w'.cell? ⟨b, off + (j + 1) * 6 + 3, none⟩ = some (.int .i64 c.pos) ∧ w'.cell? ⟨b, off + (j + 1) * 6 + 4, none⟩ = some (.int .i64 c.sum) ∧ w'.cell? ⟨b, off + (j + 1) * 6 + 5, none⟩ = some (.string c.bytes) ∧ w'.cell? ⟨b, off + j * 6, none⟩ = some (.string x.name) ∧ w'.cell? ⟨b, off + j * 6 + 1, none⟩ = some (.int .i64 x.ver.epoch) ∧ w'.cell? ⟨b, off + j * 6 + 2, none⟩ = some (.int .i64 x.ver.seq) ∧ w'.cell? ⟨b, off + j * 6 + 3, none⟩ = some (.int .i64 x.pos) ∧ w'.cell? ⟨b, off + j * 6 + 4, none⟩ = some (.int .i64 x.sum) ∧ w'.cell? ⟨b, off + j * 6 + 5, none⟩ = some (.string x.bytes))) (by kernel_rfl) ?_ (fun hHeld => ?_)
              · go_keep
              refine tj 0 rfl ?_
              try simp only [Act.put, ya, yb, yc, yd, ye, yf]
              refine tj 1 rfl ?_
              try simp only [Act.put, ya, yb, yc, yd, ye, yf]
              refine tj 2 rfl ?_
              try simp only [Act.put, ya, yb, yc, yd, ye, yf]
              refine tj 3 rfl ?_
              try simp only [Act.put, ya, yb, yc, yd, ye, yf]
              refine wpAnyH_ready (rs := [4]) (by kernel_rfl) (by simp) ?_
              refine AllReadyH.cons rfl (fun K hK => ?_) AllReadyH.nil
              go_simp
              (go_at_call 72; refine (C0.out _ (by first | exact BH.out | exact BH.out.drew)).mono ?_; rintro e9 w9 ⟨rfl, b9⟩; (try replace b9 := undrewX b9); have BH := Lib.hid (chainX _ BH.out b9); have z0 := ZC0.out _ BH.out; have z1 := ZC1.out _ BH.out; have z2 := ZC2.out _ BH.out; have z3 := ZC3.out _ BH.out; have z4 := ZC4.out _ BH.out; have z5 := ZC5.out _ BH.out; have p0 := PC0.out _ BH.out; have p1 := PC1.out _ BH.out; have p2 := PC2.out _ BH.out; have p3 := PC3.out _ BH.out; have p4 := PC4.out _ BH.out; have p5 := PC5.out _ BH.out; clear b9)
              (try go_wp2_with fail)
              refine hK.out _ _ ?_ (fun hHeld4 => ?_)
              · (try dsimp only); go_keep
              clear hK K
              try simp only [Act.put, ya, yb, yc, yd, ye, yf]
              refine tj 5 rfl ?_
              try simp only [Act.put, ya, yb, yc, yd, ye, yf]
              refine tj 6 rfl ?_
              try simp only [Act.put, ya, yb, yc, yd, ye, yf]
              refine tj 7 rfl ?_
              try simp only [Act.put, ya, yb, yc, yd, ye, yf]
              refine tj 8 rfl ?_
              try simp only [Act.put, ya, yb, yc, yd, ye, yf]
              refine tj 9 rfl ?_
              try simp only [Act.put, ya, yb, yc, yd, ye, yf]
              refine tj 10 rfl ?_
              try simp only [Act.put, ya, yb, yc, yd, ye, yf]
              refine tj 11 rfl ?_
              try simp only [Act.put, ya, yb, yc, yd, ye, yf]
              refine tj 12 rfl ?_
              try simp only [Act.put, ya, yb, yc, yd, ye, yf]
              refine tj 13 rfl ?_
              try simp only [Act.put, ya, yb, yc, yd, ye, yf]
              refine tj 14 rfl ?_
              try simp only [Act.put, ya, yb, yc, yd, ye, yf]
              refine tj 15 rfl ?_
              try simp only [Act.put, ya, yb, yc, yd, ye, yf]
              refine tj 16 rfl ?_
              try simp only [Act.put, ya, yb, yc, yd, ye, yf]
              refine tj 17 rfl ?_
              try simp only [Act.put, ya, yb, yc, yd, ye, yf]
              refine tj 18 rfl ?_
              try simp only [Act.put, ya, yb, yc, yd, ye, yf]
              refine wpAnyH_ready (rs := [19]) (by kernel_rfl) (by simp) ?_
              refine AllReadyH.cons rfl (fun K hK => ?_) AllReadyH.nil
              go_simp
              (go_at_call 73; refine (CQ.out _ (by first | exact BH.out | exact BH.out.drew)).mono ?_; rintro e9 w9 ⟨rfl, b9⟩; (try replace b9 := undrewX b9); have BH := Lib.hid (chainX _ BH.out b9); have z0 := ZC0.out _ BH.out; have z1 := ZC1.out _ BH.out; have z2 := ZC2.out _ BH.out; have z3 := ZC3.out _ BH.out; have z4 := ZC4.out _ BH.out; have z5 := ZC5.out _ BH.out; have p0 := PC0.out _ BH.out; have p1 := PC1.out _ BH.out; have p2 := PC2.out _ BH.out; have p3 := PC3.out _ BH.out; have p4 := PC4.out _ BH.out; have p5 := PC5.out _ BH.out; clear b9)
              (try go_wp2_with fail)
              refine hK.out _ _ ?_ (fun hHeld19 => ?_)
              · (try dsimp only); go_keep
              clear hK K
              try simp only [Act.put, ya, yb, yc, yd, ye, yf]
              refine tj 20 rfl ?_
              try simp only [Act.put, ya, yb, yc, yd, ye, yf]
              refine tj 21 rfl ?_
              try simp only [Act.put, ya, yb, yc, yd, ye, yf]
              refine tj 22 rfl ?_
              try simp only [Act.put, ya, yb, yc, yd, ye, yf]
              refine wpAnyH_done (by kernel_rfl) ?_ _
              refine NoPanic.normal ?_
              go_wp2
              have BZ := Lib.hid (chainX w BF.out BH.out)
              go_roundw
              case rel => exact ⟨j + 1 + 1, by omega, by omega, by go_num, H5.out, H3.out, BZ.out⟩
              case measure => simp [intOf]; omega
    · obtain rfl : k = n := by omega
      clear hw
      by_cases hmx : k ≤ 160
      · have YS := Lib.hid (show SeqP 160 cLt chB l from ⟨by rw [HN.out]; exact hmx, fun i x y h1 h2 => H1.out i x y (LEN.out _ _ h2) h1 h2, fun i x h1 => H2.out i x (LEN.out _ _ h1) h1⟩)
        have d2 : decide ((k : Int) ≤ 160) = true := decide_eq_true (by omega)
        go_wp2
        go_ret
        exact IffB.yes YS.out BW.out
      · have NO := Lib.hid (show ¬ SeqP 160 cLt chB l from fun h => hmx (by rw [← HN.out]; exact h.1))
        have d2 : decide ((k : Int) ≤ 160) = false := decide_eq_false (by omega)
        go_wp2
        go_ret
        exact IffB.no NO.out BW.out
end Go.Proofs.YtbckdfoapmjilaaGreatDoor.Rd
