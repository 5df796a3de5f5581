/-
  Last requests tested in the model (written by tools/gen/stx.py).
-/
import Derived.Test.YtbckdfoapmjilaaGreatDoorStM
import Derived.Test.YtbckdfoapmjilaaGreatDoorVer
import Derived.Test.YtbckdfoapmjilaaGreatDoorNst
import Derived.Test.YtbckdfoapmjilaaGreatDoorRs
import Derived.Deep.DeepCutAuto
import Derived.Deep.RegionHeld3
namespace Go.Proofs.YtbckdfoapmjilaaGreatDoor.Rd
open Go.RowKit Go.ChangeShapes Go.WideShapes Go.Proofs.YtbckdfoapmjilaaGreatDoor.GfI Go.Proofs.YtbckdfoapmjilaaGreatDoor.GfS
open Go.Proofs.YtbckdfoapmjilaaGreatDoor.Sg (BxN)
set_option linter.unusedVariables false
set_option linter.unusedSimpArgs false

theorem specFullB2 (a : DVer) (w : World) : Calls Tryz.prog 67 #[.agg #[.int .i64 a.epoch, .int .i64 a.seq]] w (RetW (.bool (fullB a)) w) := specFull a w
set_option maxRecDepth 100000 in
set_option maxHeartbeats 4000000 in
theorem specLasts (a : Option Addr) (cap : Nat) (l : List DLast) (m : DVer) (w : World) (hl : l.length ≤ 2097152) {fr : Bool} {lo : Nat} (hc : Rows fr lo w a l) :
    Calls Tryz.prog 32 #[.slice a l.length cap, .agg #[.int .i64 m.epoch, .int .i64 m.seq]] w (IffB (SeqP 6 lLt (lastB m) l) w) := by
  have LW := Lib.hid (lay w (.cells #[.int .i64 m.epoch, .int .i64 m.seq] 35))
  have M0 := Lib.hid (BxN.new w #[.int .i64 m.epoch, .int .i64 m.seq] 35)
  have M_0 := M0.out.cells 0 _ rfl
  have M_1 := M0.out.cells 1 _ rfl
  have RH := Lib.hid (hc.below LW.out)
  have GET := Lib.hid (fun k (h : k < l.length) => get_lt h)
  have LEN := Lib.hid (fun k x (h : l[k]? = some x) => (List.getElem?_eq_some_iff.1 h).1)
  obtain ⟨n, hn⟩ : ∃ n, l.length = n := ⟨_, rfl⟩
  have HN := Lib.hid hn
  rw [hn] at hl GET LEN ⊢
  clear hn hc
  go_enter Tryz.func32, Tryz.ntmps32
  go_wp2
  go_loopw [5] (fun i wr => ∃ k : Nat, k ≤ n ∧ k ≤ 7 ∧ i = .int .i64 k ∧ (∀ (i : Nat) (x y : DLast), i + 1 < k → l[i]? = some x → l[i + 1]? = some y → lLt x y = true) ∧ (∀ (i : Nat) (x : DLast), i < k → l[i]? = some x → (lastB m) x = true) ∧ Below (w.alloc (.cells #[.int .i64 m.epoch, .int .i64 m.seq] 35)).heap.size (w.alloc (.cells #[.int .i64 m.epoch, .int .i64 m.seq] 35)) wr) (fun i _ => n - (intOf i).toNat)
  case atStart => exact ⟨0, by omega, by omega, rfl, fun i x y hi => absurd hi (Nat.not_lt_zero _), fun i x hi => absurd hi (Nat.not_lt_zero _), Below.refl _ _⟩
  case round =>
    obtain ⟨k, hk, hk2, rfl, H1, H2, hw⟩ := hrel
    have H1 := Lib.hid H1
    have H2 := Lib.hid H2
    have BW := Lib.hid (chainX w LW.out hw)
    by_cases hlt : k < n
    · by_cases hmx : k ≤ 6
      rotate_left
      · have NO := Lib.hid (show ¬ SeqP 6 lLt (lastB m) l from fun h => by have h1 := h.1; have h2 := HN.out; omega)
        have d1 : decide ((k : Int) ≤ 6) = false := decide_eq_false (by omega)
        have d2 : decide ((n : Int) ≤ 6) = false := decide_eq_false (by omega)
        clear hw
        go_wp2
        go_ret
        exact IffB.no NO.out BW.out
      · have dk : decide ((k : Int) ≤ 6) = true := decide_eq_true (by omega)
        obtain ⟨y, hx⟩ := GET.out k hlt
        obtain ⟨b, off, cs, ea, -, hB, hr, hcc⟩ := (RH.out.below hw).at' hx
        obtain ⟨rfl, f0_0, f0_1, f0_2, f0_3⟩ := shape_Last hr
        have z0 : wr.cell? ⟨b, off + k * 4, none⟩ = some (.int .i64 y.client) := hcc 0 _ rfl
        have z1 : wr.cell? ⟨b, off + k * 4 + 1, none⟩ = some (.int .i64 y.no) := hcc 1 _ rfl
        have z2 : wr.cell? ⟨b, off + k * 4 + 2, none⟩ = some (.int .i64 y.ver.epoch) := hcc 2 _ rfl
        have z3 : wr.cell? ⟨b, off + k * 4 + 3, none⟩ = some (.int .i64 y.ver.seq) := hcc 3 _ rfl
        have LE := lay wr (.cells #[.int .i64 y.client, .int .i64 y.no, .int .i64 y.ver.epoch, .int .i64 y.ver.seq] 111)
        have EH := Lib.hid (BxN.new wr #[.int .i64 y.client, .int .i64 y.no, .int .i64 y.ver.epoch, .int .i64 y.ver.seq] 111)
        have E_0 := EH.out.cells 0 _ rfl
        have E_1 := EH.out.cells 1 _ rfl
        have E_2 := EH.out.cells 2 _ rfl
        have E_3 := EH.out.cells 3 _ rfl
        have MH := Lib.hid ((M0.out.later hw).later LE)
        have m_0 := (M0.out.later hw).cells 0 _ rfl
        have m_1 := (M0.out.later hw).cells 1 _ rfl
        have BF := Lib.hid (chainX (w.alloc (.cells #[.int .i64 m.epoch, .int .i64 m.seq] 35)) hw LE)
        have BH := Lib.hid (Below.refl (wr.alloc (.cells #[.int .i64 y.client, .int .i64 y.no, .int .i64 y.ver.epoch, .int .i64 y.ver.seq] 111)).heap.size (wr.alloc (.cells #[.int .i64 y.client, .int .i64 y.no, .int .i64 y.ver.epoch, .int .i64 y.ver.seq] 111)))
        have HX := Lib.hid hx
        have C0 := Lib.hid (fun w' (q : Below (wr.alloc (.cells #[.int .i64 y.client, .int .i64 y.no, .int .i64 y.ver.epoch, .int .i64 y.ver.seq] 111)).heap.size (wr.alloc (.cells #[.int .i64 y.client, .int .i64 y.no, .int .i64 y.ver.epoch, .int .i64 y.ver.seq] 111)) w') => same_ret (specClient y.client w'))
        have C2 := Lib.hid (fun w' (q : Below (wr.alloc (.cells #[.int .i64 y.client, .int .i64 y.no, .int .i64 y.ver.epoch, .int .i64 y.ver.seq] 111)).heap.size (wr.alloc (.cells #[.int .i64 y.client, .int .i64 y.no, .int .i64 y.ver.epoch, .int .i64 y.ver.seq] 111)) w') => same_ret (l00In y.no 1 1000 w'))
        have C3 := Lib.hid (fun w' (q : Below (wr.alloc (.cells #[.int .i64 y.client, .int .i64 y.no, .int .i64 y.ver.epoch, .int .i64 y.ver.seq] 111)).heap.size (wr.alloc (.cells #[.int .i64 y.client, .int .i64 y.no, .int .i64 y.ver.epoch, .int .i64 y.ver.seq] 111)) w') => specFullB2 y.ver w')
        have C4 := Lib.hid (fun w' (q : Below (wr.alloc (.cells #[.int .i64 y.client, .int .i64 y.no, .int .i64 y.ver.epoch, .int .i64 y.ver.seq] 111)).heap.size (wr.alloc (.cells #[.int .i64 y.client, .int .i64 y.no, .int .i64 y.ver.epoch, .int .i64 y.ver.seq] 111)) w') => specVerLess m y.ver w')
        have NOW := Lib.hid (fun (hno : (lastB m) y = false) => (show ¬ SeqP 6 lLt (lastB m) l from fun hS => by have := hS.2.2 k y HX.out; rw [hno] at this; cases this))
        have YES := Lib.hid (fun (hok : (lastB m) y = true) => (show ∀ (i : Nat) (x : DLast), i < k + 1 → l[i]? = some x → (lastB m) x = true from fun i x hi hxi => by
          by_cases e : i = k
          · subst e; rw [HX.out] at hxi; cases hxi; exact hok
          · exact H2.out i x (by omega) hxi))
        have HP := (show lastB m y = (inB y.client 100 105 && (inB y.no 1 1000 && (fullB y.ver && !verL m y.ver))) from rfl)
        generalize inB y.client 100 105 = b0 at *
        generalize inB y.no 1 1000 = b2 at *
        generalize fullB y.ver = b3 at *
        generalize verL m y.ver = b4 at *
        by_cases hk0 : k = 0
        · subst hk0
          simp only [Nat.zero_mul, Nat.add_zero] at z0 z1 z2 z3
          have H5 := Lib.hid (show ∀ (i : Nat) (x y : DLast), i + 1 < 0 + 1 → l[i]? = some x → l[i + 1]? = some y → lLt x y = true from fun i x y hi => absurd hi (by omega))
          clear hcc hr hx hw LE H1 H2
          subst ea
          cases b0
          · skip
            have NO := Lib.hid (NOW.out (by rw [HP]; try simp))
            clear NOW YES HP
            (try clear NOP)
            (try clear H4)
            (try clear H5)
            obtain ⟨E_0, E_1, E_2, E_3⟩ := c4 EH.out
            obtain ⟨M_0, M_1⟩ := c2 MH.out
            go_wp2
            refine wp_region_noPanic ?_
            refine wp_region_held_drew (S := (fun w' => w'.cell? ⟨wr.heap.size, 0, none⟩ = some (.int .i64 y.client) ∧ w'.cell? ⟨wr.heap.size, 1, none⟩ = some (.int .i64 y.no) ∧ w'.cell? ⟨wr.heap.size, 2, none⟩ = some (.int .i64 y.ver.epoch) ∧ w'.cell? ⟨wr.heap.size, 3, none⟩ = some (.int .i64 y.ver.seq) ∧ w'.cell? ⟨w.heap.size, 0, none⟩ = some (.int .i64 m.epoch) ∧ w'.cell? ⟨w.heap.size, 1, none⟩ = some (.int .i64 m.seq))) (by kernel_rfl) ?_ (fun hHeld => ?_)
            · go_keep
            refine tj 0 rfl ?_
            try simp only [Act.put, ya, yb, yc, yd, ye, yf]
            refine tj 1 rfl ?_
            try simp only [Act.put, ya, yb, yc, yd, ye, yf]
            refine wpAnyH_ready (rs := [2]) (by kernel_rfl) (by simp) ?_
            refine AllReadyH.cons rfl (fun K hK => ?_) AllReadyH.nil
            go_simp
            (go_at_call 69; refine (C0.out _ (by first | exact BH.out | exact BH.out.drew)).mono ?_; rintro e9 w9 ⟨rfl, b9⟩; (try replace b9 := undrewX b9); have EH := Lib.hid (EH.out.later b9); have MH := Lib.hid (MH.out.later b9); have BH := Lib.hid (chainX _ BH.out b9); obtain ⟨E_0, E_1, E_2, E_3⟩ := c4 EH.out; obtain ⟨M_0, M_1⟩ := c2 MH.out; clear b9)
            (try go_wp2_with fail)
            refine hK.out _ _ ?_ (fun hHeld2 => ?_)
            · (try dsimp only); go_keep
            clear hK K
            try simp only [Act.put, ya, yb, yc, yd, ye, yf]
            refine tj 3 rfl ?_
            try simp only [Act.put, ya, yb, yc, yd, ye, yf]
            refine tj 4 rfl ?_
            try simp only [Act.put, ya, yb, yc, yd, ye, yf]
            refine tk 5 (v := undef) rfl (Or.inr ⟨by kernel_rfl, rfl⟩) (by assumption) ?_
            try simp only [Act.put, ya, yb, yc, yd, ye, yf]
            refine tk 6 (v := undef) rfl (Or.inr ⟨by kernel_rfl, rfl⟩) (by assumption) ?_
            try simp only [Act.put, ya, yb, yc, yd, ye, yf]
            refine tk 7 (v := undef) rfl (Or.inr ⟨by kernel_rfl, rfl⟩) (by assumption) ?_
            try simp only [Act.put, ya, yb, yc, yd, ye, yf]
            refine tk 8 (v := undef) rfl (Or.inr ⟨by kernel_rfl, rfl⟩) (by assumption) ?_
            try simp only [Act.put, ya, yb, yc, yd, ye, yf]
            refine tk 9 (v := undef) rfl (Or.inr ⟨by kernel_rfl, rfl⟩) (by assumption) ?_
            try simp only [Act.put, ya, yb, yc, yd, ye, yf]
            refine tk 10 (v := undef) rfl (Or.inr ⟨by kernel_rfl, rfl⟩) (by assumption) ?_
            try simp only [Act.put, ya, yb, yc, yd, ye, yf]
            refine tk 11 (v := undef) rfl (Or.inr ⟨by kernel_rfl, rfl⟩) (by assumption) ?_
            try simp only [Act.put, ya, yb, yc, yd, ye, yf]
            refine tk 12 (v := undef) rfl (Or.inr ⟨by kernel_rfl, rfl⟩) (by assumption) ?_
            try simp only [Act.put, ya, yb, yc, yd, ye, yf]
            refine tk 13 (v := undef) rfl (Or.inr ⟨by kernel_rfl, rfl⟩) (by assumption) ?_
            try simp only [Act.put, ya, yb, yc, yd, ye, yf]
            refine tk 14 (v := undef) rfl (Or.inr ⟨by kernel_rfl, rfl⟩) (by assumption) ?_
            try simp only [Act.put, ya, yb, yc, yd, ye, yf]
            refine tk 15 (v := undef) rfl (Or.inr ⟨by kernel_rfl, rfl⟩) (by assumption) ?_
            try simp only [Act.put, ya, yb, yc, yd, ye, yf]
            refine tk 16 (v := undef) rfl (Or.inr ⟨by kernel_rfl, rfl⟩) (by assumption) ?_
            try simp only [Act.put, ya, yb, yc, yd, ye, yf]
            refine tk 17 (v := undef) rfl (Or.inr ⟨by kernel_rfl, rfl⟩) (by assumption) ?_
            try simp only [Act.put, ya, yb, yc, yd, ye, yf]
            refine tj 18 rfl ?_
            try simp only [Act.put, ya, yb, yc, yd, ye, yf]
            refine tj 19 rfl ?_
            try simp only [Act.put, ya, yb, yc, yd, ye, yf]
            refine tk 20 (v := undef) rfl (Or.inr ⟨by kernel_rfl, rfl⟩) (by assumption) ?_
            try simp only [Act.put, ya, yb, yc, yd, ye, yf]
            refine tk 21 (v := undef) rfl (Or.inr ⟨by kernel_rfl, rfl⟩) (by assumption) ?_
            try simp only [Act.put, ya, yb, yc, yd, ye, yf]
            refine tk 22 (v := undef) rfl (Or.inr ⟨by kernel_rfl, rfl⟩) (by assumption) ?_
            try simp only [Act.put, ya, yb, yc, yd, ye, yf]
            refine tk 23 (v := undef) rfl (Or.inr ⟨by kernel_rfl, rfl⟩) (by assumption) ?_
            try simp only [Act.put, ya, yb, yc, yd, ye, yf]
            refine tj 24 rfl ?_
            try simp only [Act.put, ya, yb, yc, yd, ye, yf]
            refine tj 25 rfl ?_
            try simp only [Act.put, ya, yb, yc, yd, ye, yf]
            refine tk 26 (v := undef) rfl (Or.inr ⟨by kernel_rfl, rfl⟩) (by assumption) ?_
            try simp only [Act.put, ya, yb, yc, yd, ye, yf]
            refine tk 27 (v := undef) rfl (Or.inr ⟨by kernel_rfl, rfl⟩) (by assumption) ?_
            try simp only [Act.put, ya, yb, yc, yd, ye, yf]
            refine tk 28 (v := undef) rfl (Or.inr ⟨by kernel_rfl, rfl⟩) (by assumption) ?_
            try simp only [Act.put, ya, yb, yc, yd, ye, yf]
            refine tk 29 (v := undef) rfl (Or.inr ⟨by kernel_rfl, rfl⟩) (by assumption) ?_
            try simp only [Act.put, ya, yb, yc, yd, ye, yf]
            refine tj 30 rfl ?_
            try simp only [Act.put, ya, yb, yc, yd, ye, yf]
            refine tj 31 rfl ?_
            try simp only [Act.put, ya, yb, yc, yd, ye, yf]
            refine tk 32 (v := undef) rfl (Or.inr ⟨by kernel_rfl, rfl⟩) (by assumption) ?_
            try simp only [Act.put, ya, yb, yc, yd, ye, yf]
            refine tk 33 (v := undef) rfl (Or.inr ⟨by kernel_rfl, rfl⟩) (by assumption) ?_
            try simp only [Act.put, ya, yb, yc, yd, ye, yf]
            refine tk 34 (v := undef) rfl (Or.inr ⟨by kernel_rfl, rfl⟩) (by assumption) ?_
            try simp only [Act.put, ya, yb, yc, yd, ye, yf]
            refine tk 35 (v := undef) rfl (Or.inr ⟨by kernel_rfl, rfl⟩) (by assumption) ?_
            try simp only [Act.put, ya, yb, yc, yd, ye, yf]
            refine tj 36 rfl ?_
            try simp only [Act.put, ya, yb, yc, yd, ye, yf]
            refine wpAnyH_done (by kernel_rfl) ?_ _
            refine NoPanic.normal ?_
            go_wp2
            go_ret
            exact IffB.no NO.out (chainX w LW.out (chainX (w.alloc (.cells #[.int .i64 m.epoch, .int .i64 m.seq] 35)) BF.out BH.out))
          · skip
            cases b2
            · skip
              have NO := Lib.hid (NOW.out (by rw [HP]; try simp))
              clear NOW YES HP
              (try clear NOP)
              (try clear H4)
              (try clear H5)
              obtain ⟨E_0, E_1, E_2, E_3⟩ := c4 EH.out
              obtain ⟨M_0, M_1⟩ := c2 MH.out
              go_wp2
              refine wp_region_noPanic ?_
              refine wp_region_held_drew (S := (fun w' => w'.cell? ⟨wr.heap.size, 0, none⟩ = some (.int .i64 y.client) ∧ w'.cell? ⟨wr.heap.size, 1, none⟩ = some (.int .i64 y.no) ∧ w'.cell? ⟨wr.heap.size, 2, none⟩ = some (.int .i64 y.ver.epoch) ∧ w'.cell? ⟨wr.heap.size, 3, none⟩ = some (.int .i64 y.ver.seq) ∧ w'.cell? ⟨w.heap.size, 0, none⟩ = some (.int .i64 m.epoch) ∧ w'.cell? ⟨w.heap.size, 1, none⟩ = some (.int .i64 m.seq))) (by kernel_rfl) ?_ (fun hHeld => ?_)
              · go_keep
              refine tj 0 rfl ?_
              try simp only [Act.put, ya, yb, yc, yd, ye, yf]
              refine tj 1 rfl ?_
              try simp only [Act.put, ya, yb, yc, yd, ye, yf]
              refine wpAnyH_ready (rs := [2]) (by kernel_rfl) (by simp) ?_
              refine AllReadyH.cons rfl (fun K hK => ?_) AllReadyH.nil
              go_simp
              (go_at_call 69; refine (C0.out _ (by first | exact BH.out | exact BH.out.drew)).mono ?_; rintro e9 w9 ⟨rfl, b9⟩; (try replace b9 := undrewX b9); have EH := Lib.hid (EH.out.later b9); have MH := Lib.hid (MH.out.later b9); have BH := Lib.hid (chainX _ BH.out b9); obtain ⟨E_0, E_1, E_2, E_3⟩ := c4 EH.out; obtain ⟨M_0, M_1⟩ := c2 MH.out; clear b9)
              (try go_wp2_with fail)
              refine hK.out _ _ ?_ (fun hHeld2 => ?_)
              · (try dsimp only); go_keep
              clear hK K
              try simp only [Act.put, ya, yb, yc, yd, ye, yf]
              refine tj 3 rfl ?_
              try simp only [Act.put, ya, yb, yc, yd, ye, yf]
              refine tj 4 rfl ?_
              try simp only [Act.put, ya, yb, yc, yd, ye, yf]
              refine tj 5 rfl ?_
              try simp only [Act.put, ya, yb, yc, yd, ye, yf]
              refine tj 6 rfl ?_
              try simp only [Act.put, ya, yb, yc, yd, ye, yf]
              refine tj 7 rfl ?_
              try simp only [Act.put, ya, yb, yc, yd, ye, yf]
              refine tk 8 (v := undef) rfl (Or.inr ⟨by kernel_rfl, rfl⟩) (by assumption) ?_
              try simp only [Act.put, ya, yb, yc, yd, ye, yf]
              refine tk 9 (v := undef) rfl (Or.inr ⟨by kernel_rfl, rfl⟩) (by assumption) ?_
              try simp only [Act.put, ya, yb, yc, yd, ye, yf]
              refine tk 10 (v := undef) rfl (Or.inr ⟨by kernel_rfl, rfl⟩) (by assumption) ?_
              try simp only [Act.put, ya, yb, yc, yd, ye, yf]
              refine tk 11 (v := undef) rfl (Or.inr ⟨by kernel_rfl, rfl⟩) (by assumption) ?_
              try simp only [Act.put, ya, yb, yc, yd, ye, yf]
              refine tk 12 (v := undef) rfl (Or.inr ⟨by kernel_rfl, rfl⟩) (by assumption) ?_
              try simp only [Act.put, ya, yb, yc, yd, ye, yf]
              refine tk 13 (v := undef) rfl (Or.inr ⟨by kernel_rfl, rfl⟩) (by assumption) ?_
              try simp only [Act.put, ya, yb, yc, yd, ye, yf]
              refine tk 14 (v := undef) rfl (Or.inr ⟨by kernel_rfl, rfl⟩) (by assumption) ?_
              try simp only [Act.put, ya, yb, yc, yd, ye, yf]
              refine tk 15 (v := undef) rfl (Or.inr ⟨by kernel_rfl, rfl⟩) (by assumption) ?_
              try simp only [Act.put, ya, yb, yc, yd, ye, yf]
              refine tk 16 (v := undef) rfl (Or.inr ⟨by kernel_rfl, rfl⟩) (by assumption) ?_
              try simp only [Act.put, ya, yb, yc, yd, ye, yf]
              refine tj 17 rfl ?_
              try simp only [Act.put, ya, yb, yc, yd, ye, yf]
              refine tj 18 rfl ?_
              try simp only [Act.put, ya, yb, yc, yd, ye, yf]
              refine tj 19 rfl ?_
              try simp only [Act.put, ya, yb, yc, yd, ye, yf]
              refine tj 20 rfl ?_
              try simp only [Act.put, ya, yb, yc, yd, ye, yf]
              refine tj 21 rfl ?_
              try simp only [Act.put, ya, yb, yc, yd, ye, yf]
              refine wpAnyH_ready (rs := [22]) (by kernel_rfl) (by simp) ?_
              refine AllReadyH.cons rfl (fun K hK => ?_) AllReadyH.nil
              go_simp
              (go_at_call 29; refine (C2.out _ (by first | exact BH.out | exact BH.out.drew)).mono ?_; rintro e9 w9 ⟨rfl, b9⟩; (try replace b9 := undrewX b9); have EH := Lib.hid (EH.out.later b9); have MH := Lib.hid (MH.out.later b9); have BH := Lib.hid (chainX _ BH.out b9); obtain ⟨E_0, E_1, E_2, E_3⟩ := c4 EH.out; obtain ⟨M_0, M_1⟩ := c2 MH.out; clear b9)
              (try go_wp2_with fail)
              refine hK.out _ _ ?_ (fun hHeld22 => ?_)
              · (try dsimp only); go_keep
              clear hK K
              try simp only [Act.put, ya, yb, yc, yd, ye, yf]
              refine tj 23 rfl ?_
              try simp only [Act.put, ya, yb, yc, yd, ye, yf]
              refine tj 24 rfl ?_
              try simp only [Act.put, ya, yb, yc, yd, ye, yf]
              refine tj 25 rfl ?_
              try simp only [Act.put, ya, yb, yc, yd, ye, yf]
              refine tk 26 (v := undef) rfl (Or.inr ⟨by kernel_rfl, rfl⟩) (by assumption) ?_
              try simp only [Act.put, ya, yb, yc, yd, ye, yf]
              refine tk 27 (v := undef) rfl (Or.inr ⟨by kernel_rfl, rfl⟩) (by assumption) ?_
              try simp only [Act.put, ya, yb, yc, yd, ye, yf]
              refine tk 28 (v := undef) rfl (Or.inr ⟨by kernel_rfl, rfl⟩) (by assumption) ?_
              try simp only [Act.put, ya, yb, yc, yd, ye, yf]
              refine tk 29 (v := undef) rfl (Or.inr ⟨by kernel_rfl, rfl⟩) (by assumption) ?_
              try simp only [Act.put, ya, yb, yc, yd, ye, yf]
              refine tj 30 rfl ?_
              try simp only [Act.put, ya, yb, yc, yd, ye, yf]
              refine tj 31 rfl ?_
              try simp only [Act.put, ya, yb, yc, yd, ye, yf]
              refine tk 32 (v := undef) rfl (Or.inr ⟨by kernel_rfl, rfl⟩) (by assumption) ?_
              try simp only [Act.put, ya, yb, yc, yd, ye, yf]
              refine tk 33 (v := undef) rfl (Or.inr ⟨by kernel_rfl, rfl⟩) (by assumption) ?_
              try simp only [Act.put, ya, yb, yc, yd, ye, yf]
              refine tk 34 (v := undef) rfl (Or.inr ⟨by kernel_rfl, rfl⟩) (by assumption) ?_
              try simp only [Act.put, ya, yb, yc, yd, ye, yf]
              refine tk 35 (v := undef) rfl (Or.inr ⟨by kernel_rfl, rfl⟩) (by assumption) ?_
              try simp only [Act.put, ya, yb, yc, yd, ye, yf]
              refine tj 36 rfl ?_
              try simp only [Act.put, ya, yb, yc, yd, ye, yf]
              refine wpAnyH_done (by kernel_rfl) ?_ _
              refine NoPanic.normal ?_
              go_wp2
              go_ret
              exact IffB.no NO.out (chainX w LW.out (chainX (w.alloc (.cells #[.int .i64 m.epoch, .int .i64 m.seq] 35)) BF.out BH.out))
            · skip
              cases b3
              · skip
                have NO := Lib.hid (NOW.out (by rw [HP]; try simp))
                clear NOW YES HP
                (try clear NOP)
                (try clear H4)
                (try clear H5)
                obtain ⟨E_0, E_1, E_2, E_3⟩ := c4 EH.out
                obtain ⟨M_0, M_1⟩ := c2 MH.out
                go_wp2
                refine wp_region_noPanic ?_
                refine wp_region_held_drew (S := (fun w' => w'.cell? ⟨wr.heap.size, 0, none⟩ = some (.int .i64 y.client) ∧ w'.cell? ⟨wr.heap.size, 1, none⟩ = some (.int .i64 y.no) ∧ w'.cell? ⟨wr.heap.size, 2, none⟩ = some (.int .i64 y.ver.epoch) ∧ w'.cell? ⟨wr.heap.size, 3, none⟩ = some (.int .i64 y.ver.seq) ∧ w'.cell? ⟨w.heap.size, 0, none⟩ = some (.int .i64 m.epoch) ∧ w'.cell? ⟨w.heap.size, 1, none⟩ = some (.int .i64 m.seq))) (by kernel_rfl) ?_ (fun hHeld => ?_)
                · go_keep
                refine tj 0 rfl ?_
                try simp only [Act.put, ya, yb, yc, yd, ye, yf]
                refine tj 1 rfl ?_
                try simp only [Act.put, ya, yb, yc, yd, ye, yf]
                refine wpAnyH_ready (rs := [2]) (by kernel_rfl) (by simp) ?_
                refine AllReadyH.cons rfl (fun K hK => ?_) AllReadyH.nil
                go_simp
                (go_at_call 69; refine (C0.out _ (by first | exact BH.out | exact BH.out.drew)).mono ?_; rintro e9 w9 ⟨rfl, b9⟩; (try replace b9 := undrewX b9); have EH := Lib.hid (EH.out.later b9); have MH := Lib.hid (MH.out.later b9); have BH := Lib.hid (chainX _ BH.out b9); obtain ⟨E_0, E_1, E_2, E_3⟩ := c4 EH.out; obtain ⟨M_0, M_1⟩ := c2 MH.out; clear b9)
                (try go_wp2_with fail)
                refine hK.out _ _ ?_ (fun hHeld2 => ?_)
                · (try dsimp only); go_keep
                clear hK K
                try simp only [Act.put, ya, yb, yc, yd, ye, yf]
                refine tj 3 rfl ?_
                try simp only [Act.put, ya, yb, yc, yd, ye, yf]
                refine tj 4 rfl ?_
                try simp only [Act.put, ya, yb, yc, yd, ye, yf]
                refine tj 5 rfl ?_
                try simp only [Act.put, ya, yb, yc, yd, ye, yf]
                refine tj 6 rfl ?_
                try simp only [Act.put, ya, yb, yc, yd, ye, yf]
                refine tj 7 rfl ?_
                try simp only [Act.put, ya, yb, yc, yd, ye, yf]
                refine tk 8 (v := undef) rfl (Or.inr ⟨by kernel_rfl, rfl⟩) (by assumption) ?_
                try simp only [Act.put, ya, yb, yc, yd, ye, yf]
                refine tk 9 (v := undef) rfl (Or.inr ⟨by kernel_rfl, rfl⟩) (by assumption) ?_
                try simp only [Act.put, ya, yb, yc, yd, ye, yf]
                refine tk 10 (v := undef) rfl (Or.inr ⟨by kernel_rfl, rfl⟩) (by assumption) ?_
                try simp only [Act.put, ya, yb, yc, yd, ye, yf]
                refine tk 11 (v := undef) rfl (Or.inr ⟨by kernel_rfl, rfl⟩) (by assumption) ?_
                try simp only [Act.put, ya, yb, yc, yd, ye, yf]
                refine tk 12 (v := undef) rfl (Or.inr ⟨by kernel_rfl, rfl⟩) (by assumption) ?_
                try simp only [Act.put, ya, yb, yc, yd, ye, yf]
                refine tk 13 (v := undef) rfl (Or.inr ⟨by kernel_rfl, rfl⟩) (by assumption) ?_
                try simp only [Act.put, ya, yb, yc, yd, ye, yf]
                refine tk 14 (v := undef) rfl (Or.inr ⟨by kernel_rfl, rfl⟩) (by assumption) ?_
                try simp only [Act.put, ya, yb, yc, yd, ye, yf]
                refine tk 15 (v := undef) rfl (Or.inr ⟨by kernel_rfl, rfl⟩) (by assumption) ?_
                try simp only [Act.put, ya, yb, yc, yd, ye, yf]
                refine tk 16 (v := undef) rfl (Or.inr ⟨by kernel_rfl, rfl⟩) (by assumption) ?_
                try simp only [Act.put, ya, yb, yc, yd, ye, yf]
                refine tj 17 rfl ?_
                try simp only [Act.put, ya, yb, yc, yd, ye, yf]
                refine tj 18 rfl ?_
                try simp only [Act.put, ya, yb, yc, yd, ye, yf]
                refine tj 19 rfl ?_
                try simp only [Act.put, ya, yb, yc, yd, ye, yf]
                refine tj 20 rfl ?_
                try simp only [Act.put, ya, yb, yc, yd, ye, yf]
                refine tj 21 rfl ?_
                try simp only [Act.put, ya, yb, yc, yd, ye, yf]
                refine wpAnyH_ready (rs := [22]) (by kernel_rfl) (by simp) ?_
                refine AllReadyH.cons rfl (fun K hK => ?_) AllReadyH.nil
                go_simp
                (go_at_call 29; refine (C2.out _ (by first | exact BH.out | exact BH.out.drew)).mono ?_; rintro e9 w9 ⟨rfl, b9⟩; (try replace b9 := undrewX b9); have EH := Lib.hid (EH.out.later b9); have MH := Lib.hid (MH.out.later b9); have BH := Lib.hid (chainX _ BH.out b9); obtain ⟨E_0, E_1, E_2, E_3⟩ := c4 EH.out; obtain ⟨M_0, M_1⟩ := c2 MH.out; clear b9)
                (try go_wp2_with fail)
                refine hK.out _ _ ?_ (fun hHeld22 => ?_)
                · (try dsimp only); go_keep
                clear hK K
                try simp only [Act.put, ya, yb, yc, yd, ye, yf]
                refine tj 23 rfl ?_
                try simp only [Act.put, ya, yb, yc, yd, ye, yf]
                refine tj 24 rfl ?_
                try simp only [Act.put, ya, yb, yc, yd, ye, yf]
                refine tj 25 rfl ?_
                try simp only [Act.put, ya, yb, yc, yd, ye, yf]
                refine tj 26 rfl ?_
                try simp only [Act.put, ya, yb, yc, yd, ye, yf]
                refine tj 27 rfl ?_
                try simp only [Act.put, ya, yb, yc, yd, ye, yf]
                refine wpAnyH_ready (rs := [28]) (by kernel_rfl) (by simp) ?_
                refine AllReadyH.cons rfl (fun K hK => ?_) AllReadyH.nil
                go_simp
                (go_at_call 67; refine (C3.out _ (by first | exact BH.out | exact BH.out.drew)).mono ?_; rintro e9 w9 ⟨rfl, b9⟩; (try replace b9 := undrewX b9); have EH := Lib.hid (EH.out.later b9); have MH := Lib.hid (MH.out.later b9); have BH := Lib.hid (chainX _ BH.out b9); obtain ⟨E_0, E_1, E_2, E_3⟩ := c4 EH.out; obtain ⟨M_0, M_1⟩ := c2 MH.out; clear b9)
                (try go_wp2_with fail)
                refine hK.out _ _ ?_ (fun hHeld28 => ?_)
                · (try dsimp only); go_keep
                clear hK K
                try simp only [Act.put, ya, yb, yc, yd, ye, yf]
                refine tj 29 rfl ?_
                try simp only [Act.put, ya, yb, yc, yd, ye, yf]
                refine tj 30 rfl ?_
                try simp only [Act.put, ya, yb, yc, yd, ye, yf]
                refine tj 31 rfl ?_
                try simp only [Act.put, ya, yb, yc, yd, ye, yf]
                refine tk 32 (v := undef) rfl (Or.inr ⟨by kernel_rfl, rfl⟩) (by assumption) ?_
                try simp only [Act.put, ya, yb, yc, yd, ye, yf]
                refine tk 33 (v := undef) rfl (Or.inr ⟨by kernel_rfl, rfl⟩) (by assumption) ?_
                try simp only [Act.put, ya, yb, yc, yd, ye, yf]
                refine tk 34 (v := undef) rfl (Or.inr ⟨by kernel_rfl, rfl⟩) (by assumption) ?_
                try simp only [Act.put, ya, yb, yc, yd, ye, yf]
                refine tk 35 (v := undef) rfl (Or.inr ⟨by kernel_rfl, rfl⟩) (by assumption) ?_
                try simp only [Act.put, ya, yb, yc, yd, ye, yf]
                refine tj 36 rfl ?_
                try simp only [Act.put, ya, yb, yc, yd, ye, yf]
                refine wpAnyH_done (by kernel_rfl) ?_ _
                refine NoPanic.normal ?_
                go_wp2
                go_ret
                exact IffB.no NO.out (chainX w LW.out (chainX (w.alloc (.cells #[.int .i64 m.epoch, .int .i64 m.seq] 35)) BF.out BH.out))
              · skip
                cases b4
                · skip
                  have HV : (lastB m) y = true := by rw [HP]; try rfl
                  clear NOW HP
                  have H3 := Lib.hid (YES.out HV)
                  clear YES HV
                  obtain ⟨E_0, E_1, E_2, E_3⟩ := c4 EH.out
                  obtain ⟨M_0, M_1⟩ := c2 MH.out
                  go_wp2
                  refine wp_region_noPanic ?_
                  refine wp_region_held_drew (S := (fun w' => w'.cell? ⟨wr.heap.size, 0, none⟩ = some (.int .i64 y.client) ∧ w'.cell? ⟨wr.heap.size, 1, none⟩ = some (.int .i64 y.no) ∧ w'.cell? ⟨wr.heap.size, 2, none⟩ = some (.int .i64 y.ver.epoch) ∧ w'.cell? ⟨wr.heap.size, 3, none⟩ = some (.int .i64 y.ver.seq) ∧ w'.cell? ⟨w.heap.size, 0, none⟩ = some (.int .i64 m.epoch) ∧ w'.cell? ⟨w.heap.size, 1, none⟩ = some (.int .i64 m.seq))) (by kernel_rfl) ?_ (fun hHeld => ?_)
                  · go_keep
                  refine tj 0 rfl ?_
                  try simp only [Act.put, ya, yb, yc, yd, ye, yf]
                  refine tj 1 rfl ?_
                  try simp only [Act.put, ya, yb, yc, yd, ye, yf]
                  refine wpAnyH_ready (rs := [2]) (by kernel_rfl) (by simp) ?_
                  refine AllReadyH.cons rfl (fun K hK => ?_) AllReadyH.nil
                  go_simp
                  (go_at_call 69; refine (C0.out _ (by first | exact BH.out | exact BH.out.drew)).mono ?_; rintro e9 w9 ⟨rfl, b9⟩; (try replace b9 := undrewX b9); have EH := Lib.hid (EH.out.later b9); have MH := Lib.hid (MH.out.later b9); have BH := Lib.hid (chainX _ BH.out b9); obtain ⟨E_0, E_1, E_2, E_3⟩ := c4 EH.out; obtain ⟨M_0, M_1⟩ := c2 MH.out; clear b9)
                  (try go_wp2_with fail)
                  refine hK.out _ _ ?_ (fun hHeld2 => ?_)
                  · (try dsimp only); go_keep
                  clear hK K
                  try simp only [Act.put, ya, yb, yc, yd, ye, yf]
                  refine tj 3 rfl ?_
                  try simp only [Act.put, ya, yb, yc, yd, ye, yf]
                  refine tj 4 rfl ?_
                  try simp only [Act.put, ya, yb, yc, yd, ye, yf]
                  refine tj 5 rfl ?_
                  try simp only [Act.put, ya, yb, yc, yd, ye, yf]
                  refine tj 6 rfl ?_
                  try simp only [Act.put, ya, yb, yc, yd, ye, yf]
                  refine tj 7 rfl ?_
                  try simp only [Act.put, ya, yb, yc, yd, ye, yf]
                  refine tk 8 (v := undef) rfl (Or.inr ⟨by kernel_rfl, rfl⟩) (by assumption) ?_
                  try simp only [Act.put, ya, yb, yc, yd, ye, yf]
                  refine tk 9 (v := undef) rfl (Or.inr ⟨by kernel_rfl, rfl⟩) (by assumption) ?_
                  try simp only [Act.put, ya, yb, yc, yd, ye, yf]
                  refine tk 10 (v := undef) rfl (Or.inr ⟨by kernel_rfl, rfl⟩) (by assumption) ?_
                  try simp only [Act.put, ya, yb, yc, yd, ye, yf]
                  refine tk 11 (v := undef) rfl (Or.inr ⟨by kernel_rfl, rfl⟩) (by assumption) ?_
                  try simp only [Act.put, ya, yb, yc, yd, ye, yf]
                  refine tk 12 (v := undef) rfl (Or.inr ⟨by kernel_rfl, rfl⟩) (by assumption) ?_
                  try simp only [Act.put, ya, yb, yc, yd, ye, yf]
                  refine tk 13 (v := undef) rfl (Or.inr ⟨by kernel_rfl, rfl⟩) (by assumption) ?_
                  try simp only [Act.put, ya, yb, yc, yd, ye, yf]
                  refine tk 14 (v := undef) rfl (Or.inr ⟨by kernel_rfl, rfl⟩) (by assumption) ?_
                  try simp only [Act.put, ya, yb, yc, yd, ye, yf]
                  refine tk 15 (v := undef) rfl (Or.inr ⟨by kernel_rfl, rfl⟩) (by assumption) ?_
                  try simp only [Act.put, ya, yb, yc, yd, ye, yf]
                  refine tk 16 (v := undef) rfl (Or.inr ⟨by kernel_rfl, rfl⟩) (by assumption) ?_
                  try simp only [Act.put, ya, yb, yc, yd, ye, yf]
                  refine tj 17 rfl ?_
                  try simp only [Act.put, ya, yb, yc, yd, ye, yf]
                  refine tj 18 rfl ?_
                  try simp only [Act.put, ya, yb, yc, yd, ye, yf]
                  refine tj 19 rfl ?_
                  try simp only [Act.put, ya, yb, yc, yd, ye, yf]
                  refine tj 20 rfl ?_
                  try simp only [Act.put, ya, yb, yc, yd, ye, yf]
                  refine tj 21 rfl ?_
                  try simp only [Act.put, ya, yb, yc, yd, ye, yf]
                  refine wpAnyH_ready (rs := [22]) (by kernel_rfl) (by simp) ?_
                  refine AllReadyH.cons rfl (fun K hK => ?_) AllReadyH.nil
                  go_simp
                  (go_at_call 29; refine (C2.out _ (by first | exact BH.out | exact BH.out.drew)).mono ?_; rintro e9 w9 ⟨rfl, b9⟩; (try replace b9 := undrewX b9); have EH := Lib.hid (EH.out.later b9); have MH := Lib.hid (MH.out.later b9); have BH := Lib.hid (chainX _ BH.out b9); obtain ⟨E_0, E_1, E_2, E_3⟩ := c4 EH.out; obtain ⟨M_0, M_1⟩ := c2 MH.out; clear b9)
                  (try go_wp2_with fail)
                  refine hK.out _ _ ?_ (fun hHeld22 => ?_)
                  · (try dsimp only); go_keep
                  clear hK K
                  try simp only [Act.put, ya, yb, yc, yd, ye, yf]
                  refine tj 23 rfl ?_
                  try simp only [Act.put, ya, yb, yc, yd, ye, yf]
                  refine tj 24 rfl ?_
                  try simp only [Act.put, ya, yb, yc, yd, ye, yf]
                  refine tj 25 rfl ?_
                  try simp only [Act.put, ya, yb, yc, yd, ye, yf]
                  refine tj 26 rfl ?_
                  try simp only [Act.put, ya, yb, yc, yd, ye, yf]
                  refine tj 27 rfl ?_
                  try simp only [Act.put, ya, yb, yc, yd, ye, yf]
                  refine wpAnyH_ready (rs := [28]) (by kernel_rfl) (by simp) ?_
                  refine AllReadyH.cons rfl (fun K hK => ?_) AllReadyH.nil
                  go_simp
                  (go_at_call 67; refine (C3.out _ (by first | exact BH.out | exact BH.out.drew)).mono ?_; rintro e9 w9 ⟨rfl, b9⟩; (try replace b9 := undrewX b9); have EH := Lib.hid (EH.out.later b9); have MH := Lib.hid (MH.out.later b9); have BH := Lib.hid (chainX _ BH.out b9); obtain ⟨E_0, E_1, E_2, E_3⟩ := c4 EH.out; obtain ⟨M_0, M_1⟩ := c2 MH.out; clear b9)
                  (try go_wp2_with fail)
                  refine hK.out _ _ ?_ (fun hHeld28 => ?_)
                  · (try dsimp only); go_keep
                  clear hK K
                  try simp only [Act.put, ya, yb, yc, yd, ye, yf]
                  refine tj 29 rfl ?_
                  try simp only [Act.put, ya, yb, yc, yd, ye, yf]
                  refine tj 30 rfl ?_
                  try simp only [Act.put, ya, yb, yc, yd, ye, yf]
                  refine tj 31 rfl ?_
                  try simp only [Act.put, ya, yb, yc, yd, ye, yf]
                  refine tj 32 rfl ?_
                  try simp only [Act.put, ya, yb, yc, yd, ye, yf]
                  refine tj 33 rfl ?_
                  try simp only [Act.put, ya, yb, yc, yd, ye, yf]
                  refine tj 34 rfl ?_
                  try simp only [Act.put, ya, yb, yc, yd, ye, yf]
                  refine wpAnyH_ready (rs := [35]) (by kernel_rfl) (by simp) ?_
                  refine AllReadyH.cons rfl (fun K hK => ?_) AllReadyH.nil
                  go_simp
                  (go_at_call 34; refine (C4.out _ (by first | exact BH.out | exact BH.out.drew)).mono ?_; rintro e9 w9 ⟨rfl, b9⟩; (try replace b9 := undrewX b9); have EH := Lib.hid (EH.out.later b9); have MH := Lib.hid (MH.out.later b9); have BH := Lib.hid (chainX _ BH.out b9); obtain ⟨E_0, E_1, E_2, E_3⟩ := c4 EH.out; obtain ⟨M_0, M_1⟩ := c2 MH.out; clear b9)
                  (try go_wp2_with fail)
                  refine hK.out _ _ ?_ (fun hHeld35 => ?_)
                  · (try dsimp only); go_keep
                  clear hK K
                  try simp only [Act.put, ya, yb, yc, yd, ye, yf]
                  refine tj 36 rfl ?_
                  try simp only [Act.put, ya, yb, yc, yd, ye, yf]
                  refine wpAnyH_done (by kernel_rfl) ?_ _
                  refine NoPanic.normal ?_
                  go_wp2
                  have BZ := Lib.hid (chainX (w.alloc (.cells #[.int .i64 m.epoch, .int .i64 m.seq] 35)) BF.out BH.out)
                  go_roundw
                  case rel => exact ⟨0 + 1, by omega, by omega, by go_num, H5.out, H3.out, BZ.out⟩
                  case measure => simp [intOf]; omega
                · skip
                  have NO := Lib.hid (NOW.out (by rw [HP]; try simp))
                  clear NOW YES HP
                  (try clear NOP)
                  (try clear H4)
                  (try clear H5)
                  obtain ⟨E_0, E_1, E_2, E_3⟩ := c4 EH.out
                  obtain ⟨M_0, M_1⟩ := c2 MH.out
                  go_wp2
                  refine wp_region_noPanic ?_
                  refine wp_region_held_drew (S := (fun w' => w'.cell? ⟨wr.heap.size, 0, none⟩ = some (.int .i64 y.client) ∧ w'.cell? ⟨wr.heap.size, 1, none⟩ = some (.int .i64 y.no) ∧ w'.cell? ⟨wr.heap.size, 2, none⟩ = some (.int .i64 y.ver.epoch) ∧ w'.cell? ⟨wr.heap.size, 3, none⟩ = some (.int .i64 y.ver.seq) ∧ w'.cell? ⟨w.heap.size, 0, none⟩ = some (.int .i64 m.epoch) ∧ w'.cell? ⟨w.heap.size, 1, none⟩ = some (.int .i64 m.seq))) (by kernel_rfl) ?_ (fun hHeld => ?_)
                  · go_keep
                  refine tj 0 rfl ?_
                  try simp only [Act.put, ya, yb, yc, yd, ye, yf]
                  refine tj 1 rfl ?_
                  try simp only [Act.put, ya, yb, yc, yd, ye, yf]
                  refine wpAnyH_ready (rs := [2]) (by kernel_rfl) (by simp) ?_
                  refine AllReadyH.cons rfl (fun K hK => ?_) AllReadyH.nil
                  go_simp
                  (go_at_call 69; refine (C0.out _ (by first | exact BH.out | exact BH.out.drew)).mono ?_; rintro e9 w9 ⟨rfl, b9⟩; (try replace b9 := undrewX b9); have EH := Lib.hid (EH.out.later b9); have MH := Lib.hid (MH.out.later b9); have BH := Lib.hid (chainX _ BH.out b9); obtain ⟨E_0, E_1, E_2, E_3⟩ := c4 EH.out; obtain ⟨M_0, M_1⟩ := c2 MH.out; clear b9)
                  (try go_wp2_with fail)
                  refine hK.out _ _ ?_ (fun hHeld2 => ?_)
                  · (try dsimp only); go_keep
                  clear hK K
                  try simp only [Act.put, ya, yb, yc, yd, ye, yf]
                  refine tj 3 rfl ?_
                  try simp only [Act.put, ya, yb, yc, yd, ye, yf]
                  refine tj 4 rfl ?_
                  try simp only [Act.put, ya, yb, yc, yd, ye, yf]
                  refine tj 5 rfl ?_
                  try simp only [Act.put, ya, yb, yc, yd, ye, yf]
                  refine tj 6 rfl ?_
                  try simp only [Act.put, ya, yb, yc, yd, ye, yf]
                  refine tj 7 rfl ?_
                  try simp only [Act.put, ya, yb, yc, yd, ye, yf]
                  refine tk 8 (v := undef) rfl (Or.inr ⟨by kernel_rfl, rfl⟩) (by assumption) ?_
                  try simp only [Act.put, ya, yb, yc, yd, ye, yf]
                  refine tk 9 (v := undef) rfl (Or.inr ⟨by kernel_rfl, rfl⟩) (by assumption) ?_
                  try simp only [Act.put, ya, yb, yc, yd, ye, yf]
                  refine tk 10 (v := undef) rfl (Or.inr ⟨by kernel_rfl, rfl⟩) (by assumption) ?_
                  try simp only [Act.put, ya, yb, yc, yd, ye, yf]
                  refine tk 11 (v := undef) rfl (Or.inr ⟨by kernel_rfl, rfl⟩) (by assumption) ?_
                  try simp only [Act.put, ya, yb, yc, yd, ye, yf]
                  refine tk 12 (v := undef) rfl (Or.inr ⟨by kernel_rfl, rfl⟩) (by assumption) ?_
                  try simp only [Act.put, ya, yb, yc, yd, ye, yf]
                  refine tk 13 (v := undef) rfl (Or.inr ⟨by kernel_rfl, rfl⟩) (by assumption) ?_
                  try simp only [Act.put, ya, yb, yc, yd, ye, yf]
                  refine tk 14 (v := undef) rfl (Or.inr ⟨by kernel_rfl, rfl⟩) (by assumption) ?_
                  try simp only [Act.put, ya, yb, yc, yd, ye, yf]
                  refine tk 15 (v := undef) rfl (Or.inr ⟨by kernel_rfl, rfl⟩) (by assumption) ?_
                  try simp only [Act.put, ya, yb, yc, yd, ye, yf]
                  refine tk 16 (v := undef) rfl (Or.inr ⟨by kernel_rfl, rfl⟩) (by assumption) ?_
                  try simp only [Act.put, ya, yb, yc, yd, ye, yf]
                  refine tj 17 rfl ?_
                  try simp only [Act.put, ya, yb, yc, yd, ye, yf]
                  refine tj 18 rfl ?_
                  try simp only [Act.put, ya, yb, yc, yd, ye, yf]
                  refine tj 19 rfl ?_
                  try simp only [Act.put, ya, yb, yc, yd, ye, yf]
                  refine tj 20 rfl ?_
                  try simp only [Act.put, ya, yb, yc, yd, ye, yf]
                  refine tj 21 rfl ?_
                  try simp only [Act.put, ya, yb, yc, yd, ye, yf]
                  refine wpAnyH_ready (rs := [22]) (by kernel_rfl) (by simp) ?_
                  refine AllReadyH.cons rfl (fun K hK => ?_) AllReadyH.nil
                  go_simp
                  (go_at_call 29; refine (C2.out _ (by first | exact BH.out | exact BH.out.drew)).mono ?_; rintro e9 w9 ⟨rfl, b9⟩; (try replace b9 := undrewX b9); have EH := Lib.hid (EH.out.later b9); have MH := Lib.hid (MH.out.later b9); have BH := Lib.hid (chainX _ BH.out b9); obtain ⟨E_0, E_1, E_2, E_3⟩ := c4 EH.out; obtain ⟨M_0, M_1⟩ := c2 MH.out; clear b9)
                  (try go_wp2_with fail)
                  refine hK.out _ _ ?_ (fun hHeld22 => ?_)
                  · (try dsimp only); go_keep
                  clear hK K
                  try simp only [Act.put, ya, yb, yc, yd, ye, yf]
                  refine tj 23 rfl ?_
                  try simp only [Act.put, ya, yb, yc, yd, ye, yf]
                  refine tj 24 rfl ?_
                  try simp only [Act.put, ya, yb, yc, yd, ye, yf]
                  refine tj 25 rfl ?_
                  try simp only [Act.put, ya, yb, yc, yd, ye, yf]
                  refine tj 26 rfl ?_
                  try simp only [Act.put, ya, yb, yc, yd, ye, yf]
                  refine tj 27 rfl ?_
                  try simp only [Act.put, ya, yb, yc, yd, ye, yf]
                  refine wpAnyH_ready (rs := [28]) (by kernel_rfl) (by simp) ?_
                  refine AllReadyH.cons rfl (fun K hK => ?_) AllReadyH.nil
                  go_simp
                  (go_at_call 67; refine (C3.out _ (by first | exact BH.out | exact BH.out.drew)).mono ?_; rintro e9 w9 ⟨rfl, b9⟩; (try replace b9 := undrewX b9); have EH := Lib.hid (EH.out.later b9); have MH := Lib.hid (MH.out.later b9); have BH := Lib.hid (chainX _ BH.out b9); obtain ⟨E_0, E_1, E_2, E_3⟩ := c4 EH.out; obtain ⟨M_0, M_1⟩ := c2 MH.out; clear b9)
                  (try go_wp2_with fail)
                  refine hK.out _ _ ?_ (fun hHeld28 => ?_)
                  · (try dsimp only); go_keep
                  clear hK K
                  try simp only [Act.put, ya, yb, yc, yd, ye, yf]
                  refine tj 29 rfl ?_
                  try simp only [Act.put, ya, yb, yc, yd, ye, yf]
                  refine tj 30 rfl ?_
                  try simp only [Act.put, ya, yb, yc, yd, ye, yf]
                  refine tj 31 rfl ?_
                  try simp only [Act.put, ya, yb, yc, yd, ye, yf]
                  refine tj 32 rfl ?_
                  try simp only [Act.put, ya, yb, yc, yd, ye, yf]
                  refine tj 33 rfl ?_
                  try simp only [Act.put, ya, yb, yc, yd, ye, yf]
                  refine tj 34 rfl ?_
                  try simp only [Act.put, ya, yb, yc, yd, ye, yf]
                  refine wpAnyH_ready (rs := [35]) (by kernel_rfl) (by simp) ?_
                  refine AllReadyH.cons rfl (fun K hK => ?_) AllReadyH.nil
                  go_simp
                  (go_at_call 34; refine (C4.out _ (by first | exact BH.out | exact BH.out.drew)).mono ?_; rintro e9 w9 ⟨rfl, b9⟩; (try replace b9 := undrewX b9); have EH := Lib.hid (EH.out.later b9); have MH := Lib.hid (MH.out.later b9); have BH := Lib.hid (chainX _ BH.out b9); obtain ⟨E_0, E_1, E_2, E_3⟩ := c4 EH.out; obtain ⟨M_0, M_1⟩ := c2 MH.out; clear b9)
                  (try go_wp2_with fail)
                  refine hK.out _ _ ?_ (fun hHeld35 => ?_)
                  · (try dsimp only); go_keep
                  clear hK K
                  try simp only [Act.put, ya, yb, yc, yd, ye, yf]
                  refine tj 36 rfl ?_
                  try simp only [Act.put, ya, yb, yc, yd, ye, yf]
                  refine wpAnyH_done (by kernel_rfl) ?_ _
                  refine NoPanic.normal ?_
                  go_wp2
                  go_ret
                  exact IffB.no NO.out (chainX w LW.out (chainX (w.alloc (.cells #[.int .i64 m.epoch, .int .i64 m.seq] 35)) BF.out BH.out))
        · obtain ⟨j, rfl⟩ : ∃ j, k = j + 1 := ⟨k - 1, by omega⟩
          obtain ⟨x, hpx⟩ := GET.out j (by omega)
          obtain ⟨b', off', cs', e', -, -, hr2, hcc2⟩ := (RH.out.below hw).at' hpx
          rw [ea] at e'
          obtain ⟨rfl, rfl⟩ : b = b' ∧ off = off' := by simpa using e'
          obtain ⟨rfl, f1_0, f1_1, f1_2, f1_3⟩ := shape_Last hr2
          have PC0 := Lib.hid (fun w' (q : Below (wr.alloc (.cells #[.int .i64 y.client, .int .i64 y.no, .int .i64 y.ver.epoch, .int .i64 y.ver.seq] 111)).heap.size (wr.alloc (.cells #[.int .i64 y.client, .int .i64 y.no, .int .i64 y.ver.epoch, .int .i64 y.ver.seq] 111)) w') => (q.cell (p := ⟨b, off + j * 4, none⟩) (Nat.lt_of_lt_of_le hB LE.size)).trans ((LE.cell (p := ⟨b, off + j * 4, none⟩) hB).trans (show wr.cell? ⟨b, off + j * 4, none⟩ = some (.int .i64 x.client) from hcc2 0 _ rfl)))
          have y0 : wr.cell? ⟨b, off + j * 4, none⟩ = some (.int .i64 x.client) := hcc2 0 _ rfl
          have NOP := Lib.hid (fun (hno : lLt x y = false) => (show ¬ SeqP 6 lLt (lastB m) l from fun hS => by have := hS.2.1 j x y hpx HX.out; rw [hno] at this; cases this))
          have H4 := Lib.hid (fun (hok : lLt x y = true) => (show ∀ (i : Nat) (x y : DLast), i + 1 < j + 1 + 1 → l[i]? = some x → l[i + 1]? = some y → lLt x y = true from fun i x' y' hi h1 h2 => by
            by_cases e : i = j
            · subst e; rw [hpx] at h1; rw [HX.out] at h2; cases h1; cases h2; exact hok
            · exact H1.out i x' y' (by omega) h1 h2))
          have j0 : (0 : Int) ≤ (j : Int) := by omega
          have j1 : (j : Int) < (n : Int) := by omega
          have WK : IntKind.i64.wrap (((j + 1 : Nat) : Int) - 1) = (j : Int) := by rw [IntKind.wrap_i64]; omega
          have WK2 : IntKind.i64.wrap (j : Int) = (j : Int) := by rw [IntKind.wrap_i64]; omega
          have k2 : (0 : Int) ≤ (j : Int) + 1 := by omega
          have k3 : (0 : Int) < (j : Int) + 1 := by omega
          have k1 : ((j + 1 : Nat) : Int) < (n : Int) := by omega
          generalize hbq : lLt x y = bq at *
          unfold lLt at hbq
          clear hcc hr hx hw LE H1 H2 hpx hr2 hcc2
          subst ea
          cases b0
          · skip
            have NO := Lib.hid (NOW.out (by rw [HP]; try simp))
            clear NOW YES HP
            (try clear NOP)
            (try clear H4)
            (try clear H5)
            obtain ⟨E_0, E_1, E_2, E_3⟩ := c4 EH.out
            obtain ⟨M_0, M_1⟩ := c2 MH.out
            have p0 := PC0.out _ BH.out
            go_wp2
            refine wp_region_noPanic ?_
            refine wp_region_held_drew (S := (fun w' => w'.cell? ⟨wr.heap.size, 0, none⟩ = some (.int .i64 y.client) ∧ w'.cell? ⟨wr.heap.size, 1, none⟩ = some (.int .i64 y.no) ∧ w'.cell? ⟨wr.heap.size, 2, none⟩ = some (.int .i64 y.ver.epoch) ∧ w'.cell? ⟨wr.heap.size, 3, none⟩ = some (.int .i64 y.ver.seq) ∧ w'.cell? ⟨w.heap.size, 0, none⟩ = some (.int .i64 m.epoch) ∧ w'.cell? ⟨w.heap.size, 1, none⟩ = some (.int .i64 m.seq) ∧ w'.cell? ⟨b, off + j * 4, none⟩ = some (.int .i64 x.client))) (by kernel_rfl) ?_ (fun hHeld => ?_)
            · go_keep
            refine tj 0 rfl ?_
            try simp only [Act.put, ya, yb, yc, yd, ye, yf]
            refine tj 1 rfl ?_
            try simp only [Act.put, ya, yb, yc, yd, ye, yf]
            refine wpAnyH_ready (rs := [2]) (by kernel_rfl) (by simp) ?_
            refine AllReadyH.cons rfl (fun K hK => ?_) AllReadyH.nil
            go_simp
            (go_at_call 69; refine (C0.out _ (by first | exact BH.out | exact BH.out.drew)).mono ?_; rintro e9 w9 ⟨rfl, b9⟩; (try replace b9 := undrewX b9); have EH := Lib.hid (EH.out.later b9); have MH := Lib.hid (MH.out.later b9); have BH := Lib.hid (chainX _ BH.out b9); obtain ⟨E_0, E_1, E_2, E_3⟩ := c4 EH.out; obtain ⟨M_0, M_1⟩ := c2 MH.out; have p0 := PC0.out _ BH.out; clear b9)
            (try go_wp2_with fail)
            refine hK.out _ _ ?_ (fun hHeld2 => ?_)
            · (try dsimp only); go_keep
            clear hK K
            try simp only [Act.put, ya, yb, yc, yd, ye, yf]
            refine tj 3 rfl ?_
            try simp only [Act.put, ya, yb, yc, yd, ye, yf]
            refine tj 4 rfl ?_
            try simp only [Act.put, ya, yb, yc, yd, ye, yf]
            refine tk 5 (v := undef) rfl (Or.inr ⟨by kernel_rfl, rfl⟩) (by assumption) ?_
            try simp only [Act.put, ya, yb, yc, yd, ye, yf]
            refine tk 6 (v := undef) rfl (Or.inr ⟨by kernel_rfl, rfl⟩) (by assumption) ?_
            try simp only [Act.put, ya, yb, yc, yd, ye, yf]
            refine tk 7 (v := undef) rfl (Or.inr ⟨by kernel_rfl, rfl⟩) (by assumption) ?_
            try simp only [Act.put, ya, yb, yc, yd, ye, yf]
            refine tk 8 (v := undef) rfl (Or.inr ⟨by kernel_rfl, rfl⟩) (by assumption) ?_
            try simp only [Act.put, ya, yb, yc, yd, ye, yf]
            refine tk 9 (v := undef) rfl (Or.inr ⟨by kernel_rfl, rfl⟩) (by assumption) ?_
            try simp only [Act.put, ya, yb, yc, yd, ye, yf]
            refine tk 10 (v := undef) rfl (Or.inr ⟨by kernel_rfl, rfl⟩) (by assumption) ?_
            try simp only [Act.put, ya, yb, yc, yd, ye, yf]
            refine tk 11 (v := undef) rfl (Or.inr ⟨by kernel_rfl, rfl⟩) (by assumption) ?_
            try simp only [Act.put, ya, yb, yc, yd, ye, yf]
            refine tk 12 (v := undef) rfl (Or.inr ⟨by kernel_rfl, rfl⟩) (by assumption) ?_
            try simp only [Act.put, ya, yb, yc, yd, ye, yf]
            refine tk 13 (v := undef) rfl (Or.inr ⟨by kernel_rfl, rfl⟩) (by assumption) ?_
            try simp only [Act.put, ya, yb, yc, yd, ye, yf]
            refine tk 14 (v := undef) rfl (Or.inr ⟨by kernel_rfl, rfl⟩) (by assumption) ?_
            try simp only [Act.put, ya, yb, yc, yd, ye, yf]
            refine tk 15 (v := undef) rfl (Or.inr ⟨by kernel_rfl, rfl⟩) (by assumption) ?_
            try simp only [Act.put, ya, yb, yc, yd, ye, yf]
            refine tk 16 (v := undef) rfl (Or.inr ⟨by kernel_rfl, rfl⟩) (by assumption) ?_
            try simp only [Act.put, ya, yb, yc, yd, ye, yf]
            refine tk 17 (v := undef) rfl (Or.inr ⟨by kernel_rfl, rfl⟩) (by assumption) ?_
            try simp only [Act.put, ya, yb, yc, yd, ye, yf]
            refine tj 18 rfl ?_
            try simp only [Act.put, ya, yb, yc, yd, ye, yf]
            refine tj 19 rfl ?_
            try simp only [Act.put, ya, yb, yc, yd, ye, yf]
            refine tk 20 (v := undef) rfl (Or.inr ⟨by kernel_rfl, rfl⟩) (by assumption) ?_
            try simp only [Act.put, ya, yb, yc, yd, ye, yf]
            refine tk 21 (v := undef) rfl (Or.inr ⟨by kernel_rfl, rfl⟩) (by assumption) ?_
            try simp only [Act.put, ya, yb, yc, yd, ye, yf]
            refine tk 22 (v := undef) rfl (Or.inr ⟨by kernel_rfl, rfl⟩) (by assumption) ?_
            try simp only [Act.put, ya, yb, yc, yd, ye, yf]
            refine tk 23 (v := undef) rfl (Or.inr ⟨by kernel_rfl, rfl⟩) (by assumption) ?_
            try simp only [Act.put, ya, yb, yc, yd, ye, yf]
            refine tj 24 rfl ?_
            try simp only [Act.put, ya, yb, yc, yd, ye, yf]
            refine tj 25 rfl ?_
            try simp only [Act.put, ya, yb, yc, yd, ye, yf]
            refine tk 26 (v := undef) rfl (Or.inr ⟨by kernel_rfl, rfl⟩) (by assumption) ?_
            try simp only [Act.put, ya, yb, yc, yd, ye, yf]
            refine tk 27 (v := undef) rfl (Or.inr ⟨by kernel_rfl, rfl⟩) (by assumption) ?_
            try simp only [Act.put, ya, yb, yc, yd, ye, yf]
            refine tk 28 (v := undef) rfl (Or.inr ⟨by kernel_rfl, rfl⟩) (by assumption) ?_
            try simp only [Act.put, ya, yb, yc, yd, ye, yf]
            refine tk 29 (v := undef) rfl (Or.inr ⟨by kernel_rfl, rfl⟩) (by assumption) ?_
            try simp only [Act.put, ya, yb, yc, yd, ye, yf]
            refine tj 30 rfl ?_
            try simp only [Act.put, ya, yb, yc, yd, ye, yf]
            refine tj 31 rfl ?_
            try simp only [Act.put, ya, yb, yc, yd, ye, yf]
            refine tk 32 (v := undef) rfl (Or.inr ⟨by kernel_rfl, rfl⟩) (by assumption) ?_
            try simp only [Act.put, ya, yb, yc, yd, ye, yf]
            refine tk 33 (v := undef) rfl (Or.inr ⟨by kernel_rfl, rfl⟩) (by assumption) ?_
            try simp only [Act.put, ya, yb, yc, yd, ye, yf]
            refine tk 34 (v := undef) rfl (Or.inr ⟨by kernel_rfl, rfl⟩) (by assumption) ?_
            try simp only [Act.put, ya, yb, yc, yd, ye, yf]
            refine tk 35 (v := undef) rfl (Or.inr ⟨by kernel_rfl, rfl⟩) (by assumption) ?_
            try simp only [Act.put, ya, yb, yc, yd, ye, yf]
            refine tj 36 rfl ?_
            try simp only [Act.put, ya, yb, yc, yd, ye, yf]
            refine wpAnyH_done (by kernel_rfl) ?_ _
            refine NoPanic.normal ?_
            go_wp2
            go_ret
            exact IffB.no NO.out (chainX w LW.out (chainX (w.alloc (.cells #[.int .i64 m.epoch, .int .i64 m.seq] 35)) BF.out BH.out))
          · skip
            cases bq
            · skip
              have NO := Lib.hid (NOP.out rfl)
              have hge : decide (y.client ≤ x.client) = true := decide_eq_true (Int.not_lt.1 (of_decide_eq_false hbq))
              clear NOW YES HP
              (try clear NOP)
              (try clear H4)
              (try clear H5)
              obtain ⟨E_0, E_1, E_2, E_3⟩ := c4 EH.out
              obtain ⟨M_0, M_1⟩ := c2 MH.out
              have p0 := PC0.out _ BH.out
              go_wp2
              refine wp_region_noPanic ?_
              refine wp_region_held_drew (S := (fun w' => w'.cell? ⟨wr.heap.size, 0, none⟩ = some (.int .i64 y.client) ∧ w'.cell? ⟨wr.heap.size, 1, none⟩ = some (.int .i64 y.no) ∧ w'.cell? ⟨wr.heap.size, 2, none⟩ = some (.int .i64 y.ver.epoch) ∧ w'.cell? ⟨wr.heap.size, 3, none⟩ = some (.int .i64 y.ver.seq) ∧ w'.cell? ⟨w.heap.size, 0, none⟩ = some (.int .i64 m.epoch) ∧ w'.cell? ⟨w.heap.size, 1, none⟩ = some (.int .i64 m.seq) ∧ w'.cell? ⟨b, off + j * 4, none⟩ = some (.int .i64 x.client))) (by kernel_rfl) ?_ (fun hHeld => ?_)
              · go_keep
              refine tj 0 rfl ?_
              try simp only [Act.put, ya, yb, yc, yd, ye, yf]
              refine tj 1 rfl ?_
              try simp only [Act.put, ya, yb, yc, yd, ye, yf]
              refine wpAnyH_ready (rs := [2]) (by kernel_rfl) (by simp) ?_
              refine AllReadyH.cons rfl (fun K hK => ?_) AllReadyH.nil
              go_simp
              (go_at_call 69; refine (C0.out _ (by first | exact BH.out | exact BH.out.drew)).mono ?_; rintro e9 w9 ⟨rfl, b9⟩; (try replace b9 := undrewX b9); have EH := Lib.hid (EH.out.later b9); have MH := Lib.hid (MH.out.later b9); have BH := Lib.hid (chainX _ BH.out b9); obtain ⟨E_0, E_1, E_2, E_3⟩ := c4 EH.out; obtain ⟨M_0, M_1⟩ := c2 MH.out; have p0 := PC0.out _ BH.out; clear b9)
              (try go_wp2_with fail)
              refine hK.out _ _ ?_ (fun hHeld2 => ?_)
              · (try dsimp only); go_keep
              clear hK K
              try simp only [Act.put, ya, yb, yc, yd, ye, yf]
              refine tj 3 rfl ?_
              try simp only [Act.put, ya, yb, yc, yd, ye, yf]
              refine tj 4 rfl ?_
              try simp only [Act.put, ya, yb, yc, yd, ye, yf]
              refine tj 5 rfl ?_
              try simp only [Act.put, ya, yb, yc, yd, ye, yf]
              refine tj 6 rfl ?_
              try simp only [Act.put, ya, yb, yc, yd, ye, yf]
              refine tj 7 rfl ?_
              try simp only [Act.put, ya, yb, yc, yd, ye, yf]
              refine tj 8 rfl ?_
              try simp only [Act.put, ya, yb, yc, yd, ye, yf]
              refine tj 9 rfl ?_
              try simp only [Act.put, ya, yb, yc, yd, ye, yf]
              refine tj 10 rfl ?_
              try simp only [Act.put, ya, yb, yc, yd, ye, yf]
              refine tj 11 rfl ?_
              try simp only [Act.put, ya, yb, yc, yd, ye, yf]
              refine tj 12 rfl ?_
              try simp only [Act.put, ya, yb, yc, yd, ye, yf]
              refine tj 13 rfl ?_
              try simp only [Act.put, ya, yb, yc, yd, ye, yf]
              refine tj 14 rfl ?_
              try simp only [Act.put, ya, yb, yc, yd, ye, yf]
              refine tj 15 rfl ?_
              try simp only [Act.put, ya, yb, yc, yd, ye, yf]
              refine tj 16 rfl ?_
              try simp only [Act.put, ya, yb, yc, yd, ye, yf]
              refine tj 17 rfl ?_
              try simp only [Act.put, ya, yb, yc, yd, ye, yf]
              refine tj 18 rfl ?_
              try simp only [Act.put, ya, yb, yc, yd, ye, yf]
              refine tj 19 rfl ?_
              try simp only [Act.put, ya, yb, yc, yd, ye, yf]
              refine tk 20 (v := undef) rfl (Or.inr ⟨by kernel_rfl, rfl⟩) (by assumption) ?_
              try simp only [Act.put, ya, yb, yc, yd, ye, yf]
              refine tk 21 (v := undef) rfl (Or.inr ⟨by kernel_rfl, rfl⟩) (by assumption) ?_
              try simp only [Act.put, ya, yb, yc, yd, ye, yf]
              refine tk 22 (v := undef) rfl (Or.inr ⟨by kernel_rfl, rfl⟩) (by assumption) ?_
              try simp only [Act.put, ya, yb, yc, yd, ye, yf]
              refine tk 23 (v := undef) rfl (Or.inr ⟨by kernel_rfl, rfl⟩) (by assumption) ?_
              try simp only [Act.put, ya, yb, yc, yd, ye, yf]
              refine tj 24 rfl ?_
              try simp only [Act.put, ya, yb, yc, yd, ye, yf]
              refine tj 25 rfl ?_
              try simp only [Act.put, ya, yb, yc, yd, ye, yf]
              refine tk 26 (v := undef) rfl (Or.inr ⟨by kernel_rfl, rfl⟩) (by assumption) ?_
              try simp only [Act.put, ya, yb, yc, yd, ye, yf]
              refine tk 27 (v := undef) rfl (Or.inr ⟨by kernel_rfl, rfl⟩) (by assumption) ?_
              try simp only [Act.put, ya, yb, yc, yd, ye, yf]
              refine tk 28 (v := undef) rfl (Or.inr ⟨by kernel_rfl, rfl⟩) (by assumption) ?_
              try simp only [Act.put, ya, yb, yc, yd, ye, yf]
              refine tk 29 (v := undef) rfl (Or.inr ⟨by kernel_rfl, rfl⟩) (by assumption) ?_
              try simp only [Act.put, ya, yb, yc, yd, ye, yf]
              refine tj 30 rfl ?_
              try simp only [Act.put, ya, yb, yc, yd, ye, yf]
              refine tj 31 rfl ?_
              try simp only [Act.put, ya, yb, yc, yd, ye, yf]
              refine tk 32 (v := undef) rfl (Or.inr ⟨by kernel_rfl, rfl⟩) (by assumption) ?_
              try simp only [Act.put, ya, yb, yc, yd, ye, yf]
              refine tk 33 (v := undef) rfl (Or.inr ⟨by kernel_rfl, rfl⟩) (by assumption) ?_
              try simp only [Act.put, ya, yb, yc, yd, ye, yf]
              refine tk 34 (v := undef) rfl (Or.inr ⟨by kernel_rfl, rfl⟩) (by assumption) ?_
              try simp only [Act.put, ya, yb, yc, yd, ye, yf]
              refine tk 35 (v := undef) rfl (Or.inr ⟨by kernel_rfl, rfl⟩) (by assumption) ?_
              try simp only [Act.put, ya, yb, yc, yd, ye, yf]
              refine tj 36 rfl ?_
              try simp only [Act.put, ya, yb, yc, yd, ye, yf]
              refine wpAnyH_done (by kernel_rfl) ?_ _
              refine NoPanic.normal ?_
              go_wp2
              go_ret
              exact IffB.no NO.out (chainX w LW.out (chainX (w.alloc (.cells #[.int .i64 m.epoch, .int .i64 m.seq] 35)) BF.out BH.out))
            · skip
              have hge : decide (y.client ≤ x.client) = false := decide_eq_false (Int.not_le.2 (of_decide_eq_true hbq))
              have H5 := Lib.hid (H4.out rfl)
              clear NOP H4
              cases b2
              · skip
                have NO := Lib.hid (NOW.out (by rw [HP]; try simp))
                clear NOW YES HP
                (try clear NOP)
                (try clear H4)
                (try clear H5)
                obtain ⟨E_0, E_1, E_2, E_3⟩ := c4 EH.out
                obtain ⟨M_0, M_1⟩ := c2 MH.out
                have p0 := PC0.out _ BH.out
                go_wp2
                refine wp_region_noPanic ?_
                refine wp_region_held_drew (S := (fun w' => w'.cell? ⟨wr.heap.size, 0, none⟩ = some (.int .i64 y.client) ∧ w'.cell? ⟨wr.heap.size, 1, none⟩ = some (.int .i64 y.no) ∧ w'.cell? ⟨wr.heap.size, 2, none⟩ = some (.int .i64 y.ver.epoch) ∧ w'.cell? ⟨wr.heap.size, 3, none⟩ = some (.int .i64 y.ver.seq) ∧ w'.cell? ⟨w.heap.size, 0, none⟩ = some (.int .i64 m.epoch) ∧ w'.cell? ⟨w.heap.size, 1, none⟩ = some (.int .i64 m.seq) ∧ w'.cell? ⟨b, off + j * 4, none⟩ = some (.int .i64 x.client))) (by kernel_rfl) ?_ (fun hHeld => ?_)
                · go_keep
                refine tj 0 rfl ?_
                try simp only [Act.put, ya, yb, yc, yd, ye, yf]
                refine tj 1 rfl ?_
                try simp only [Act.put, ya, yb, yc, yd, ye, yf]
                refine wpAnyH_ready (rs := [2]) (by kernel_rfl) (by simp) ?_
                refine AllReadyH.cons rfl (fun K hK => ?_) AllReadyH.nil
                go_simp
                (go_at_call 69; refine (C0.out _ (by first | exact BH.out | exact BH.out.drew)).mono ?_; rintro e9 w9 ⟨rfl, b9⟩; (try replace b9 := undrewX b9); have EH := Lib.hid (EH.out.later b9); have MH := Lib.hid (MH.out.later b9); have BH := Lib.hid (chainX _ BH.out b9); obtain ⟨E_0, E_1, E_2, E_3⟩ := c4 EH.out; obtain ⟨M_0, M_1⟩ := c2 MH.out; have p0 := PC0.out _ BH.out; clear b9)
                (try go_wp2_with fail)
                refine hK.out _ _ ?_ (fun hHeld2 => ?_)
                · (try dsimp only); go_keep
                clear hK K
                try simp only [Act.put, ya, yb, yc, yd, ye, yf]
                refine tj 3 rfl ?_
                try simp only [Act.put, ya, yb, yc, yd, ye, yf]
                refine tj 4 rfl ?_
                try simp only [Act.put, ya, yb, yc, yd, ye, yf]
                refine tj 5 rfl ?_
                try simp only [Act.put, ya, yb, yc, yd, ye, yf]
                refine tj 6 rfl ?_
                try simp only [Act.put, ya, yb, yc, yd, ye, yf]
                refine tj 7 rfl ?_
                try simp only [Act.put, ya, yb, yc, yd, ye, yf]
                refine tj 8 rfl ?_
                try simp only [Act.put, ya, yb, yc, yd, ye, yf]
                refine tj 9 rfl ?_
                try simp only [Act.put, ya, yb, yc, yd, ye, yf]
                refine tj 10 rfl ?_
                try simp only [Act.put, ya, yb, yc, yd, ye, yf]
                refine tj 11 rfl ?_
                try simp only [Act.put, ya, yb, yc, yd, ye, yf]
                refine tj 12 rfl ?_
                try simp only [Act.put, ya, yb, yc, yd, ye, yf]
                refine tj 13 rfl ?_
                try simp only [Act.put, ya, yb, yc, yd, ye, yf]
                refine tj 14 rfl ?_
                try simp only [Act.put, ya, yb, yc, yd, ye, yf]
                refine tj 15 rfl ?_
                try simp only [Act.put, ya, yb, yc, yd, ye, yf]
                refine tj 16 rfl ?_
                try simp only [Act.put, ya, yb, yc, yd, ye, yf]
                refine tj 17 rfl ?_
                try simp only [Act.put, ya, yb, yc, yd, ye, yf]
                refine tj 18 rfl ?_
                try simp only [Act.put, ya, yb, yc, yd, ye, yf]
                refine tj 19 rfl ?_
                try simp only [Act.put, ya, yb, yc, yd, ye, yf]
                refine tj 20 rfl ?_
                try simp only [Act.put, ya, yb, yc, yd, ye, yf]
                refine tj 21 rfl ?_
                try simp only [Act.put, ya, yb, yc, yd, ye, yf]
                refine wpAnyH_ready (rs := [22]) (by kernel_rfl) (by simp) ?_
                refine AllReadyH.cons rfl (fun K hK => ?_) AllReadyH.nil
                go_simp
                (go_at_call 29; refine (C2.out _ (by first | exact BH.out | exact BH.out.drew)).mono ?_; rintro e9 w9 ⟨rfl, b9⟩; (try replace b9 := undrewX b9); have EH := Lib.hid (EH.out.later b9); have MH := Lib.hid (MH.out.later b9); have BH := Lib.hid (chainX _ BH.out b9); obtain ⟨E_0, E_1, E_2, E_3⟩ := c4 EH.out; obtain ⟨M_0, M_1⟩ := c2 MH.out; have p0 := PC0.out _ BH.out; clear b9)
                (try go_wp2_with fail)
                refine hK.out _ _ ?_ (fun hHeld22 => ?_)
                · (try dsimp only); go_keep
                clear hK K
                try simp only [Act.put, ya, yb, yc, yd, ye, yf]
                refine tj 23 rfl ?_
                try simp only [Act.put, ya, yb, yc, yd, ye, yf]
                refine tj 24 rfl ?_
                try simp only [Act.put, ya, yb, yc, yd, ye, yf]
                refine tj 25 rfl ?_
                try simp only [Act.put, ya, yb, yc, yd, ye, yf]
                refine tk 26 (v := undef) rfl (Or.inr ⟨by kernel_rfl, rfl⟩) (by assumption) ?_
                try simp only [Act.put, ya, yb, yc, yd, ye, yf]
                refine tk 27 (v := undef) rfl (Or.inr ⟨by kernel_rfl, rfl⟩) (by assumption) ?_
                try simp only [Act.put, ya, yb, yc, yd, ye, yf]
                refine tk 28 (v := undef) rfl (Or.inr ⟨by kernel_rfl, rfl⟩) (by assumption) ?_
                try simp only [Act.put, ya, yb, yc, yd, ye, yf]
                refine tk 29 (v := undef) rfl (Or.inr ⟨by kernel_rfl, rfl⟩) (by assumption) ?_
                try simp only [Act.put, ya, yb, yc, yd, ye, yf]
                refine tj 30 rfl ?_
                try simp only [Act.put, ya, yb, yc, yd, ye, yf]
                refine tj 31 rfl ?_
                try simp only [Act.put, ya, yb, yc, yd, ye, yf]
                refine tk 32 (v := undef) rfl (Or.inr ⟨by kernel_rfl, rfl⟩) (by assumption) ?_
                try simp only [Act.put, ya, yb, yc, yd, ye, yf]
                refine tk 33 (v := undef) rfl (Or.inr ⟨by kernel_rfl, rfl⟩) (by assumption) ?_
                try simp only [Act.put, ya, yb, yc, yd, ye, yf]
                refine tk 34 (v := undef) rfl (Or.inr ⟨by kernel_rfl, rfl⟩) (by assumption) ?_
                try simp only [Act.put, ya, yb, yc, yd, ye, yf]
                refine tk 35 (v := undef) rfl (Or.inr ⟨by kernel_rfl, rfl⟩) (by assumption) ?_
                try simp only [Act.put, ya, yb, yc, yd, ye, yf]
                refine tj 36 rfl ?_
                try simp only [Act.put, ya, yb, yc, yd, ye, yf]
                refine wpAnyH_done (by kernel_rfl) ?_ _
                refine NoPanic.normal ?_
                go_wp2
                go_ret
                exact IffB.no NO.out (chainX w LW.out (chainX (w.alloc (.cells #[.int .i64 m.epoch, .int .i64 m.seq] 35)) BF.out BH.out))
              · skip
                cases b3
                · skip
                  have NO := Lib.hid (NOW.out (by rw [HP]; try simp))
                  clear NOW YES HP
                  (try clear NOP)
                  (try clear H4)
                  (try clear H5)
                  obtain ⟨E_0, E_1, E_2, E_3⟩ := c4 EH.out
                  obtain ⟨M_0, M_1⟩ := c2 MH.out
                  have p0 := PC0.out _ BH.out
                  go_wp2
                  refine wp_region_noPanic ?_
                  refine wp_region_held_drew (S := (fun w' => w'.cell? ⟨wr.heap.size, 0, none⟩ = some (.int .i64 y.client) ∧ w'.cell? ⟨wr.heap.size, 1, none⟩ = some (.int .i64 y.no) ∧ w'.cell? ⟨wr.heap.size, 2, none⟩ = some (.int .i64 y.ver.epoch) ∧ w'.cell? ⟨wr.heap.size, 3, none⟩ = some (.int .i64 y.ver.seq) ∧ w'.cell? ⟨w.heap.size, 0, none⟩ = some (.int .i64 m.epoch) ∧ w'.cell? ⟨w.heap.size, 1, none⟩ = some (.int .i64 m.seq) ∧ w'.cell? ⟨b, off + j * 4, none⟩ = some (.int .i64 x.client))) (by kernel_rfl) ?_ (fun hHeld => ?_)
                  · go_keep
                  refine tj 0 rfl ?_
                  try simp only [Act.put, ya, yb, yc, yd, ye, yf]
                  refine tj 1 rfl ?_
                  try simp only [Act.put, ya, yb, yc, yd, ye, yf]
                  refine wpAnyH_ready (rs := [2]) (by kernel_rfl) (by simp) ?_
                  refine AllReadyH.cons rfl (fun K hK => ?_) AllReadyH.nil
                  go_simp
                  (go_at_call 69; refine (C0.out _ (by first | exact BH.out | exact BH.out.drew)).mono ?_; rintro e9 w9 ⟨rfl, b9⟩; (try replace b9 := undrewX b9); have EH := Lib.hid (EH.out.later b9); have MH := Lib.hid (MH.out.later b9); have BH := Lib.hid (chainX _ BH.out b9); obtain ⟨E_0, E_1, E_2, E_3⟩ := c4 EH.out; obtain ⟨M_0, M_1⟩ := c2 MH.out; have p0 := PC0.out _ BH.out; clear b9)
                  (try go_wp2_with fail)
                  refine hK.out _ _ ?_ (fun hHeld2 => ?_)
                  · (try dsimp only); go_keep
                  clear hK K
                  try simp only [Act.put, ya, yb, yc, yd, ye, yf]
                  refine tj 3 rfl ?_
                  try simp only [Act.put, ya, yb, yc, yd, ye, yf]
                  refine tj 4 rfl ?_
                  try simp only [Act.put, ya, yb, yc, yd, ye, yf]
                  refine tj 5 rfl ?_
                  try simp only [Act.put, ya, yb, yc, yd, ye, yf]
                  refine tj 6 rfl ?_
                  try simp only [Act.put, ya, yb, yc, yd, ye, yf]
                  refine tj 7 rfl ?_
                  try simp only [Act.put, ya, yb, yc, yd, ye, yf]
                  refine tj 8 rfl ?_
                  try simp only [Act.put, ya, yb, yc, yd, ye, yf]
                  refine tj 9 rfl ?_
                  try simp only [Act.put, ya, yb, yc, yd, ye, yf]
                  refine tj 10 rfl ?_
                  try simp only [Act.put, ya, yb, yc, yd, ye, yf]
                  refine tj 11 rfl ?_
                  try simp only [Act.put, ya, yb, yc, yd, ye, yf]
                  refine tj 12 rfl ?_
                  try simp only [Act.put, ya, yb, yc, yd, ye, yf]
                  refine tj 13 rfl ?_
                  try simp only [Act.put, ya, yb, yc, yd, ye, yf]
                  refine tj 14 rfl ?_
                  try simp only [Act.put, ya, yb, yc, yd, ye, yf]
                  refine tj 15 rfl ?_
                  try simp only [Act.put, ya, yb, yc, yd, ye, yf]
                  refine tj 16 rfl ?_
                  try simp only [Act.put, ya, yb, yc, yd, ye, yf]
                  refine tj 17 rfl ?_
                  try simp only [Act.put, ya, yb, yc, yd, ye, yf]
                  refine tj 18 rfl ?_
                  try simp only [Act.put, ya, yb, yc, yd, ye, yf]
                  refine tj 19 rfl ?_
                  try simp only [Act.put, ya, yb, yc, yd, ye, yf]
                  refine tj 20 rfl ?_
                  try simp only [Act.put, ya, yb, yc, yd, ye, yf]
                  refine tj 21 rfl ?_
                  try simp only [Act.put, ya, yb, yc, yd, ye, yf]
                  refine wpAnyH_ready (rs := [22]) (by kernel_rfl) (by simp) ?_
                  refine AllReadyH.cons rfl (fun K hK => ?_) AllReadyH.nil
                  go_simp
                  (go_at_call 29; refine (C2.out _ (by first | exact BH.out | exact BH.out.drew)).mono ?_; rintro e9 w9 ⟨rfl, b9⟩; (try replace b9 := undrewX b9); have EH := Lib.hid (EH.out.later b9); have MH := Lib.hid (MH.out.later b9); have BH := Lib.hid (chainX _ BH.out b9); obtain ⟨E_0, E_1, E_2, E_3⟩ := c4 EH.out; obtain ⟨M_0, M_1⟩ := c2 MH.out; have p0 := PC0.out _ BH.out; clear b9)
                  (try go_wp2_with fail)
                  refine hK.out _ _ ?_ (fun hHeld22 => ?_)
                  · (try dsimp only); go_keep
                  clear hK K
                  try simp only [Act.put, ya, yb, yc, yd, ye, yf]
                  refine tj 23 rfl ?_
                  try simp only [Act.put, ya, yb, yc, yd, ye, yf]
                  refine tj 24 rfl ?_
                  try simp only [Act.put, ya, yb, yc, yd, ye, yf]
                  refine tj 25 rfl ?_
                  try simp only [Act.put, ya, yb, yc, yd, ye, yf]
                  refine tj 26 rfl ?_
                  try simp only [Act.put, ya, yb, yc, yd, ye, yf]
                  refine tj 27 rfl ?_
                  try simp only [Act.put, ya, yb, yc, yd, ye, yf]
                  refine wpAnyH_ready (rs := [28]) (by kernel_rfl) (by simp) ?_
                  refine AllReadyH.cons rfl (fun K hK => ?_) AllReadyH.nil
                  go_simp
                  (go_at_call 67; refine (C3.out _ (by first | exact BH.out | exact BH.out.drew)).mono ?_; rintro e9 w9 ⟨rfl, b9⟩; (try replace b9 := undrewX b9); have EH := Lib.hid (EH.out.later b9); have MH := Lib.hid (MH.out.later b9); have BH := Lib.hid (chainX _ BH.out b9); obtain ⟨E_0, E_1, E_2, E_3⟩ := c4 EH.out; obtain ⟨M_0, M_1⟩ := c2 MH.out; have p0 := PC0.out _ BH.out; clear b9)
                  (try go_wp2_with fail)
                  refine hK.out _ _ ?_ (fun hHeld28 => ?_)
                  · (try dsimp only); go_keep
                  clear hK K
                  try simp only [Act.put, ya, yb, yc, yd, ye, yf]
                  refine tj 29 rfl ?_
                  try simp only [Act.put, ya, yb, yc, yd, ye, yf]
                  refine tj 30 rfl ?_
                  try simp only [Act.put, ya, yb, yc, yd, ye, yf]
                  refine tj 31 rfl ?_
                  try simp only [Act.put, ya, yb, yc, yd, ye, yf]
                  refine tk 32 (v := undef) rfl (Or.inr ⟨by kernel_rfl, rfl⟩) (by assumption) ?_
                  try simp only [Act.put, ya, yb, yc, yd, ye, yf]
                  refine tk 33 (v := undef) rfl (Or.inr ⟨by kernel_rfl, rfl⟩) (by assumption) ?_
                  try simp only [Act.put, ya, yb, yc, yd, ye, yf]
                  refine tk 34 (v := undef) rfl (Or.inr ⟨by kernel_rfl, rfl⟩) (by assumption) ?_
                  try simp only [Act.put, ya, yb, yc, yd, ye, yf]
                  refine tk 35 (v := undef) rfl (Or.inr ⟨by kernel_rfl, rfl⟩) (by assumption) ?_
                  try simp only [Act.put, ya, yb, yc, yd, ye, yf]
                  refine tj 36 rfl ?_
                  try simp only [Act.put, ya, yb, yc, yd, ye, yf]
                  refine wpAnyH_done (by kernel_rfl) ?_ _
                  refine NoPanic.normal ?_
                  go_wp2
                  go_ret
                  exact IffB.no NO.out (chainX w LW.out (chainX (w.alloc (.cells #[.int .i64 m.epoch, .int .i64 m.seq] 35)) BF.out BH.out))
                · skip
                  cases b4
                  · skip
                    have HV : (lastB m) y = true := by rw [HP]; try rfl
                    clear NOW HP
                    have H3 := Lib.hid (YES.out HV)
                    clear YES HV
                    obtain ⟨E_0, E_1, E_2, E_3⟩ := c4 EH.out
                    obtain ⟨M_0, M_1⟩ := c2 MH.out
                    have p0 := PC0.out _ BH.out
                    go_wp2
                    refine wp_region_noPanic ?_
                    refine wp_region_held_drew (S := (fun w' => w'.cell? ⟨wr.heap.size, 0, none⟩ = some (.int .i64 y.client) ∧ w'.cell? ⟨wr.heap.size, 1, none⟩ = some (.int .i64 y.no) ∧ w'.cell? ⟨wr.heap.size, 2, none⟩ = some (.int .i64 y.ver.epoch) ∧ w'.cell? ⟨wr.heap.size, 3, none⟩ = some (.int .i64 y.ver.seq) ∧ w'.cell? ⟨w.heap.size, 0, none⟩ = some (.int .i64 m.epoch) ∧ w'.cell? ⟨w.heap.size, 1, none⟩ = some (.int .i64 m.seq) ∧ w'.cell? ⟨b, off + j * 4, none⟩ = some (.int .i64 x.client))) (by kernel_rfl) ?_ (fun hHeld => ?_)
                    · go_keep
                    refine tj 0 rfl ?_
                    try simp only [Act.put, ya, yb, yc, yd, ye, yf]
                    refine tj 1 rfl ?_
                    try simp only [Act.put, ya, yb, yc, yd, ye, yf]
                    refine wpAnyH_ready (rs := [2]) (by kernel_rfl) (by simp) ?_
                    refine AllReadyH.cons rfl (fun K hK => ?_) AllReadyH.nil
                    go_simp
                    (go_at_call 69; refine (C0.out _ (by first | exact BH.out | exact BH.out.drew)).mono ?_; rintro e9 w9 ⟨rfl, b9⟩; (try replace b9 := undrewX b9); have EH := Lib.hid (EH.out.later b9); have MH := Lib.hid (MH.out.later b9); have BH := Lib.hid (chainX _ BH.out b9); obtain ⟨E_0, E_1, E_2, E_3⟩ := c4 EH.out; obtain ⟨M_0, M_1⟩ := c2 MH.out; have p0 := PC0.out _ BH.out; clear b9)
                    (try go_wp2_with fail)
                    refine hK.out _ _ ?_ (fun hHeld2 => ?_)
                    · (try dsimp only); go_keep
                    clear hK K
                    try simp only [Act.put, ya, yb, yc, yd, ye, yf]
                    refine tj 3 rfl ?_
                    try simp only [Act.put, ya, yb, yc, yd, ye, yf]
                    refine tj 4 rfl ?_
                    try simp only [Act.put, ya, yb, yc, yd, ye, yf]
                    refine tj 5 rfl ?_
                    try simp only [Act.put, ya, yb, yc, yd, ye, yf]
                    refine tj 6 rfl ?_
                    try simp only [Act.put, ya, yb, yc, yd, ye, yf]
                    refine tj 7 rfl ?_
                    try simp only [Act.put, ya, yb, yc, yd, ye, yf]
                    refine tj 8 rfl ?_
                    try simp only [Act.put, ya, yb, yc, yd, ye, yf]
                    refine tj 9 rfl ?_
                    try simp only [Act.put, ya, yb, yc, yd, ye, yf]
                    refine tj 10 rfl ?_
                    try simp only [Act.put, ya, yb, yc, yd, ye, yf]
                    refine tj 11 rfl ?_
                    try simp only [Act.put, ya, yb, yc, yd, ye, yf]
                    refine tj 12 rfl ?_
                    try simp only [Act.put, ya, yb, yc, yd, ye, yf]
                    refine tj 13 rfl ?_
                    try simp only [Act.put, ya, yb, yc, yd, ye, yf]
                    refine tj 14 rfl ?_
                    try simp only [Act.put, ya, yb, yc, yd, ye, yf]
                    refine tj 15 rfl ?_
                    try simp only [Act.put, ya, yb, yc, yd, ye, yf]
                    refine tj 16 rfl ?_
                    try simp only [Act.put, ya, yb, yc, yd, ye, yf]
                    refine tj 17 rfl ?_
                    try simp only [Act.put, ya, yb, yc, yd, ye, yf]
                    refine tj 18 rfl ?_
                    try simp only [Act.put, ya, yb, yc, yd, ye, yf]
                    refine tj 19 rfl ?_
                    try simp only [Act.put, ya, yb, yc, yd, ye, yf]
                    refine tj 20 rfl ?_
                    try simp only [Act.put, ya, yb, yc, yd, ye, yf]
                    refine tj 21 rfl ?_
                    try simp only [Act.put, ya, yb, yc, yd, ye, yf]
                    refine wpAnyH_ready (rs := [22]) (by kernel_rfl) (by simp) ?_
                    refine AllReadyH.cons rfl (fun K hK => ?_) AllReadyH.nil
                    go_simp
                    (go_at_call 29; refine (C2.out _ (by first | exact BH.out | exact BH.out.drew)).mono ?_; rintro e9 w9 ⟨rfl, b9⟩; (try replace b9 := undrewX b9); have EH := Lib.hid (EH.out.later b9); have MH := Lib.hid (MH.out.later b9); have BH := Lib.hid (chainX _ BH.out b9); obtain ⟨E_0, E_1, E_2, E_3⟩ := c4 EH.out; obtain ⟨M_0, M_1⟩ := c2 MH.out; have p0 := PC0.out _ BH.out; clear b9)
                    (try go_wp2_with fail)
                    refine hK.out _ _ ?_ (fun hHeld22 => ?_)
                    · (try dsimp only); go_keep
                    clear hK K
                    try simp only [Act.put, ya, yb, yc, yd, ye, yf]
                    refine tj 23 rfl ?_
                    try simp only [Act.put, ya, yb, yc, yd, ye, yf]
                    refine tj 24 rfl ?_
                    try simp only [Act.put, ya, yb, yc, yd, ye, yf]
                    refine tj 25 rfl ?_
                    try simp only [Act.put, ya, yb, yc, yd, ye, yf]
                    refine tj 26 rfl ?_
                    try simp only [Act.put, ya, yb, yc, yd, ye, yf]
                    refine tj 27 rfl ?_
                    try simp only [Act.put, ya, yb, yc, yd, ye, yf]
                    refine wpAnyH_ready (rs := [28]) (by kernel_rfl) (by simp) ?_
                    refine AllReadyH.cons rfl (fun K hK => ?_) AllReadyH.nil
                    go_simp
                    (go_at_call 67; refine (C3.out _ (by first | exact BH.out | exact BH.out.drew)).mono ?_; rintro e9 w9 ⟨rfl, b9⟩; (try replace b9 := undrewX b9); have EH := Lib.hid (EH.out.later b9); have MH := Lib.hid (MH.out.later b9); have BH := Lib.hid (chainX _ BH.out b9); obtain ⟨E_0, E_1, E_2, E_3⟩ := c4 EH.out; obtain ⟨M_0, M_1⟩ := c2 MH.out; have p0 := PC0.out _ BH.out; clear b9)
                    (try go_wp2_with fail)
                    refine hK.out _ _ ?_ (fun hHeld28 => ?_)
                    · (try dsimp only); go_keep
                    clear hK K
                    try simp only [Act.put, ya, yb, yc, yd, ye, yf]
                    refine tj 29 rfl ?_
                    try simp only [Act.put, ya, yb, yc, yd, ye, yf]
                    refine tj 30 rfl ?_
                    try simp only [Act.put, ya, yb, yc, yd, ye, yf]
                    refine tj 31 rfl ?_
                    try simp only [Act.put, ya, yb, yc, yd, ye, yf]
                    refine tj 32 rfl ?_
                    try simp only [Act.put, ya, yb, yc, yd, ye, yf]
                    refine tj 33 rfl ?_
                    try simp only [Act.put, ya, yb, yc, yd, ye, yf]
                    refine tj 34 rfl ?_
                    try simp only [Act.put, ya, yb, yc, yd, ye, yf]
                    refine wpAnyH_ready (rs := [35]) (by kernel_rfl) (by simp) ?_
                    refine AllReadyH.cons rfl (fun K hK => ?_) AllReadyH.nil
                    go_simp
                    (go_at_call 34; refine (C4.out _ (by first | exact BH.out | exact BH.out.drew)).mono ?_; rintro e9 w9 ⟨rfl, b9⟩; (try replace b9 := undrewX b9); have EH := Lib.hid (EH.out.later b9); have MH := Lib.hid (MH.out.later b9); have BH := Lib.hid (chainX _ BH.out b9); obtain ⟨E_0, E_1, E_2, E_3⟩ := c4 EH.out; obtain ⟨M_0, M_1⟩ := c2 MH.out; have p0 := PC0.out _ BH.out; clear b9)
                    (try go_wp2_with fail)
                    refine hK.out _ _ ?_ (fun hHeld35 => ?_)
                    · (try dsimp only); go_keep
                    clear hK K
                    try simp only [Act.put, ya, yb, yc, yd, ye, yf]
                    refine tj 36 rfl ?_
                    try simp only [Act.put, ya, yb, yc, yd, ye, yf]
                    refine wpAnyH_done (by kernel_rfl) ?_ _
                    refine NoPanic.normal ?_
                    go_wp2
                    have BZ := Lib.hid (chainX (w.alloc (.cells #[.int .i64 m.epoch, .int .i64 m.seq] 35)) BF.out BH.out)
                    go_roundw
                    case rel => exact ⟨j + 1 + 1, by omega, by omega, by go_num, H5.out, H3.out, BZ.out⟩
                    case measure => simp [intOf]; omega
                  · skip
                    have NO := Lib.hid (NOW.out (by rw [HP]; try simp))
                    clear NOW YES HP
                    (try clear NOP)
                    (try clear H4)
                    (try clear H5)
                    obtain ⟨E_0, E_1, E_2, E_3⟩ := c4 EH.out
                    obtain ⟨M_0, M_1⟩ := c2 MH.out
                    have p0 := PC0.out _ BH.out
                    go_wp2
                    refine wp_region_noPanic ?_
                    refine wp_region_held_drew (S := (fun w' => w'.cell? ⟨wr.heap.size, 0, none⟩ = some (.int .i64 y.client) ∧ w'.cell? ⟨wr.heap.size, 1, none⟩ = some (.int .i64 y.no) ∧ w'.cell? ⟨wr.heap.size, 2, none⟩ = some (.int .i64 y.ver.epoch) ∧ w'.cell? ⟨wr.heap.size, 3, none⟩ = some (.int .i64 y.ver.seq) ∧ w'.cell? ⟨w.heap.size, 0, none⟩ = some (.int .i64 m.epoch) ∧ w'.cell? ⟨w.heap.size, 1, none⟩ = some (.int .i64 m.seq) ∧ w'.cell? ⟨b, off + j * 4, none⟩ = some (.int .i64 x.client))) (by kernel_rfl) ?_ (fun hHeld => ?_)
                    · go_keep
                    refine tj 0 rfl ?_
                    try simp only [Act.put, ya, yb, yc, yd, ye, yf]
                    refine tj 1 rfl ?_
                    try simp only [Act.put, ya, yb, yc, yd, ye, yf]
                    refine wpAnyH_ready (rs := [2]) (by kernel_rfl) (by simp) ?_
                    refine AllReadyH.cons rfl (fun K hK => ?_) AllReadyH.nil
                    go_simp
                    (go_at_call 69; refine (C0.out _ (by first | exact BH.out | exact BH.out.drew)).mono ?_; rintro e9 w9 ⟨rfl, b9⟩; (try replace b9 := undrewX b9); have EH := Lib.hid (EH.out.later b9); have MH := Lib.hid (MH.out.later b9); have BH := Lib.hid (chainX _ BH.out b9); obtain ⟨E_0, E_1, E_2, E_3⟩ := c4 EH.out; obtain ⟨M_0, M_1⟩ := c2 MH.out; have p0 := PC0.out _ BH.out; clear b9)
                    (try go_wp2_with fail)
                    refine hK.out _ _ ?_ (fun hHeld2 => ?_)
                    · (try dsimp only); go_keep
                    clear hK K
                    try simp only [Act.put, ya, yb, yc, yd, ye, yf]
                    refine tj 3 rfl ?_
                    try simp only [Act.put, ya, yb, yc, yd, ye, yf]
                    refine tj 4 rfl ?_
                    try simp only [Act.put, ya, yb, yc, yd, ye, yf]
                    refine tj 5 rfl ?_
                    try simp only [Act.put, ya, yb, yc, yd, ye, yf]
                    refine tj 6 rfl ?_
                    try simp only [Act.put, ya, yb, yc, yd, ye, yf]
                    refine tj 7 rfl ?_
                    try simp only [Act.put, ya, yb, yc, yd, ye, yf]
                    refine tj 8 rfl ?_
                    try simp only [Act.put, ya, yb, yc, yd, ye, yf]
                    refine tj 9 rfl ?_
                    try simp only [Act.put, ya, yb, yc, yd, ye, yf]
                    refine tj 10 rfl ?_
                    try simp only [Act.put, ya, yb, yc, yd, ye, yf]
                    refine tj 11 rfl ?_
                    try simp only [Act.put, ya, yb, yc, yd, ye, yf]
                    refine tj 12 rfl ?_
                    try simp only [Act.put, ya, yb, yc, yd, ye, yf]
                    refine tj 13 rfl ?_
                    try simp only [Act.put, ya, yb, yc, yd, ye, yf]
                    refine tj 14 rfl ?_
                    try simp only [Act.put, ya, yb, yc, yd, ye, yf]
                    refine tj 15 rfl ?_
                    try simp only [Act.put, ya, yb, yc, yd, ye, yf]
                    refine tj 16 rfl ?_
                    try simp only [Act.put, ya, yb, yc, yd, ye, yf]
                    refine tj 17 rfl ?_
                    try simp only [Act.put, ya, yb, yc, yd, ye, yf]
                    refine tj 18 rfl ?_
                    try simp only [Act.put, ya, yb, yc, yd, ye, yf]
                    refine tj 19 rfl ?_
                    try simp only [Act.put, ya, yb, yc, yd, ye, yf]
                    refine tj 20 rfl ?_
                    try simp only [Act.put, ya, yb, yc, yd, ye, yf]
                    refine tj 21 rfl ?_
                    try simp only [Act.put, ya, yb, yc, yd, ye, yf]
                    refine wpAnyH_ready (rs := [22]) (by kernel_rfl) (by simp) ?_
                    refine AllReadyH.cons rfl (fun K hK => ?_) AllReadyH.nil
                    go_simp
                    (go_at_call 29; refine (C2.out _ (by first | exact BH.out | exact BH.out.drew)).mono ?_; rintro e9 w9 ⟨rfl, b9⟩; (try replace b9 := undrewX b9); have EH := Lib.hid (EH.out.later b9); have MH := Lib.hid (MH.out.later b9); have BH := Lib.hid (chainX _ BH.out b9); obtain ⟨E_0, E_1, E_2, E_3⟩ := c4 EH.out; obtain ⟨M_0, M_1⟩ := c2 MH.out; have p0 := PC0.out _ BH.out; clear b9)
                    (try go_wp2_with fail)
                    refine hK.out _ _ ?_ (fun hHeld22 => ?_)
                    · (try dsimp only); go_keep
                    clear hK K
                    try simp only [Act.put, ya, yb, yc, yd, ye, yf]
                    refine tj 23 rfl ?_
                    try simp only [Act.put, ya, yb, yc, yd, ye, yf]
                    refine tj 24 rfl ?_
                    try simp only [Act.put, ya, yb, yc, yd, ye, yf]
                    refine tj 25 rfl ?_
                    try simp only [Act.put, ya, yb, yc, yd, ye, yf]
                    refine tj 26 rfl ?_
                    try simp only [Act.put, ya, yb, yc, yd, ye, yf]
                    refine tj 27 rfl ?_
                    try simp only [Act.put, ya, yb, yc, yd, ye, yf]
                    refine wpAnyH_ready (rs := [28]) (by kernel_rfl) (by simp) ?_
                    refine AllReadyH.cons rfl (fun K hK => ?_) AllReadyH.nil
                    go_simp
                    (go_at_call 67; refine (C3.out _ (by first | exact BH.out | exact BH.out.drew)).mono ?_; rintro e9 w9 ⟨rfl, b9⟩; (try replace b9 := undrewX b9); have EH := Lib.hid (EH.out.later b9); have MH := Lib.hid (MH.out.later b9); have BH := Lib.hid (chainX _ BH.out b9); obtain ⟨E_0, E_1, E_2, E_3⟩ := c4 EH.out; obtain ⟨M_0, M_1⟩ := c2 MH.out; have p0 := PC0.out _ BH.out; clear b9)
                    (try go_wp2_with fail)
                    refine hK.out _ _ ?_ (fun hHeld28 => ?_)
                    · (try dsimp only); go_keep
                    clear hK K
                    try simp only [Act.put, ya, yb, yc, yd, ye, yf]
                    refine tj 29 rfl ?_
                    try simp only [Act.put, ya, yb, yc, yd, ye, yf]
                    refine tj 30 rfl ?_
                    try simp only [Act.put, ya, yb, yc, yd, ye, yf]
                    refine tj 31 rfl ?_
                    try simp only [Act.put, ya, yb, yc, yd, ye, yf]
                    refine tj 32 rfl ?_
                    try simp only [Act.put, ya, yb, yc, yd, ye, yf]
                    refine tj 33 rfl ?_
                    try simp only [Act.put, ya, yb, yc, yd, ye, yf]
                    refine tj 34 rfl ?_
                    try simp only [Act.put, ya, yb, yc, yd, ye, yf]
                    refine wpAnyH_ready (rs := [35]) (by kernel_rfl) (by simp) ?_
                    refine AllReadyH.cons rfl (fun K hK => ?_) AllReadyH.nil
                    go_simp
                    (go_at_call 34; refine (C4.out _ (by first | exact BH.out | exact BH.out.drew)).mono ?_; rintro e9 w9 ⟨rfl, b9⟩; (try replace b9 := undrewX b9); have EH := Lib.hid (EH.out.later b9); have MH := Lib.hid (MH.out.later b9); have BH := Lib.hid (chainX _ BH.out b9); obtain ⟨E_0, E_1, E_2, E_3⟩ := c4 EH.out; obtain ⟨M_0, M_1⟩ := c2 MH.out; have p0 := PC0.out _ BH.out; clear b9)
                    (try go_wp2_with fail)
                    refine hK.out _ _ ?_ (fun hHeld35 => ?_)
                    · (try dsimp only); go_keep
                    clear hK K
                    try simp only [Act.put, ya, yb, yc, yd, ye, yf]
                    refine tj 36 rfl ?_
                    try simp only [Act.put, ya, yb, yc, yd, ye, yf]
                    refine wpAnyH_done (by kernel_rfl) ?_ _
                    refine NoPanic.normal ?_
                    go_wp2
                    go_ret
                    exact IffB.no NO.out (chainX w LW.out (chainX (w.alloc (.cells #[.int .i64 m.epoch, .int .i64 m.seq] 35)) BF.out BH.out))
    · obtain rfl : k = n := by omega
      clear hw
      by_cases hmx : k ≤ 6
      · have YS := Lib.hid (show SeqP 6 lLt (lastB m) l from ⟨by rw [HN.out]; exact hmx, fun i x y h1 h2 => H1.out i x y (LEN.out _ _ h2) h1 h2, fun i x h1 => H2.out i x (LEN.out _ _ h1) h1⟩)
        have d2 : decide ((k : Int) ≤ 6) = true := decide_eq_true (by omega)
        go_wp2
        go_ret
        exact IffB.yes YS.out BW.out
      · have NO := Lib.hid (show ¬ SeqP 6 lLt (lastB m) l from fun h => hmx (by rw [← HN.out]; exact h.1))
        have d2 : decide ((k : Int) ≤ 6) = false := decide_eq_false (by omega)
        go_wp2
        go_ret
        exact IffB.no NO.out BW.out
end Go.Proofs.YtbckdfoapmjilaaGreatDoor.Rd
