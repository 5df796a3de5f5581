/-
  Heads tested in the model (written by tools/gen/stx.py).
-/
import Derived.Test.YtbckdfoapmjilaaGreatDoorStM
import Derived.Test.YtbckdfoapmjilaaGreatDoorVer
import Derived.Test.YtbckdfoapmjilaaGreatDoorNst
import Derived.Test.YtbckdfoapmjilaaGreatDoorRs
import Derived.Deep.DeepCutAuto
import Derived.Deep.RegionHeld3
namespace Go.Proofs.YtbckdfoapmjilaaGreatDoor.Rd
open Go.RowKit Go.ChangeShapes Go.WideShapes Go.Proofs.YtbckdfoapmjilaaGreatDoor.GfI Go.Proofs.YtbckdfoapmjilaaGreatDoor.GfS
open Go.Proofs.YtbckdfoapmjilaaGreatDoor.Sg (BxN)
set_option linter.unusedVariables false
set_option linter.unusedSimpArgs false

theorem specFullB (a : DVer) (w : World) : Calls Tryz.prog 67 #[.agg #[.int .i64 a.epoch, .int .i64 a.seq]] w (RetW (.bool (fullB a)) w) := specFull a w
set_option maxRecDepth 100000 in
set_option maxHeartbeats 4000000 in
theorem specHeads (a : Option Addr) (cap : Nat) (l : List DHead) (m : DVer) (w : World) (hl : l.length ≤ 2097152) {fr : Bool} {lo : Nat} (hc : Rows fr lo w a l) :
    Calls Tryz.prog 31 #[.slice a l.length cap, .agg #[.int .i64 m.epoch, .int .i64 m.seq]] w (IffB (SeqP 16 hLt (headB m) l) w) := by
  have LW := Lib.hid (lay w (.cells #[.int .i64 m.epoch, .int .i64 m.seq] 35))
  have M0 := Lib.hid (BxN.new w #[.int .i64 m.epoch, .int .i64 m.seq] 35)
  have M_0 := M0.out.cells 0 _ rfl
  have M_1 := M0.out.cells 1 _ rfl
  have RH := Lib.hid (hc.below LW.out)
  have GET := Lib.hid (fun k (h : k < l.length) => get_lt h)
  have LEN := Lib.hid (fun k x (h : l[k]? = some x) => (List.getElem?_eq_some_iff.1 h).1)
  obtain ⟨n, hn⟩ : ∃ n, l.length = n := ⟨_, rfl⟩
  have HN := Lib.hid hn
  rw [hn] at hl GET LEN ⊢
  clear hn hc
  go_enter Tryz.func31, Tryz.ntmps31
  go_wp2
  go_loopw [5] (fun i wr => ∃ k : Nat, k ≤ n ∧ k ≤ 17 ∧ i = .int .i64 k ∧ (∀ (i : Nat) (x y : DHead), i + 1 < k → l[i]? = some x → l[i + 1]? = some y → hLt x y = true) ∧ (∀ (i : Nat) (x : DHead), i < k → l[i]? = some x → (headB m) x = true) ∧ Below (w.alloc (.cells #[.int .i64 m.epoch, .int .i64 m.seq] 35)).heap.size (w.alloc (.cells #[.int .i64 m.epoch, .int .i64 m.seq] 35)) wr) (fun i _ => n - (intOf i).toNat)
  case atStart => exact ⟨0, by omega, by omega, rfl, fun i x y hi => absurd hi (Nat.not_lt_zero _), fun i x hi => absurd hi (Nat.not_lt_zero _), Below.refl _ _⟩
  case round =>
    obtain ⟨k, hk, hk2, rfl, H1, H2, hw⟩ := hrel
    have H1 := Lib.hid H1
    have H2 := Lib.hid H2
    have BW := Lib.hid (chainX w LW.out hw)
    by_cases hlt : k < n
    · by_cases hmx : k ≤ 16
      rotate_left
      · have NO := Lib.hid (show ¬ SeqP 16 hLt (headB m) l from fun h => by have h1 := h.1; have h2 := HN.out; omega)
        have d1 : decide ((k : Int) ≤ 16) = false := decide_eq_false (by omega)
        have d2 : decide ((n : Int) ≤ 16) = false := decide_eq_false (by omega)
        clear hw
        go_wp2
        go_ret
        exact IffB.no NO.out BW.out
      · have dk : decide ((k : Int) ≤ 16) = true := decide_eq_true (by omega)
        obtain ⟨h, hx⟩ := GET.out k hlt
        obtain ⟨b, off, cs, ea, -, hB, hr, hcc⟩ := (RH.out.below hw).at' hx
        obtain ⟨rfl, f0_0, f0_1, f0_2, f0_3, f0_4⟩ := shape_Head hr
        have z0 : wr.cell? ⟨b, off + k * 5, none⟩ = some (.string h.name) := hcc 0 _ rfl
        have z1 : wr.cell? ⟨b, off + k * 5 + 1, none⟩ = some (.int .i64 h.ver.epoch) := hcc 1 _ rfl
        have z2 : wr.cell? ⟨b, off + k * 5 + 2, none⟩ = some (.int .i64 h.ver.seq) := hcc 2 _ rfl
        have z3 : wr.cell? ⟨b, off + k * 5 + 3, none⟩ = some (.int .i64 h.size) := hcc 3 _ rfl
        have z4 : wr.cell? ⟨b, off + k * 5 + 4, none⟩ = some (.int .i64 h.sum) := hcc 4 _ rfl
        have LE := lay wr (.cells #[.string h.name, .int .i64 h.ver.epoch, .int .i64 h.ver.seq, .int .i64 h.size, .int .i64 h.sum] 107)
        have EH := Lib.hid (BxN.new wr #[.string h.name, .int .i64 h.ver.epoch, .int .i64 h.ver.seq, .int .i64 h.size, .int .i64 h.sum] 107)
        have E_0 := EH.out.cells 0 _ rfl
        have E_1 := EH.out.cells 1 _ rfl
        have E_2 := EH.out.cells 2 _ rfl
        have E_3 := EH.out.cells 3 _ rfl
        have E_4 := EH.out.cells 4 _ rfl
        have MH := Lib.hid ((M0.out.later hw).later LE)
        have m_0 := (M0.out.later hw).cells 0 _ rfl
        have m_1 := (M0.out.later hw).cells 1 _ rfl
        have BF := Lib.hid (chainX (w.alloc (.cells #[.int .i64 m.epoch, .int .i64 m.seq] 35)) hw LE)
        have BH := Lib.hid (Below.refl (wr.alloc (.cells #[.string h.name, .int .i64 h.ver.epoch, .int .i64 h.ver.seq, .int .i64 h.size, .int .i64 h.sum] 107)).heap.size (wr.alloc (.cells #[.string h.name, .int .i64 h.ver.epoch, .int .i64 h.ver.seq, .int .i64 h.size, .int .i64 h.sum] 107)))
        have HX := Lib.hid hx
        have C0 := Lib.hid (fun w' (q : Below (wr.alloc (.cells #[.string h.name, .int .i64 h.ver.epoch, .int .i64 h.ver.seq, .int .i64 h.size, .int .i64 h.sum] 107)).heap.size (wr.alloc (.cells #[.string h.name, .int .i64 h.ver.epoch, .int .i64 h.ver.seq, .int .i64 h.size, .int .i64 h.sum] 107)) w') => same_ret (Nam.specNameOk h.name w'))
        have C2 := Lib.hid (fun w' (q : Below (wr.alloc (.cells #[.string h.name, .int .i64 h.ver.epoch, .int .i64 h.ver.seq, .int .i64 h.size, .int .i64 h.sum] 107)).heap.size (wr.alloc (.cells #[.string h.name, .int .i64 h.ver.epoch, .int .i64 h.ver.seq, .int .i64 h.size, .int .i64 h.sum] 107)) w') => specFullB h.ver w')
        have C3 := Lib.hid (fun w' (q : Below (wr.alloc (.cells #[.string h.name, .int .i64 h.ver.epoch, .int .i64 h.ver.seq, .int .i64 h.size, .int .i64 h.sum] 107)).heap.size (wr.alloc (.cells #[.string h.name, .int .i64 h.ver.epoch, .int .i64 h.ver.seq, .int .i64 h.size, .int .i64 h.sum] 107)) w') => specVerLess m h.ver w')
        have C4 := Lib.hid (fun w' (q : Below (wr.alloc (.cells #[.string h.name, .int .i64 h.ver.epoch, .int .i64 h.ver.seq, .int .i64 h.size, .int .i64 h.sum] 107)).heap.size (wr.alloc (.cells #[.string h.name, .int .i64 h.ver.epoch, .int .i64 h.ver.seq, .int .i64 h.size, .int .i64 h.sum] 107)) w') => same_ret (l00In h.size 0 64 w'))
        have C5 := Lib.hid (fun w' (q : Below (wr.alloc (.cells #[.string h.name, .int .i64 h.ver.epoch, .int .i64 h.ver.seq, .int .i64 h.size, .int .i64 h.sum] 107)).heap.size (wr.alloc (.cells #[.string h.name, .int .i64 h.ver.epoch, .int .i64 h.ver.seq, .int .i64 h.size, .int .i64 h.sum] 107)) w') => same_ret (specSum h.sum w'))
        have NOW := Lib.hid (fun (hno : (headB m) h = false) => (show ¬ SeqP 16 hLt (headB m) l from fun hS => by have := hS.2.2 k h HX.out; rw [hno] at this; cases this))
        have YES := Lib.hid (fun (hok : (headB m) h = true) => (show ∀ (i : Nat) (x : DHead), i < k + 1 → l[i]? = some x → (headB m) x = true from fun i x hi hxi => by
          by_cases e : i = k
          · subst e; rw [HX.out] at hxi; cases hxi; exact hok
          · exact H2.out i x (by omega) hxi))
        have HP := (show headB m h = (Nam.nameB h.name && ((fullB h.ver && !verL m h.ver) && (inB h.size 0 64 && sumB h.sum))) from rfl)
        generalize Nam.nameB h.name = b0 at *
        generalize fullB h.ver = b2 at *
        generalize verL m h.ver = b3 at *
        generalize inB h.size 0 64 = b4 at *
        generalize sumB h.sum = b5 at *
        by_cases hk0 : k = 0
        · subst hk0
          simp only [Nat.zero_mul, Nat.add_zero] at z0 z1 z2 z3 z4
          have H5 := Lib.hid (show ∀ (i : Nat) (x y : DHead), i + 1 < 0 + 1 → l[i]? = some x → l[i + 1]? = some y → hLt x y = true from fun i x y hi => absurd hi (by omega))
          clear hcc hr hx hw LE H1 H2
          subst ea
          cases b0
          · skip
            have NO := Lib.hid (NOW.out (by rw [HP]; try simp))
            clear NOW YES HP
            (try clear NOP)
            (try clear H4)
            (try clear H5)
            obtain ⟨E_0, E_1, E_2, E_3, E_4⟩ := c5 EH.out
            obtain ⟨M_0, M_1⟩ := c2 MH.out
            go_wp2
            refine wp_region_noPanic ?_
            refine wp_region_held_drew (S := (fun w' => w'.cell? ⟨wr.heap.size, 0, none⟩ = some (.string h.name) ∧ w'.cell? ⟨wr.heap.size, 1, none⟩ = some (.int .i64 h.ver.epoch) ∧ w'.cell? ⟨wr.heap.size, 2, none⟩ = some (.int .i64 h.ver.seq) ∧ w'.cell? ⟨wr.heap.size, 3, none⟩ = some (.int .i64 h.size) ∧ w'.cell? ⟨wr.heap.size, 4, none⟩ = some (.int .i64 h.sum) ∧ w'.cell? ⟨w.heap.size, 0, none⟩ = some (.int .i64 m.epoch) ∧ w'.cell? ⟨w.heap.size, 1, none⟩ = some (.int .i64 m.seq))) (by kernel_rfl) ?_ (fun hHeld => ?_)
            · go_keep
            refine tj 0 rfl ?_
            try simp only [Act.put, ya, yb, yc, yd, ye, yf]
            refine tj 1 rfl ?_
            try simp only [Act.put, ya, yb, yc, yd, ye, yf]
            refine wpAnyH_ready (rs := [2]) (by kernel_rfl) (by simp) ?_
            refine AllReadyH.cons rfl (fun K hK => ?_) AllReadyH.nil
            go_simp
            (go_at_call 66; refine (C0.out _ (by first | exact BH.out | exact BH.out.drew)).mono ?_; rintro e9 w9 ⟨rfl, b9⟩; (try replace b9 := undrewX b9); have EH := Lib.hid (EH.out.later b9); have MH := Lib.hid (MH.out.later b9); have BH := Lib.hid (chainX _ BH.out b9); obtain ⟨E_0, E_1, E_2, E_3, E_4⟩ := c5 EH.out; obtain ⟨M_0, M_1⟩ := c2 MH.out; clear b9)
            (try go_wp2_with fail)
            refine hK.out _ _ ?_ (fun hHeld2 => ?_)
            · (try dsimp only); go_keep
            clear hK K
            try simp only [Act.put, ya, yb, yc, yd, ye, yf]
            refine tj 3 rfl ?_
            try simp only [Act.put, ya, yb, yc, yd, ye, yf]
            refine tj 4 rfl ?_
            try simp only [Act.put, ya, yb, yc, yd, ye, yf]
            refine tk 5 (v := undef) rfl (Or.inr ⟨by kernel_rfl, rfl⟩) (by assumption) ?_
            try simp only [Act.put, ya, yb, yc, yd, ye, yf]
            refine tk 6 (v := undef) rfl (Or.inr ⟨by kernel_rfl, rfl⟩) (by assumption) ?_
            try simp only [Act.put, ya, yb, yc, yd, ye, yf]
            refine tk 7 (v := undef) rfl (Or.inr ⟨by kernel_rfl, rfl⟩) (by assumption) ?_
            try simp only [Act.put, ya, yb, yc, yd, ye, yf]
            refine tk 8 (v := undef) rfl (Or.inr ⟨by kernel_rfl, rfl⟩) (by assumption) ?_
            try simp only [Act.put, ya, yb, yc, yd, ye, yf]
            refine tk 9 (v := undef) rfl (Or.inr ⟨by kernel_rfl, rfl⟩) (by assumption) ?_
            try simp only [Act.put, ya, yb, yc, yd, ye, yf]
            refine tk 10 (v := undef) rfl (Or.inr ⟨by kernel_rfl, rfl⟩) (by assumption) ?_
            try simp only [Act.put, ya, yb, yc, yd, ye, yf]
            refine tk 11 (v := undef) rfl (Or.inr ⟨by kernel_rfl, rfl⟩) (by assumption) ?_
            try simp only [Act.put, ya, yb, yc, yd, ye, yf]
            refine tk 12 (v := undef) rfl (Or.inr ⟨by kernel_rfl, rfl⟩) (by assumption) ?_
            try simp only [Act.put, ya, yb, yc, yd, ye, yf]
            refine tk 13 (v := undef) rfl (Or.inr ⟨by kernel_rfl, rfl⟩) (by assumption) ?_
            try simp only [Act.put, ya, yb, yc, yd, ye, yf]
            refine tk 14 (v := undef) rfl (Or.inr ⟨by kernel_rfl, rfl⟩) (by assumption) ?_
            try simp only [Act.put, ya, yb, yc, yd, ye, yf]
            refine tk 15 (v := undef) rfl (Or.inr ⟨by kernel_rfl, rfl⟩) (by assumption) ?_
            try simp only [Act.put, ya, yb, yc, yd, ye, yf]
            refine tk 16 (v := undef) rfl (Or.inr ⟨by kernel_rfl, rfl⟩) (by assumption) ?_
            try simp only [Act.put, ya, yb, yc, yd, ye, yf]
            refine tk 17 (v := undef) rfl (Or.inr ⟨by kernel_rfl, rfl⟩) (by assumption) ?_
            try simp only [Act.put, ya, yb, yc, yd, ye, yf]
            refine tj 18 rfl ?_
            try simp only [Act.put, ya, yb, yc, yd, ye, yf]
            refine tj 19 rfl ?_
            try simp only [Act.put, ya, yb, yc, yd, ye, yf]
            refine tk 20 (v := undef) rfl (Or.inr ⟨by kernel_rfl, rfl⟩) (by assumption) ?_
            try simp only [Act.put, ya, yb, yc, yd, ye, yf]
            refine tk 21 (v := undef) rfl (Or.inr ⟨by kernel_rfl, rfl⟩) (by assumption) ?_
            try simp only [Act.put, ya, yb, yc, yd, ye, yf]
            refine tk 22 (v := undef) rfl (Or.inr ⟨by kernel_rfl, rfl⟩) (by assumption) ?_
            try simp only [Act.put, ya, yb, yc, yd, ye, yf]
            refine tk 23 (v := undef) rfl (Or.inr ⟨by kernel_rfl, rfl⟩) (by assumption) ?_
            try simp only [Act.put, ya, yb, yc, yd, ye, yf]
            refine tj 24 rfl ?_
            try simp only [Act.put, ya, yb, yc, yd, ye, yf]
            refine tj 25 rfl ?_
            try simp only [Act.put, ya, yb, yc, yd, ye, yf]
            refine tk 26 (v := undef) rfl (Or.inr ⟨by kernel_rfl, rfl⟩) (by assumption) ?_
            try simp only [Act.put, ya, yb, yc, yd, ye, yf]
            refine tk 27 (v := undef) rfl (Or.inr ⟨by kernel_rfl, rfl⟩) (by assumption) ?_
            try simp only [Act.put, ya, yb, yc, yd, ye, yf]
            refine tk 28 (v := undef) rfl (Or.inr ⟨by kernel_rfl, rfl⟩) (by assumption) ?_
            try simp only [Act.put, ya, yb, yc, yd, ye, yf]
            refine tk 29 (v := undef) rfl (Or.inr ⟨by kernel_rfl, rfl⟩) (by assumption) ?_
            try simp only [Act.put, ya, yb, yc, yd, ye, yf]
            refine tj 30 rfl ?_
            try simp only [Act.put, ya, yb, yc, yd, ye, yf]
            refine tj 31 rfl ?_
            try simp only [Act.put, ya, yb, yc, yd, ye, yf]
            refine tk 32 (v := undef) rfl (Or.inr ⟨by kernel_rfl, rfl⟩) (by assumption) ?_
            try simp only [Act.put, ya, yb, yc, yd, ye, yf]
            refine tk 33 (v := undef) rfl (Or.inr ⟨by kernel_rfl, rfl⟩) (by assumption) ?_
            try simp only [Act.put, ya, yb, yc, yd, ye, yf]
            refine tk 34 (v := undef) rfl (Or.inr ⟨by kernel_rfl, rfl⟩) (by assumption) ?_
            try simp only [Act.put, ya, yb, yc, yd, ye, yf]
            refine tk 35 (v := undef) rfl (Or.inr ⟨by kernel_rfl, rfl⟩) (by assumption) ?_
            try simp only [Act.put, ya, yb, yc, yd, ye, yf]
            refine tj 36 rfl ?_
            try simp only [Act.put, ya, yb, yc, yd, ye, yf]
            refine tj 37 rfl ?_
            try simp only [Act.put, ya, yb, yc, yd, ye, yf]
            refine tk 38 (v := undef) rfl (Or.inr ⟨by kernel_rfl, rfl⟩) (by assumption) ?_
            try simp only [Act.put, ya, yb, yc, yd, ye, yf]
            refine tk 39 (v := undef) rfl (Or.inr ⟨by kernel_rfl, rfl⟩) (by assumption) ?_
            try simp only [Act.put, ya, yb, yc, yd, ye, yf]
            refine tk 40 (v := undef) rfl (Or.inr ⟨by kernel_rfl, rfl⟩) (by assumption) ?_
            try simp only [Act.put, ya, yb, yc, yd, ye, yf]
            refine tk 41 (v := undef) rfl (Or.inr ⟨by kernel_rfl, rfl⟩) (by assumption) ?_
            try simp only [Act.put, ya, yb, yc, yd, ye, yf]
            refine tj 42 rfl ?_
            try simp only [Act.put, ya, yb, yc, yd, ye, yf]
            refine wpAnyH_done (by kernel_rfl) ?_ _
            refine NoPanic.normal ?_
            go_wp2
            go_ret
            exact IffB.no NO.out (chainX w LW.out (chainX (w.alloc (.cells #[.int .i64 m.epoch, .int .i64 m.seq] 35)) BF.out BH.out))
          · skip
            cases b2
            · skip
              have NO := Lib.hid (NOW.out (by rw [HP]; try simp))
              clear NOW YES HP
              (try clear NOP)
              (try clear H4)
              (try clear H5)
              obtain ⟨E_0, E_1, E_2, E_3, E_4⟩ := c5 EH.out
              obtain ⟨M_0, M_1⟩ := c2 MH.out
              go_wp2
              refine wp_region_noPanic ?_
              refine wp_region_held_drew (S := (fun w' => w'.cell? ⟨wr.heap.size, 0, none⟩ = some (.string h.name) ∧ w'.cell? ⟨wr.heap.size, 1, none⟩ = some (.int .i64 h.ver.epoch) ∧ w'.cell? ⟨wr.heap.size, 2, none⟩ = some (.int .i64 h.ver.seq) ∧ w'.cell? ⟨wr.heap.size, 3, none⟩ = some (.int .i64 h.size) ∧ w'.cell? ⟨wr.heap.size, 4, none⟩ = some (.int .i64 h.sum) ∧ w'.cell? ⟨w.heap.size, 0, none⟩ = some (.int .i64 m.epoch) ∧ w'.cell? ⟨w.heap.size, 1, none⟩ = some (.int .i64 m.seq))) (by kernel_rfl) ?_ (fun hHeld => ?_)
              · go_keep
              refine tj 0 rfl ?_
              try simp only [Act.put, ya, yb, yc, yd, ye, yf]
              refine tj 1 rfl ?_
              try simp only [Act.put, ya, yb, yc, yd, ye, yf]
              refine wpAnyH_ready (rs := [2]) (by kernel_rfl) (by simp) ?_
              refine AllReadyH.cons rfl (fun K hK => ?_) AllReadyH.nil
              go_simp
              (go_at_call 66; refine (C0.out _ (by first | exact BH.out | exact BH.out.drew)).mono ?_; rintro e9 w9 ⟨rfl, b9⟩; (try replace b9 := undrewX b9); have EH := Lib.hid (EH.out.later b9); have MH := Lib.hid (MH.out.later b9); have BH := Lib.hid (chainX _ BH.out b9); obtain ⟨E_0, E_1, E_2, E_3, E_4⟩ := c5 EH.out; obtain ⟨M_0, M_1⟩ := c2 MH.out; clear b9)
              (try go_wp2_with fail)
              refine hK.out _ _ ?_ (fun hHeld2 => ?_)
              · (try dsimp only); go_keep
              clear hK K
              try simp only [Act.put, ya, yb, yc, yd, ye, yf]
              refine tj 3 rfl ?_
              try simp only [Act.put, ya, yb, yc, yd, ye, yf]
              refine tj 4 rfl ?_
              try simp only [Act.put, ya, yb, yc, yd, ye, yf]
              refine tj 5 rfl ?_
              try simp only [Act.put, ya, yb, yc, yd, ye, yf]
              refine tj 6 rfl ?_
              try simp only [Act.put, ya, yb, yc, yd, ye, yf]
              refine tj 7 rfl ?_
              try simp only [Act.put, ya, yb, yc, yd, ye, yf]
              refine tk 8 (v := undef) rfl (Or.inr ⟨by kernel_rfl, rfl⟩) (by assumption) ?_
              try simp only [Act.put, ya, yb, yc, yd, ye, yf]
              refine tk 9 (v := undef) rfl (Or.inr ⟨by kernel_rfl, rfl⟩) (by assumption) ?_
              try simp only [Act.put, ya, yb, yc, yd, ye, yf]
              refine tk 10 (v := undef) rfl (Or.inr ⟨by kernel_rfl, rfl⟩) (by assumption) ?_
              try simp only [Act.put, ya, yb, yc, yd, ye, yf]
              refine tk 11 (v := undef) rfl (Or.inr ⟨by kernel_rfl, rfl⟩) (by assumption) ?_
              try simp only [Act.put, ya, yb, yc, yd, ye, yf]
              refine tk 12 (v := undef) rfl (Or.inr ⟨by kernel_rfl, rfl⟩) (by assumption) ?_
              try simp only [Act.put, ya, yb, yc, yd, ye, yf]
              refine tk 13 (v := undef) rfl (Or.inr ⟨by kernel_rfl, rfl⟩) (by assumption) ?_
              try simp only [Act.put, ya, yb, yc, yd, ye, yf]
              refine tk 14 (v := undef) rfl (Or.inr ⟨by kernel_rfl, rfl⟩) (by assumption) ?_
              try simp only [Act.put, ya, yb, yc, yd, ye, yf]
              refine tk 15 (v := undef) rfl (Or.inr ⟨by kernel_rfl, rfl⟩) (by assumption) ?_
              try simp only [Act.put, ya, yb, yc, yd, ye, yf]
              refine tk 16 (v := undef) rfl (Or.inr ⟨by kernel_rfl, rfl⟩) (by assumption) ?_
              try simp only [Act.put, ya, yb, yc, yd, ye, yf]
              refine tj 17 rfl ?_
              try simp only [Act.put, ya, yb, yc, yd, ye, yf]
              refine tj 18 rfl ?_
              try simp only [Act.put, ya, yb, yc, yd, ye, yf]
              refine tj 19 rfl ?_
              try simp only [Act.put, ya, yb, yc, yd, ye, yf]
              refine tj 20 rfl ?_
              try simp only [Act.put, ya, yb, yc, yd, ye, yf]
              refine tj 21 rfl ?_
              try simp only [Act.put, ya, yb, yc, yd, ye, yf]
              refine wpAnyH_ready (rs := [22]) (by kernel_rfl) (by simp) ?_
              refine AllReadyH.cons rfl (fun K hK => ?_) AllReadyH.nil
              go_simp
              (go_at_call 67; refine (C2.out _ (by first | exact BH.out | exact BH.out.drew)).mono ?_; rintro e9 w9 ⟨rfl, b9⟩; (try replace b9 := undrewX b9); have EH := Lib.hid (EH.out.later b9); have MH := Lib.hid (MH.out.later b9); have BH := Lib.hid (chainX _ BH.out b9); obtain ⟨E_0, E_1, E_2, E_3, E_4⟩ := c5 EH.out; obtain ⟨M_0, M_1⟩ := c2 MH.out; clear b9)
              (try go_wp2_with fail)
              refine hK.out _ _ ?_ (fun hHeld22 => ?_)
              · (try dsimp only); go_keep
              clear hK K
              try simp only [Act.put, ya, yb, yc, yd, ye, yf]
              refine tj 23 rfl ?_
              try simp only [Act.put, ya, yb, yc, yd, ye, yf]
              refine tj 24 rfl ?_
              try simp only [Act.put, ya, yb, yc, yd, ye, yf]
              refine tj 25 rfl ?_
              try simp only [Act.put, ya, yb, yc, yd, ye, yf]
              refine tk 26 (v := undef) rfl (Or.inr ⟨by kernel_rfl, rfl⟩) (by assumption) ?_
              try simp only [Act.put, ya, yb, yc, yd, ye, yf]
              refine tk 27 (v := undef) rfl (Or.inr ⟨by kernel_rfl, rfl⟩) (by assumption) ?_
              try simp only [Act.put, ya, yb, yc, yd, ye, yf]
              refine tk 28 (v := undef) rfl (Or.inr ⟨by kernel_rfl, rfl⟩) (by assumption) ?_
              try simp only [Act.put, ya, yb, yc, yd, ye, yf]
              refine tk 29 (v := undef) rfl (Or.inr ⟨by kernel_rfl, rfl⟩) (by assumption) ?_
              try simp only [Act.put, ya, yb, yc, yd, ye, yf]
              refine tj 30 rfl ?_
              try simp only [Act.put, ya, yb, yc, yd, ye, yf]
              refine tj 31 rfl ?_
              try simp only [Act.put, ya, yb, yc, yd, ye, yf]
              refine tk 32 (v := undef) rfl (Or.inr ⟨by kernel_rfl, rfl⟩) (by assumption) ?_
              try simp only [Act.put, ya, yb, yc, yd, ye, yf]
              refine tk 33 (v := undef) rfl (Or.inr ⟨by kernel_rfl, rfl⟩) (by assumption) ?_
              try simp only [Act.put, ya, yb, yc, yd, ye, yf]
              refine tk 34 (v := undef) rfl (Or.inr ⟨by kernel_rfl, rfl⟩) (by assumption) ?_
              try simp only [Act.put, ya, yb, yc, yd, ye, yf]
              refine tk 35 (v := undef) rfl (Or.inr ⟨by kernel_rfl, rfl⟩) (by assumption) ?_
              try simp only [Act.put, ya, yb, yc, yd, ye, yf]
              refine tj 36 rfl ?_
              try simp only [Act.put, ya, yb, yc, yd, ye, yf]
              refine tj 37 rfl ?_
              try simp only [Act.put, ya, yb, yc, yd, ye, yf]
              refine tk 38 (v := undef) rfl (Or.inr ⟨by kernel_rfl, rfl⟩) (by assumption) ?_
              try simp only [Act.put, ya, yb, yc, yd, ye, yf]
              refine tk 39 (v := undef) rfl (Or.inr ⟨by kernel_rfl, rfl⟩) (by assumption) ?_
              try simp only [Act.put, ya, yb, yc, yd, ye, yf]
              refine tk 40 (v := undef) rfl (Or.inr ⟨by kernel_rfl, rfl⟩) (by assumption) ?_
              try simp only [Act.put, ya, yb, yc, yd, ye, yf]
              refine tk 41 (v := undef) rfl (Or.inr ⟨by kernel_rfl, rfl⟩) (by assumption) ?_
              try simp only [Act.put, ya, yb, yc, yd, ye, yf]
              refine tj 42 rfl ?_
              try simp only [Act.put, ya, yb, yc, yd, ye, yf]
              refine wpAnyH_done (by kernel_rfl) ?_ _
              refine NoPanic.normal ?_
              go_wp2
              go_ret
              exact IffB.no NO.out (chainX w LW.out (chainX (w.alloc (.cells #[.int .i64 m.epoch, .int .i64 m.seq] 35)) BF.out BH.out))
            · skip
              cases b3
              · skip
                cases b4
                · skip
                  have NO := Lib.hid (NOW.out (by rw [HP]; try simp))
                  clear NOW YES HP
                  (try clear NOP)
                  (try clear H4)
                  (try clear H5)
                  obtain ⟨E_0, E_1, E_2, E_3, E_4⟩ := c5 EH.out
                  obtain ⟨M_0, M_1⟩ := c2 MH.out
                  go_wp2
                  refine wp_region_noPanic ?_
                  refine wp_region_held_drew (S := (fun w' => w'.cell? ⟨wr.heap.size, 0, none⟩ = some (.string h.name) ∧ w'.cell? ⟨wr.heap.size, 1, none⟩ = some (.int .i64 h.ver.epoch) ∧ w'.cell? ⟨wr.heap.size, 2, none⟩ = some (.int .i64 h.ver.seq) ∧ w'.cell? ⟨wr.heap.size, 3, none⟩ = some (.int .i64 h.size) ∧ w'.cell? ⟨wr.heap.size, 4, none⟩ = some (.int .i64 h.sum) ∧ w'.cell? ⟨w.heap.size, 0, none⟩ = some (.int .i64 m.epoch) ∧ w'.cell? ⟨w.heap.size, 1, none⟩ = some (.int .i64 m.seq))) (by kernel_rfl) ?_ (fun hHeld => ?_)
                  · go_keep
                  refine tj 0 rfl ?_
                  try simp only [Act.put, ya, yb, yc, yd, ye, yf]
                  refine tj 1 rfl ?_
                  try simp only [Act.put, ya, yb, yc, yd, ye, yf]
                  refine wpAnyH_ready (rs := [2]) (by kernel_rfl) (by simp) ?_
                  refine AllReadyH.cons rfl (fun K hK => ?_) AllReadyH.nil
                  go_simp
                  (go_at_call 66; refine (C0.out _ (by first | exact BH.out | exact BH.out.drew)).mono ?_; rintro e9 w9 ⟨rfl, b9⟩; (try replace b9 := undrewX b9); have EH := Lib.hid (EH.out.later b9); have MH := Lib.hid (MH.out.later b9); have BH := Lib.hid (chainX _ BH.out b9); obtain ⟨E_0, E_1, E_2, E_3, E_4⟩ := c5 EH.out; obtain ⟨M_0, M_1⟩ := c2 MH.out; clear b9)
                  (try go_wp2_with fail)
                  refine hK.out _ _ ?_ (fun hHeld2 => ?_)
                  · (try dsimp only); go_keep
                  clear hK K
                  try simp only [Act.put, ya, yb, yc, yd, ye, yf]
                  refine tj 3 rfl ?_
                  try simp only [Act.put, ya, yb, yc, yd, ye, yf]
                  refine tj 4 rfl ?_
                  try simp only [Act.put, ya, yb, yc, yd, ye, yf]
                  refine tj 5 rfl ?_
                  try simp only [Act.put, ya, yb, yc, yd, ye, yf]
                  refine tj 6 rfl ?_
                  try simp only [Act.put, ya, yb, yc, yd, ye, yf]
                  refine tj 7 rfl ?_
                  try simp only [Act.put, ya, yb, yc, yd, ye, yf]
                  refine tk 8 (v := undef) rfl (Or.inr ⟨by kernel_rfl, rfl⟩) (by assumption) ?_
                  try simp only [Act.put, ya, yb, yc, yd, ye, yf]
                  refine tk 9 (v := undef) rfl (Or.inr ⟨by kernel_rfl, rfl⟩) (by assumption) ?_
                  try simp only [Act.put, ya, yb, yc, yd, ye, yf]
                  refine tk 10 (v := undef) rfl (Or.inr ⟨by kernel_rfl, rfl⟩) (by assumption) ?_
                  try simp only [Act.put, ya, yb, yc, yd, ye, yf]
                  refine tk 11 (v := undef) rfl (Or.inr ⟨by kernel_rfl, rfl⟩) (by assumption) ?_
                  try simp only [Act.put, ya, yb, yc, yd, ye, yf]
                  refine tk 12 (v := undef) rfl (Or.inr ⟨by kernel_rfl, rfl⟩) (by assumption) ?_
                  try simp only [Act.put, ya, yb, yc, yd, ye, yf]
                  refine tk 13 (v := undef) rfl (Or.inr ⟨by kernel_rfl, rfl⟩) (by assumption) ?_
                  try simp only [Act.put, ya, yb, yc, yd, ye, yf]
                  refine tk 14 (v := undef) rfl (Or.inr ⟨by kernel_rfl, rfl⟩) (by assumption) ?_
                  try simp only [Act.put, ya, yb, yc, yd, ye, yf]
                  refine tk 15 (v := undef) rfl (Or.inr ⟨by kernel_rfl, rfl⟩) (by assumption) ?_
                  try simp only [Act.put, ya, yb, yc, yd, ye, yf]
                  refine tk 16 (v := undef) rfl (Or.inr ⟨by kernel_rfl, rfl⟩) (by assumption) ?_
                  try simp only [Act.put, ya, yb, yc, yd, ye, yf]
                  refine tj 17 rfl ?_
                  try simp only [Act.put, ya, yb, yc, yd, ye, yf]
                  refine tj 18 rfl ?_
                  try simp only [Act.put, ya, yb, yc, yd, ye, yf]
                  refine tj 19 rfl ?_
                  try simp only [Act.put, ya, yb, yc, yd, ye, yf]
                  refine tj 20 rfl ?_
                  try simp only [Act.put, ya, yb, yc, yd, ye, yf]
                  refine tj 21 rfl ?_
                  try simp only [Act.put, ya, yb, yc, yd, ye, yf]
                  refine wpAnyH_ready (rs := [22]) (by kernel_rfl) (by simp) ?_
                  refine AllReadyH.cons rfl (fun K hK => ?_) AllReadyH.nil
                  go_simp
                  (go_at_call 67; refine (C2.out _ (by first | exact BH.out | exact BH.out.drew)).mono ?_; rintro e9 w9 ⟨rfl, b9⟩; (try replace b9 := undrewX b9); have EH := Lib.hid (EH.out.later b9); have MH := Lib.hid (MH.out.later b9); have BH := Lib.hid (chainX _ BH.out b9); obtain ⟨E_0, E_1, E_2, E_3, E_4⟩ := c5 EH.out; obtain ⟨M_0, M_1⟩ := c2 MH.out; clear b9)
                  (try go_wp2_with fail)
                  refine hK.out _ _ ?_ (fun hHeld22 => ?_)
                  · (try dsimp only); go_keep
                  clear hK K
                  try simp only [Act.put, ya, yb, yc, yd, ye, yf]
                  refine tj 23 rfl ?_
                  try simp only [Act.put, ya, yb, yc, yd, ye, yf]
                  refine tj 24 rfl ?_
                  try simp only [Act.put, ya, yb, yc, yd, ye, yf]
                  refine tj 25 rfl ?_
                  try simp only [Act.put, ya, yb, yc, yd, ye, yf]
                  refine tj 26 rfl ?_
                  try simp only [Act.put, ya, yb, yc, yd, ye, yf]
                  refine tj 27 rfl ?_
                  try simp only [Act.put, ya, yb, yc, yd, ye, yf]
                  refine tj 28 rfl ?_
                  try simp only [Act.put, ya, yb, yc, yd, ye, yf]
                  refine wpAnyH_ready (rs := [29]) (by kernel_rfl) (by simp) ?_
                  refine AllReadyH.cons rfl (fun K hK => ?_) AllReadyH.nil
                  go_simp
                  (go_at_call 34; refine (C3.out _ (by first | exact BH.out | exact BH.out.drew)).mono ?_; rintro e9 w9 ⟨rfl, b9⟩; (try replace b9 := undrewX b9); have EH := Lib.hid (EH.out.later b9); have MH := Lib.hid (MH.out.later b9); have BH := Lib.hid (chainX _ BH.out b9); obtain ⟨E_0, E_1, E_2, E_3, E_4⟩ := c5 EH.out; obtain ⟨M_0, M_1⟩ := c2 MH.out; clear b9)
                  (try go_wp2_with fail)
                  refine hK.out _ _ ?_ (fun hHeld29 => ?_)
                  · (try dsimp only); go_keep
                  clear hK K
                  try simp only [Act.put, ya, yb, yc, yd, ye, yf]
                  refine tj 30 rfl ?_
                  try simp only [Act.put, ya, yb, yc, yd, ye, yf]
                  refine tj 31 rfl ?_
                  try simp only [Act.put, ya, yb, yc, yd, ye, yf]
                  refine tj 32 rfl ?_
                  try simp only [Act.put, ya, yb, yc, yd, ye, yf]
                  refine tj 33 rfl ?_
                  try simp only [Act.put, ya, yb, yc, yd, ye, yf]
                  refine wpAnyH_ready (rs := [34]) (by kernel_rfl) (by simp) ?_
                  refine AllReadyH.cons rfl (fun K hK => ?_) AllReadyH.nil
                  go_simp
                  (go_at_call 29; refine (C4.out _ (by first | exact BH.out | exact BH.out.drew)).mono ?_; rintro e9 w9 ⟨rfl, b9⟩; (try replace b9 := undrewX b9); have EH := Lib.hid (EH.out.later b9); have MH := Lib.hid (MH.out.later b9); have BH := Lib.hid (chainX _ BH.out b9); obtain ⟨E_0, E_1, E_2, E_3, E_4⟩ := c5 EH.out; obtain ⟨M_0, M_1⟩ := c2 MH.out; clear b9)
                  (try go_wp2_with fail)
                  refine hK.out _ _ ?_ (fun hHeld34 => ?_)
                  · (try dsimp only); go_keep
                  clear hK K
                  try simp only [Act.put, ya, yb, yc, yd, ye, yf]
                  refine tj 35 rfl ?_
                  try simp only [Act.put, ya, yb, yc, yd, ye, yf]
                  refine tj 36 rfl ?_
                  try simp only [Act.put, ya, yb, yc, yd, ye, yf]
                  refine tj 37 rfl ?_
                  try simp only [Act.put, ya, yb, yc, yd, ye, yf]
                  refine tk 38 (v := undef) rfl (Or.inr ⟨by kernel_rfl, rfl⟩) (by assumption) ?_
                  try simp only [Act.put, ya, yb, yc, yd, ye, yf]
                  refine tk 39 (v := undef) rfl (Or.inr ⟨by kernel_rfl, rfl⟩) (by assumption) ?_
                  try simp only [Act.put, ya, yb, yc, yd, ye, yf]
                  refine tk 40 (v := undef) rfl (Or.inr ⟨by kernel_rfl, rfl⟩) (by assumption) ?_
                  try simp only [Act.put, ya, yb, yc, yd, ye, yf]
                  refine tk 41 (v := undef) rfl (Or.inr ⟨by kernel_rfl, rfl⟩) (by assumption) ?_
                  try simp only [Act.put, ya, yb, yc, yd, ye, yf]
                  refine tj 42 rfl ?_
                  try simp only [Act.put, ya, yb, yc, yd, ye, yf]
                  refine wpAnyH_done (by kernel_rfl) ?_ _
                  refine NoPanic.normal ?_
                  go_wp2
                  go_ret
                  exact IffB.no NO.out (chainX w LW.out (chainX (w.alloc (.cells #[.int .i64 m.epoch, .int .i64 m.seq] 35)) BF.out BH.out))
                · skip
                  cases b5
                  · skip
                    have NO := Lib.hid (NOW.out (by rw [HP]; try simp))
                    clear NOW YES HP
                    (try clear NOP)
                    (try clear H4)
                    (try clear H5)
                    obtain ⟨E_0, E_1, E_2, E_3, E_4⟩ := c5 EH.out
                    obtain ⟨M_0, M_1⟩ := c2 MH.out
                    go_wp2
                    refine wp_region_noPanic ?_
                    refine wp_region_held_drew (S := (fun w' => w'.cell? ⟨wr.heap.size, 0, none⟩ = some (.string h.name) ∧ w'.cell? ⟨wr.heap.size, 1, none⟩ = some (.int .i64 h.ver.epoch) ∧ w'.cell? ⟨wr.heap.size, 2, none⟩ = some (.int .i64 h.ver.seq) ∧ w'.cell? ⟨wr.heap.size, 3, none⟩ = some (.int .i64 h.size) ∧ w'.cell? ⟨wr.heap.size, 4, none⟩ = some (.int .i64 h.sum) ∧ w'.cell? ⟨w.heap.size, 0, none⟩ = some (.int .i64 m.epoch) ∧ w'.cell? ⟨w.heap.size, 1, none⟩ = some (.int .i64 m.seq))) (by kernel_rfl) ?_ (fun hHeld => ?_)
                    · go_keep
                    refine tj 0 rfl ?_
                    try simp only [Act.put, ya, yb, yc, yd, ye, yf]
                    refine tj 1 rfl ?_
                    try simp only [Act.put, ya, yb, yc, yd, ye, yf]
                    refine wpAnyH_ready (rs := [2]) (by kernel_rfl) (by simp) ?_
                    refine AllReadyH.cons rfl (fun K hK => ?_) AllReadyH.nil
                    go_simp
                    (go_at_call 66; refine (C0.out _ (by first | exact BH.out | exact BH.out.drew)).mono ?_; rintro e9 w9 ⟨rfl, b9⟩; (try replace b9 := undrewX b9); have EH := Lib.hid (EH.out.later b9); have MH := Lib.hid (MH.out.later b9); have BH := Lib.hid (chainX _ BH.out b9); obtain ⟨E_0, E_1, E_2, E_3, E_4⟩ := c5 EH.out; obtain ⟨M_0, M_1⟩ := c2 MH.out; clear b9)
                    (try go_wp2_with fail)
                    refine hK.out _ _ ?_ (fun hHeld2 => ?_)
                    · (try dsimp only); go_keep
                    clear hK K
                    try simp only [Act.put, ya, yb, yc, yd, ye, yf]
                    refine tj 3 rfl ?_
                    try simp only [Act.put, ya, yb, yc, yd, ye, yf]
                    refine tj 4 rfl ?_
                    try simp only [Act.put, ya, yb, yc, yd, ye, yf]
                    refine tj 5 rfl ?_
                    try simp only [Act.put, ya, yb, yc, yd, ye, yf]
                    refine tj 6 rfl ?_
                    try simp only [Act.put, ya, yb, yc, yd, ye, yf]
                    refine tj 7 rfl ?_
                    try simp only [Act.put, ya, yb, yc, yd, ye, yf]
                    refine tk 8 (v := undef) rfl (Or.inr ⟨by kernel_rfl, rfl⟩) (by assumption) ?_
                    try simp only [Act.put, ya, yb, yc, yd, ye, yf]
                    refine tk 9 (v := undef) rfl (Or.inr ⟨by kernel_rfl, rfl⟩) (by assumption) ?_
                    try simp only [Act.put, ya, yb, yc, yd, ye, yf]
                    refine tk 10 (v := undef) rfl (Or.inr ⟨by kernel_rfl, rfl⟩) (by assumption) ?_
                    try simp only [Act.put, ya, yb, yc, yd, ye, yf]
                    refine tk 11 (v := undef) rfl (Or.inr ⟨by kernel_rfl, rfl⟩) (by assumption) ?_
                    try simp only [Act.put, ya, yb, yc, yd, ye, yf]
                    refine tk 12 (v := undef) rfl (Or.inr ⟨by kernel_rfl, rfl⟩) (by assumption) ?_
                    try simp only [Act.put, ya, yb, yc, yd, ye, yf]
                    refine tk 13 (v := undef) rfl (Or.inr ⟨by kernel_rfl, rfl⟩) (by assumption) ?_
                    try simp only [Act.put, ya, yb, yc, yd, ye, yf]
                    refine tk 14 (v := undef) rfl (Or.inr ⟨by kernel_rfl, rfl⟩) (by assumption) ?_
                    try simp only [Act.put, ya, yb, yc, yd, ye, yf]
                    refine tk 15 (v := undef) rfl (Or.inr ⟨by kernel_rfl, rfl⟩) (by assumption) ?_
                    try simp only [Act.put, ya, yb, yc, yd, ye, yf]
                    refine tk 16 (v := undef) rfl (Or.inr ⟨by kernel_rfl, rfl⟩) (by assumption) ?_
                    try simp only [Act.put, ya, yb, yc, yd, ye, yf]
                    refine tj 17 rfl ?_
                    try simp only [Act.put, ya, yb, yc, yd, ye, yf]
                    refine tj 18 rfl ?_
                    try simp only [Act.put, ya, yb, yc, yd, ye, yf]
                    refine tj 19 rfl ?_
                    try simp only [Act.put, ya, yb, yc, yd, ye, yf]
                    refine tj 20 rfl ?_
                    try simp only [Act.put, ya, yb, yc, yd, ye, yf]
                    refine tj 21 rfl ?_
                    try simp only [Act.put, ya, yb, yc, yd, ye, yf]
                    refine wpAnyH_ready (rs := [22]) (by kernel_rfl) (by simp) ?_
                    refine AllReadyH.cons rfl (fun K hK => ?_) AllReadyH.nil
                    go_simp
                    (go_at_call 67; refine (C2.out _ (by first | exact BH.out | exact BH.out.drew)).mono ?_; rintro e9 w9 ⟨rfl, b9⟩; (try replace b9 := undrewX b9); have EH := Lib.hid (EH.out.later b9); have MH := Lib.hid (MH.out.later b9); have BH := Lib.hid (chainX _ BH.out b9); obtain ⟨E_0, E_1, E_2, E_3, E_4⟩ := c5 EH.out; obtain ⟨M_0, M_1⟩ := c2 MH.out; clear b9)
                    (try go_wp2_with fail)
                    refine hK.out _ _ ?_ (fun hHeld22 => ?_)
                    · (try dsimp only); go_keep
                    clear hK K
                    try simp only [Act.put, ya, yb, yc, yd, ye, yf]
                    refine tj 23 rfl ?_
                    try simp only [Act.put, ya, yb, yc, yd, ye, yf]
                    refine tj 24 rfl ?_
                    try simp only [Act.put, ya, yb, yc, yd, ye, yf]
                    refine tj 25 rfl ?_
                    try simp only [Act.put, ya, yb, yc, yd, ye, yf]
                    refine tj 26 rfl ?_
                    try simp only [Act.put, ya, yb, yc, yd, ye, yf]
                    refine tj 27 rfl ?_
                    try simp only [Act.put, ya, yb, yc, yd, ye, yf]
                    refine tj 28 rfl ?_
                    try simp only [Act.put, ya, yb, yc, yd, ye, yf]
                    refine wpAnyH_ready (rs := [29]) (by kernel_rfl) (by simp) ?_
                    refine AllReadyH.cons rfl (fun K hK => ?_) AllReadyH.nil
                    go_simp
                    (go_at_call 34; refine (C3.out _ (by first | exact BH.out | exact BH.out.drew)).mono ?_; rintro e9 w9 ⟨rfl, b9⟩; (try replace b9 := undrewX b9); have EH := Lib.hid (EH.out.later b9); have MH := Lib.hid (MH.out.later b9); have BH := Lib.hid (chainX _ BH.out b9); obtain ⟨E_0, E_1, E_2, E_3, E_4⟩ := c5 EH.out; obtain ⟨M_0, M_1⟩ := c2 MH.out; clear b9)
                    (try go_wp2_with fail)
                    refine hK.out _ _ ?_ (fun hHeld29 => ?_)
                    · (try dsimp only); go_keep
                    clear hK K
                    try simp only [Act.put, ya, yb, yc, yd, ye, yf]
                    refine tj 30 rfl ?_
                    try simp only [Act.put, ya, yb, yc, yd, ye, yf]
                    refine tj 31 rfl ?_
                    try simp only [Act.put, ya, yb, yc, yd, ye, yf]
                    refine tj 32 rfl ?_
                    try simp only [Act.put, ya, yb, yc, yd, ye, yf]
                    refine tj 33 rfl ?_
                    try simp only [Act.put, ya, yb, yc, yd, ye, yf]
                    refine wpAnyH_ready (rs := [34]) (by kernel_rfl) (by simp) ?_
                    refine AllReadyH.cons rfl (fun K hK => ?_) AllReadyH.nil
                    go_simp
                    (go_at_call 29; refine (C4.out _ (by first | exact BH.out | exact BH.out.drew)).mono ?_; rintro e9 w9 ⟨rfl, b9⟩; (try replace b9 := undrewX b9); have EH := Lib.hid (EH.out.later b9); have MH := Lib.hid (MH.out.later b9); have BH := Lib.hid (chainX _ BH.out b9); obtain ⟨E_0, E_1, E_2, E_3, E_4⟩ := c5 EH.out; obtain ⟨M_0, M_1⟩ := c2 MH.out; clear b9)
                    (try go_wp2_with fail)
                    refine hK.out _ _ ?_ (fun hHeld34 => ?_)
                    · (try dsimp only); go_keep
                    clear hK K
                    try simp only [Act.put, ya, yb, yc, yd, ye, yf]
                    refine tj 35 rfl ?_
                    try simp only [Act.put, ya, yb, yc, yd, ye, yf]
                    refine tj 36 rfl ?_
                    try simp only [Act.put, ya, yb, yc, yd, ye, yf]
                    refine tj 37 rfl ?_
                    try simp only [Act.put, ya, yb, yc, yd, ye, yf]
                    refine tj 38 rfl ?_
                    try simp only [Act.put, ya, yb, yc, yd, ye, yf]
                    refine tj 39 rfl ?_
                    try simp only [Act.put, ya, yb, yc, yd, ye, yf]
                    refine wpAnyH_ready (rs := [40]) (by kernel_rfl) (by simp) ?_
                    refine AllReadyH.cons rfl (fun K hK => ?_) AllReadyH.nil
                    go_simp
                    (go_at_call 68; refine (C5.out _ (by first | exact BH.out | exact BH.out.drew)).mono ?_; rintro e9 w9 ⟨rfl, b9⟩; (try replace b9 := undrewX b9); have EH := Lib.hid (EH.out.later b9); have MH := Lib.hid (MH.out.later b9); have BH := Lib.hid (chainX _ BH.out b9); obtain ⟨E_0, E_1, E_2, E_3, E_4⟩ := c5 EH.out; obtain ⟨M_0, M_1⟩ := c2 MH.out; clear b9)
                    (try go_wp2_with fail)
                    refine hK.out _ _ ?_ (fun hHeld40 => ?_)
                    · (try dsimp only); go_keep
                    clear hK K
                    try simp only [Act.put, ya, yb, yc, yd, ye, yf]
                    refine tj 41 rfl ?_
                    try simp only [Act.put, ya, yb, yc, yd, ye, yf]
                    refine tj 42 rfl ?_
                    try simp only [Act.put, ya, yb, yc, yd, ye, yf]
                    refine wpAnyH_done (by kernel_rfl) ?_ _
                    refine NoPanic.normal ?_
                    go_wp2
                    go_ret
                    exact IffB.no NO.out (chainX w LW.out (chainX (w.alloc (.cells #[.int .i64 m.epoch, .int .i64 m.seq] 35)) BF.out BH.out))
                  · skip
                    have HV : (headB m) h = true := by rw [HP]; try rfl
                    clear NOW HP
                    have H3 := Lib.hid (YES.out HV)
                    clear YES HV
                    obtain ⟨E_0, E_1, E_2, E_3, E_4⟩ := c5 EH.out
                    obtain ⟨M_0, M_1⟩ := c2 MH.out
                    go_wp2
                    refine wp_region_noPanic ?_
                    refine wp_region_held_drew (S := (fun w' => w'.cell? ⟨wr.heap.size, 0, none⟩ = some (.string h.name) ∧ w'.cell? ⟨wr.heap.size, 1, none⟩ = some (.int .i64 h.ver.epoch) ∧ w'.cell? ⟨wr.heap.size, 2, none⟩ = some (.int .i64 h.ver.seq) ∧ w'.cell? ⟨wr.heap.size, 3, none⟩ = some (.int .i64 h.size) ∧ w'.cell? ⟨wr.heap.size, 4, none⟩ = some (.int .i64 h.sum) ∧ w'.cell? ⟨w.heap.size, 0, none⟩ = some (.int .i64 m.epoch) ∧ w'.cell? ⟨w.heap.size, 1, none⟩ = some (.int .i64 m.seq))) (by kernel_rfl) ?_ (fun hHeld => ?_)
                    · go_keep
                    refine tj 0 rfl ?_
                    try simp only [Act.put, ya, yb, yc, yd, ye, yf]
                    refine tj 1 rfl ?_
                    try simp only [Act.put, ya, yb, yc, yd, ye, yf]
                    refine wpAnyH_ready (rs := [2]) (by kernel_rfl) (by simp) ?_
                    refine AllReadyH.cons rfl (fun K hK => ?_) AllReadyH.nil
                    go_simp
                    (go_at_call 66; refine (C0.out _ (by first | exact BH.out | exact BH.out.drew)).mono ?_; rintro e9 w9 ⟨rfl, b9⟩; (try replace b9 := undrewX b9); have EH := Lib.hid (EH.out.later b9); have MH := Lib.hid (MH.out.later b9); have BH := Lib.hid (chainX _ BH.out b9); obtain ⟨E_0, E_1, E_2, E_3, E_4⟩ := c5 EH.out; obtain ⟨M_0, M_1⟩ := c2 MH.out; clear b9)
                    (try go_wp2_with fail)
                    refine hK.out _ _ ?_ (fun hHeld2 => ?_)
                    · (try dsimp only); go_keep
                    clear hK K
                    try simp only [Act.put, ya, yb, yc, yd, ye, yf]
                    refine tj 3 rfl ?_
                    try simp only [Act.put, ya, yb, yc, yd, ye, yf]
                    refine tj 4 rfl ?_
                    try simp only [Act.put, ya, yb, yc, yd, ye, yf]
                    refine tj 5 rfl ?_
                    try simp only [Act.put, ya, yb, yc, yd, ye, yf]
                    refine tj 6 rfl ?_
                    try simp only [Act.put, ya, yb, yc, yd, ye, yf]
                    refine tj 7 rfl ?_
                    try simp only [Act.put, ya, yb, yc, yd, ye, yf]
                    refine tk 8 (v := undef) rfl (Or.inr ⟨by kernel_rfl, rfl⟩) (by assumption) ?_
                    try simp only [Act.put, ya, yb, yc, yd, ye, yf]
                    refine tk 9 (v := undef) rfl (Or.inr ⟨by kernel_rfl, rfl⟩) (by assumption) ?_
                    try simp only [Act.put, ya, yb, yc, yd, ye, yf]
                    refine tk 10 (v := undef) rfl (Or.inr ⟨by kernel_rfl, rfl⟩) (by assumption) ?_
                    try simp only [Act.put, ya, yb, yc, yd, ye, yf]
                    refine tk 11 (v := undef) rfl (Or.inr ⟨by kernel_rfl, rfl⟩) (by assumption) ?_
                    try simp only [Act.put, ya, yb, yc, yd, ye, yf]
                    refine tk 12 (v := undef) rfl (Or.inr ⟨by kernel_rfl, rfl⟩) (by assumption) ?_
                    try simp only [Act.put, ya, yb, yc, yd, ye, yf]
                    refine tk 13 (v := undef) rfl (Or.inr ⟨by kernel_rfl, rfl⟩) (by assumption) ?_
                    try simp only [Act.put, ya, yb, yc, yd, ye, yf]
                    refine tk 14 (v := undef) rfl (Or.inr ⟨by kernel_rfl, rfl⟩) (by assumption) ?_
                    try simp only [Act.put, ya, yb, yc, yd, ye, yf]
                    refine tk 15 (v := undef) rfl (Or.inr ⟨by kernel_rfl, rfl⟩) (by assumption) ?_
                    try simp only [Act.put, ya, yb, yc, yd, ye, yf]
                    refine tk 16 (v := undef) rfl (Or.inr ⟨by kernel_rfl, rfl⟩) (by assumption) ?_
                    try simp only [Act.put, ya, yb, yc, yd, ye, yf]
                    refine tj 17 rfl ?_
                    try simp only [Act.put, ya, yb, yc, yd, ye, yf]
                    refine tj 18 rfl ?_
                    try simp only [Act.put, ya, yb, yc, yd, ye, yf]
                    refine tj 19 rfl ?_
                    try simp only [Act.put, ya, yb, yc, yd, ye, yf]
                    refine tj 20 rfl ?_
                    try simp only [Act.put, ya, yb, yc, yd, ye, yf]
                    refine tj 21 rfl ?_
                    try simp only [Act.put, ya, yb, yc, yd, ye, yf]
                    refine wpAnyH_ready (rs := [22]) (by kernel_rfl) (by simp) ?_
                    refine AllReadyH.cons rfl (fun K hK => ?_) AllReadyH.nil
                    go_simp
                    (go_at_call 67; refine (C2.out _ (by first | exact BH.out | exact BH.out.drew)).mono ?_; rintro e9 w9 ⟨rfl, b9⟩; (try replace b9 := undrewX b9); have EH := Lib.hid (EH.out.later b9); have MH := Lib.hid (MH.out.later b9); have BH := Lib.hid (chainX _ BH.out b9); obtain ⟨E_0, E_1, E_2, E_3, E_4⟩ := c5 EH.out; obtain ⟨M_0, M_1⟩ := c2 MH.out; clear b9)
                    (try go_wp2_with fail)
                    refine hK.out _ _ ?_ (fun hHeld22 => ?_)
                    · (try dsimp only); go_keep
                    clear hK K
                    try simp only [Act.put, ya, yb, yc, yd, ye, yf]
                    refine tj 23 rfl ?_
                    try simp only [Act.put, ya, yb, yc, yd, ye, yf]
                    refine tj 24 rfl ?_
                    try simp only [Act.put, ya, yb, yc, yd, ye, yf]
                    refine tj 25 rfl ?_
                    try simp only [Act.put, ya, yb, yc, yd, ye, yf]
                    refine tj 26 rfl ?_
                    try simp only [Act.put, ya, yb, yc, yd, ye, yf]
                    refine tj 27 rfl ?_
                    try simp only [Act.put, ya, yb, yc, yd, ye, yf]
                    refine tj 28 rfl ?_
                    try simp only [Act.put, ya, yb, yc, yd, ye, yf]
                    refine wpAnyH_ready (rs := [29]) (by kernel_rfl) (by simp) ?_
                    refine AllReadyH.cons rfl (fun K hK => ?_) AllReadyH.nil
                    go_simp
                    (go_at_call 34; refine (C3.out _ (by first | exact BH.out | exact BH.out.drew)).mono ?_; rintro e9 w9 ⟨rfl, b9⟩; (try replace b9 := undrewX b9); have EH := Lib.hid (EH.out.later b9); have MH := Lib.hid (MH.out.later b9); have BH := Lib.hid (chainX _ BH.out b9); obtain ⟨E_0, E_1, E_2, E_3, E_4⟩ := c5 EH.out; obtain ⟨M_0, M_1⟩ := c2 MH.out; clear b9)
                    (try go_wp2_with fail)
                    refine hK.out _ _ ?_ (fun hHeld29 => ?_)
                    · (try dsimp only); go_keep
                    clear hK K
                    try simp only [Act.put, ya, yb, yc, yd, ye, yf]
                    refine tj 30 rfl ?_
                    try simp only [Act.put, ya, yb, yc, yd, ye, yf]
                    refine tj 31 rfl ?_
                    try simp only [Act.put, ya, yb, yc, yd, ye, yf]
                    refine tj 32 rfl ?_
                    try simp only [Act.put, ya, yb, yc, yd, ye, yf]
                    refine tj 33 rfl ?_
                    try simp only [Act.put, ya, yb, yc, yd, ye, yf]
                    refine wpAnyH_ready (rs := [34]) (by kernel_rfl) (by simp) ?_
                    refine AllReadyH.cons rfl (fun K hK => ?_) AllReadyH.nil
                    go_simp
                    (go_at_call 29; refine (C4.out _ (by first | exact BH.out | exact BH.out.drew)).mono ?_; rintro e9 w9 ⟨rfl, b9⟩; (try replace b9 := undrewX b9); have EH := Lib.hid (EH.out.later b9); have MH := Lib.hid (MH.out.later b9); have BH := Lib.hid (chainX _ BH.out b9); obtain ⟨E_0, E_1, E_2, E_3, E_4⟩ := c5 EH.out; obtain ⟨M_0, M_1⟩ := c2 MH.out; clear b9)
                    (try go_wp2_with fail)
                    refine hK.out _ _ ?_ (fun hHeld34 => ?_)
                    · (try dsimp only); go_keep
                    clear hK K
                    try simp only [Act.put, ya, yb, yc, yd, ye, yf]
                    refine tj 35 rfl ?_
                    try simp only [Act.put, ya, yb, yc, yd, ye, yf]
                    refine tj 36 rfl ?_
                    try simp only [Act.put, ya, yb, yc, yd, ye, yf]
                    refine tj 37 rfl ?_
                    try simp only [Act.put, ya, yb, yc, yd, ye, yf]
                    refine tj 38 rfl ?_
                    try simp only [Act.put, ya, yb, yc, yd, ye, yf]
                    refine tj 39 rfl ?_
                    try simp only [Act.put, ya, yb, yc, yd, ye, yf]
                    refine wpAnyH_ready (rs := [40]) (by kernel_rfl) (by simp) ?_
                    refine AllReadyH.cons rfl (fun K hK => ?_) AllReadyH.nil
                    go_simp
                    (go_at_call 68; refine (C5.out _ (by first | exact BH.out | exact BH.out.drew)).mono ?_; rintro e9 w9 ⟨rfl, b9⟩; (try replace b9 := undrewX b9); have EH := Lib.hid (EH.out.later b9); have MH := Lib.hid (MH.out.later b9); have BH := Lib.hid (chainX _ BH.out b9); obtain ⟨E_0, E_1, E_2, E_3, E_4⟩ := c5 EH.out; obtain ⟨M_0, M_1⟩ := c2 MH.out; clear b9)
                    (try go_wp2_with fail)
                    refine hK.out _ _ ?_ (fun hHeld40 => ?_)
                    · (try dsimp only); go_keep
                    clear hK K
                    try simp only [Act.put, ya, yb, yc, yd, ye, yf]
                    refine tj 41 rfl ?_
                    try simp only [Act.put, ya, yb, yc, yd, ye, yf]
                    refine tj 42 rfl ?_
                    try simp only [Act.put, ya, yb, yc, yd, ye, yf]
                    refine wpAnyH_done (by kernel_rfl) ?_ _
                    refine NoPanic.normal ?_
                    go_wp2
                    have BZ := Lib.hid (chainX (w.alloc (.cells #[.int .i64 m.epoch, .int .i64 m.seq] 35)) BF.out BH.out)
                    go_roundw
                    case rel => exact ⟨0 + 1, by omega, by omega, by go_num, H5.out, H3.out, BZ.out⟩
                    case measure => simp [intOf]; omega
              · skip
                have NO := Lib.hid (NOW.out (by rw [HP]; try simp))
                clear NOW YES HP
                (try clear NOP)
                (try clear H4)
                (try clear H5)
                obtain ⟨E_0, E_1, E_2, E_3, E_4⟩ := c5 EH.out
                obtain ⟨M_0, M_1⟩ := c2 MH.out
                go_wp2
                refine wp_region_noPanic ?_
                refine wp_region_held_drew (S := (fun w' => w'.cell? ⟨wr.heap.size, 0, none⟩ = some (.string h.name) ∧ w'.cell? ⟨wr.heap.size, 1, none⟩ = some (.int .i64 h.ver.epoch) ∧ w'.cell? ⟨wr.heap.size, 2, none⟩ = some (.int .i64 h.ver.seq) ∧ w'.cell? ⟨wr.heap.size, 3, none⟩ = some (.int .i64 h.size) ∧ w'.cell? ⟨wr.heap.size, 4, none⟩ = some (.int .i64 h.sum) ∧ w'.cell? ⟨w.heap.size, 0, none⟩ = some (.int .i64 m.epoch) ∧ w'.cell? ⟨w.heap.size, 1, none⟩ = some (.int .i64 m.seq))) (by kernel_rfl) ?_ (fun hHeld => ?_)
                · go_keep
                refine tj 0 rfl ?_
                try simp only [Act.put, ya, yb, yc, yd, ye, yf]
                refine tj 1 rfl ?_
                try simp only [Act.put, ya, yb, yc, yd, ye, yf]
                refine wpAnyH_ready (rs := [2]) (by kernel_rfl) (by simp) ?_
                refine AllReadyH.cons rfl (fun K hK => ?_) AllReadyH.nil
                go_simp
                (go_at_call 66; refine (C0.out _ (by first | exact BH.out | exact BH.out.drew)).mono ?_; rintro e9 w9 ⟨rfl, b9⟩; (try replace b9 := undrewX b9); have EH := Lib.hid (EH.out.later b9); have MH := Lib.hid (MH.out.later b9); have BH := Lib.hid (chainX _ BH.out b9); obtain ⟨E_0, E_1, E_2, E_3, E_4⟩ := c5 EH.out; obtain ⟨M_0, M_1⟩ := c2 MH.out; clear b9)
                (try go_wp2_with fail)
                refine hK.out _ _ ?_ (fun hHeld2 => ?_)
                · (try dsimp only); go_keep
                clear hK K
                try simp only [Act.put, ya, yb, yc, yd, ye, yf]
                refine tj 3 rfl ?_
                try simp only [Act.put, ya, yb, yc, yd, ye, yf]
                refine tj 4 rfl ?_
                try simp only [Act.put, ya, yb, yc, yd, ye, yf]
                refine tj 5 rfl ?_
                try simp only [Act.put, ya, yb, yc, yd, ye, yf]
                refine tj 6 rfl ?_
                try simp only [Act.put, ya, yb, yc, yd, ye, yf]
                refine tj 7 rfl ?_
                try simp only [Act.put, ya, yb, yc, yd, ye, yf]
                refine tk 8 (v := undef) rfl (Or.inr ⟨by kernel_rfl, rfl⟩) (by assumption) ?_
                try simp only [Act.put, ya, yb, yc, yd, ye, yf]
                refine tk 9 (v := undef) rfl (Or.inr ⟨by kernel_rfl, rfl⟩) (by assumption) ?_
                try simp only [Act.put, ya, yb, yc, yd, ye, yf]
                refine tk 10 (v := undef) rfl (Or.inr ⟨by kernel_rfl, rfl⟩) (by assumption) ?_
                try simp only [Act.put, ya, yb, yc, yd, ye, yf]
                refine tk 11 (v := undef) rfl (Or.inr ⟨by kernel_rfl, rfl⟩) (by assumption) ?_
                try simp only [Act.put, ya, yb, yc, yd, ye, yf]
                refine tk 12 (v := undef) rfl (Or.inr ⟨by kernel_rfl, rfl⟩) (by assumption) ?_
                try simp only [Act.put, ya, yb, yc, yd, ye, yf]
                refine tk 13 (v := undef) rfl (Or.inr ⟨by kernel_rfl, rfl⟩) (by assumption) ?_
                try simp only [Act.put, ya, yb, yc, yd, ye, yf]
                refine tk 14 (v := undef) rfl (Or.inr ⟨by kernel_rfl, rfl⟩) (by assumption) ?_
                try simp only [Act.put, ya, yb, yc, yd, ye, yf]
                refine tk 15 (v := undef) rfl (Or.inr ⟨by kernel_rfl, rfl⟩) (by assumption) ?_
                try simp only [Act.put, ya, yb, yc, yd, ye, yf]
                refine tk 16 (v := undef) rfl (Or.inr ⟨by kernel_rfl, rfl⟩) (by assumption) ?_
                try simp only [Act.put, ya, yb, yc, yd, ye, yf]
                refine tj 17 rfl ?_
                try simp only [Act.put, ya, yb, yc, yd, ye, yf]
                refine tj 18 rfl ?_
                try simp only [Act.put, ya, yb, yc, yd, ye, yf]
                refine tj 19 rfl ?_
                try simp only [Act.put, ya, yb, yc, yd, ye, yf]
                refine tj 20 rfl ?_
                try simp only [Act.put, ya, yb, yc, yd, ye, yf]
                refine tj 21 rfl ?_
                try simp only [Act.put, ya, yb, yc, yd, ye, yf]
                refine wpAnyH_ready (rs := [22]) (by kernel_rfl) (by simp) ?_
                refine AllReadyH.cons rfl (fun K hK => ?_) AllReadyH.nil
                go_simp
                (go_at_call 67; refine (C2.out _ (by first | exact BH.out | exact BH.out.drew)).mono ?_; rintro e9 w9 ⟨rfl, b9⟩; (try replace b9 := undrewX b9); have EH := Lib.hid (EH.out.later b9); have MH := Lib.hid (MH.out.later b9); have BH := Lib.hid (chainX _ BH.out b9); obtain ⟨E_0, E_1, E_2, E_3, E_4⟩ := c5 EH.out; obtain ⟨M_0, M_1⟩ := c2 MH.out; clear b9)
                (try go_wp2_with fail)
                refine hK.out _ _ ?_ (fun hHeld22 => ?_)
                · (try dsimp only); go_keep
                clear hK K
                try simp only [Act.put, ya, yb, yc, yd, ye, yf]
                refine tj 23 rfl ?_
                try simp only [Act.put, ya, yb, yc, yd, ye, yf]
                refine tj 24 rfl ?_
                try simp only [Act.put, ya, yb, yc, yd, ye, yf]
                refine tj 25 rfl ?_
                try simp only [Act.put, ya, yb, yc, yd, ye, yf]
                refine tj 26 rfl ?_
                try simp only [Act.put, ya, yb, yc, yd, ye, yf]
                refine tj 27 rfl ?_
                try simp only [Act.put, ya, yb, yc, yd, ye, yf]
                refine tj 28 rfl ?_
                try simp only [Act.put, ya, yb, yc, yd, ye, yf]
                refine wpAnyH_ready (rs := [29]) (by kernel_rfl) (by simp) ?_
                refine AllReadyH.cons rfl (fun K hK => ?_) AllReadyH.nil
                go_simp
                (go_at_call 34; refine (C3.out _ (by first | exact BH.out | exact BH.out.drew)).mono ?_; rintro e9 w9 ⟨rfl, b9⟩; (try replace b9 := undrewX b9); have EH := Lib.hid (EH.out.later b9); have MH := Lib.hid (MH.out.later b9); have BH := Lib.hid (chainX _ BH.out b9); obtain ⟨E_0, E_1, E_2, E_3, E_4⟩ := c5 EH.out; obtain ⟨M_0, M_1⟩ := c2 MH.out; clear b9)
                (try go_wp2_with fail)
                refine hK.out _ _ ?_ (fun hHeld29 => ?_)
                · (try dsimp only); go_keep
                clear hK K
                try simp only [Act.put, ya, yb, yc, yd, ye, yf]
                refine tj 30 rfl ?_
                try simp only [Act.put, ya, yb, yc, yd, ye, yf]
                refine tj 31 rfl ?_
                try simp only [Act.put, ya, yb, yc, yd, ye, yf]
                refine tk 32 (v := undef) rfl (Or.inr ⟨by kernel_rfl, rfl⟩) (by assumption) ?_
                try simp only [Act.put, ya, yb, yc, yd, ye, yf]
                refine tk 33 (v := undef) rfl (Or.inr ⟨by kernel_rfl, rfl⟩) (by assumption) ?_
                try simp only [Act.put, ya, yb, yc, yd, ye, yf]
                refine tk 34 (v := undef) rfl (Or.inr ⟨by kernel_rfl, rfl⟩) (by assumption) ?_
                try simp only [Act.put, ya, yb, yc, yd, ye, yf]
                refine tk 35 (v := undef) rfl (Or.inr ⟨by kernel_rfl, rfl⟩) (by assumption) ?_
                try simp only [Act.put, ya, yb, yc, yd, ye, yf]
                refine tj 36 rfl ?_
                try simp only [Act.put, ya, yb, yc, yd, ye, yf]
                refine tj 37 rfl ?_
                try simp only [Act.put, ya, yb, yc, yd, ye, yf]
                refine tk 38 (v := undef) rfl (Or.inr ⟨by kernel_rfl, rfl⟩) (by assumption) ?_
                try simp only [Act.put, ya, yb, yc, yd, ye, yf]
                refine tk 39 (v := undef) rfl (Or.inr ⟨by kernel_rfl, rfl⟩) (by assumption) ?_
                try simp only [Act.put, ya, yb, yc, yd, ye, yf]
                refine tk 40 (v := undef) rfl (Or.inr ⟨by kernel_rfl, rfl⟩) (by assumption) ?_
                try simp only [Act.put, ya, yb, yc, yd, ye, yf]
                refine tk 41 (v := undef) rfl (Or.inr ⟨by kernel_rfl, rfl⟩) (by assumption) ?_
                try simp only [Act.put, ya, yb, yc, yd, ye, yf]
                refine tj 42 rfl ?_
                try simp only [Act.put, ya, yb, yc, yd, ye, yf]
                refine wpAnyH_done (by kernel_rfl) ?_ _
                refine NoPanic.normal ?_
                go_wp2
                go_ret
                exact IffB.no NO.out (chainX w LW.out (chainX (w.alloc (.cells #[.int .i64 m.epoch, .int .i64 m.seq] 35)) BF.out BH.out))
        · obtain ⟨j, rfl⟩ : ∃ j, k = j + 1 := ⟨k - 1, by omega⟩
          obtain ⟨x, hpx⟩ := GET.out j (by omega)
          obtain ⟨b', off', cs', e', -, -, hr2, hcc2⟩ := (RH.out.below hw).at' hpx
          rw [ea] at e'
          obtain ⟨rfl, rfl⟩ : b = b' ∧ off = off' := by simpa using e'
          obtain ⟨rfl, f1_0, f1_1, f1_2, f1_3, f1_4⟩ := shape_Head hr2
          have PC0 := Lib.hid (fun w' (q : Below (wr.alloc (.cells #[.string h.name, .int .i64 h.ver.epoch, .int .i64 h.ver.seq, .int .i64 h.size, .int .i64 h.sum] 107)).heap.size (wr.alloc (.cells #[.string h.name, .int .i64 h.ver.epoch, .int .i64 h.ver.seq, .int .i64 h.size, .int .i64 h.sum] 107)) w') => (q.cell (p := ⟨b, off + j * 5, none⟩) (Nat.lt_of_lt_of_le hB LE.size)).trans ((LE.cell (p := ⟨b, off + j * 5, none⟩) hB).trans (show wr.cell? ⟨b, off + j * 5, none⟩ = some (.string x.name) from hcc2 0 _ rfl)))
          have y0 : wr.cell? ⟨b, off + j * 5, none⟩ = some (.string x.name) := hcc2 0 _ rfl
          have NOP := Lib.hid (fun (hno : hLt x h = false) => (show ¬ SeqP 16 hLt (headB m) l from fun hS => by have := hS.2.1 j x h hpx HX.out; rw [hno] at this; cases this))
          have H4 := Lib.hid (fun (hok : hLt x h = true) => (show ∀ (i : Nat) (x y : DHead), i + 1 < j + 1 + 1 → l[i]? = some x → l[i + 1]? = some y → hLt x y = true from fun i x' y' hi h1 h2 => by
            by_cases e : i = j
            · subst e; rw [hpx] at h1; rw [HX.out] at h2; cases h1; cases h2; exact hok
            · exact H1.out i x' y' (by omega) h1 h2))
          have j0 : (0 : Int) ≤ (j : Int) := by omega
          have j1 : (j : Int) < (n : Int) := by omega
          have WK : IntKind.i64.wrap (((j + 1 : Nat) : Int) - 1) = (j : Int) := by rw [IntKind.wrap_i64]; omega
          have WK2 : IntKind.i64.wrap (j : Int) = (j : Int) := by rw [IntKind.wrap_i64]; omega
          have k2 : (0 : Int) ≤ (j : Int) + 1 := by omega
          have k3 : (0 : Int) < (j : Int) + 1 := by omega
          have k1 : ((j + 1 : Nat) : Int) < (n : Int) := by omega
          generalize hbq : hLt x h = bq at *
          unfold hLt sLt at hbq
          clear hcc hr hx hw LE H1 H2 hpx hr2 hcc2
          subst ea
          cases b0
          · skip
            have NO := Lib.hid (NOW.out (by rw [HP]; try simp))
            clear NOW YES HP
            (try clear NOP)
            (try clear H4)
            (try clear H5)
            obtain ⟨E_0, E_1, E_2, E_3, E_4⟩ := c5 EH.out
            obtain ⟨M_0, M_1⟩ := c2 MH.out
            have p0 := PC0.out _ BH.out
            go_wp2
            refine wp_region_noPanic ?_
            refine wp_region_held_drew (S := (fun w' => w'.cell? ⟨wr.heap.size, 0, none⟩ = some (.string h.name) ∧ w'.cell? ⟨wr.heap.size, 1, none⟩ = some (.int .i64 h.ver.epoch) ∧ w'.cell? ⟨wr.heap.size, 2, none⟩ = some (.int .i64 h.ver.seq) ∧ w'.cell? ⟨wr.heap.size, 3, none⟩ = some (.int .i64 h.size) ∧ w'.cell? ⟨wr.heap.size, 4, none⟩ = some (.int .i64 h.sum) ∧ w'.cell? ⟨w.heap.size, 0, none⟩ = some (.int .i64 m.epoch) ∧ w'.cell? ⟨w.heap.size, 1, none⟩ = some (.int .i64 m.seq) ∧ w'.cell? ⟨b, off + j * 5, none⟩ = some (.string x.name))) (by kernel_rfl) ?_ (fun hHeld => ?_)
            · go_keep
            refine tj 0 rfl ?_
            try simp only [Act.put, ya, yb, yc, yd, ye, yf]
            refine tj 1 rfl ?_
            try simp only [Act.put, ya, yb, yc, yd, ye, yf]
            refine wpAnyH_ready (rs := [2]) (by kernel_rfl) (by simp) ?_
            refine AllReadyH.cons rfl (fun K hK => ?_) AllReadyH.nil
            go_simp
            (go_at_call 66; refine (C0.out _ (by first | exact BH.out | exact BH.out.drew)).mono ?_; rintro e9 w9 ⟨rfl, b9⟩; (try replace b9 := undrewX b9); have EH := Lib.hid (EH.out.later b9); have MH := Lib.hid (MH.out.later b9); have BH := Lib.hid (chainX _ BH.out b9); obtain ⟨E_0, E_1, E_2, E_3, E_4⟩ := c5 EH.out; obtain ⟨M_0, M_1⟩ := c2 MH.out; have p0 := PC0.out _ BH.out; clear b9)
            (try go_wp2_with fail)
            refine hK.out _ _ ?_ (fun hHeld2 => ?_)
            · (try dsimp only); go_keep
            clear hK K
            try simp only [Act.put, ya, yb, yc, yd, ye, yf]
            refine tj 3 rfl ?_
            try simp only [Act.put, ya, yb, yc, yd, ye, yf]
            refine tj 4 rfl ?_
            try simp only [Act.put, ya, yb, yc, yd, ye, yf]
            refine tk 5 (v := undef) rfl (Or.inr ⟨by kernel_rfl, rfl⟩) (by assumption) ?_
            try simp only [Act.put, ya, yb, yc, yd, ye, yf]
            refine tk 6 (v := undef) rfl (Or.inr ⟨by kernel_rfl, rfl⟩) (by assumption) ?_
            try simp only [Act.put, ya, yb, yc, yd, ye, yf]
            refine tk 7 (v := undef) rfl (Or.inr ⟨by kernel_rfl, rfl⟩) (by assumption) ?_
            try simp only [Act.put, ya, yb, yc, yd, ye, yf]
            refine tk 8 (v := undef) rfl (Or.inr ⟨by kernel_rfl, rfl⟩) (by assumption) ?_
            try simp only [Act.put, ya, yb, yc, yd, ye, yf]
            refine tk 9 (v := undef) rfl (Or.inr ⟨by kernel_rfl, rfl⟩) (by assumption) ?_
            try simp only [Act.put, ya, yb, yc, yd, ye, yf]
            refine tk 10 (v := undef) rfl (Or.inr ⟨by kernel_rfl, rfl⟩) (by assumption) ?_
            try simp only [Act.put, ya, yb, yc, yd, ye, yf]
            refine tk 11 (v := undef) rfl (Or.inr ⟨by kernel_rfl, rfl⟩) (by assumption) ?_
            try simp only [Act.put, ya, yb, yc, yd, ye, yf]
            refine tk 12 (v := undef) rfl (Or.inr ⟨by kernel_rfl, rfl⟩) (by assumption) ?_
            try simp only [Act.put, ya, yb, yc, yd, ye, yf]
            refine tk 13 (v := undef) rfl (Or.inr ⟨by kernel_rfl, rfl⟩) (by assumption) ?_
            try simp only [Act.put, ya, yb, yc, yd, ye, yf]
            refine tk 14 (v := undef) rfl (Or.inr ⟨by kernel_rfl, rfl⟩) (by assumption) ?_
            try simp only [Act.put, ya, yb, yc, yd, ye, yf]
            refine tk 15 (v := undef) rfl (Or.inr ⟨by kernel_rfl, rfl⟩) (by assumption) ?_
            try simp only [Act.put, ya, yb, yc, yd, ye, yf]
            refine tk 16 (v := undef) rfl (Or.inr ⟨by kernel_rfl, rfl⟩) (by assumption) ?_
            try simp only [Act.put, ya, yb, yc, yd, ye, yf]
            refine tk 17 (v := undef) rfl (Or.inr ⟨by kernel_rfl, rfl⟩) (by assumption) ?_
            try simp only [Act.put, ya, yb, yc, yd, ye, yf]
            refine tj 18 rfl ?_
            try simp only [Act.put, ya, yb, yc, yd, ye, yf]
            refine tj 19 rfl ?_
            try simp only [Act.put, ya, yb, yc, yd, ye, yf]
            refine tk 20 (v := undef) rfl (Or.inr ⟨by kernel_rfl, rfl⟩) (by assumption) ?_
            try simp only [Act.put, ya, yb, yc, yd, ye, yf]
            refine tk 21 (v := undef) rfl (Or.inr ⟨by kernel_rfl, rfl⟩) (by assumption) ?_
            try simp only [Act.put, ya, yb, yc, yd, ye, yf]
            refine tk 22 (v := undef) rfl (Or.inr ⟨by kernel_rfl, rfl⟩) (by assumption) ?_
            try simp only [Act.put, ya, yb, yc, yd, ye, yf]
            refine tk 23 (v := undef) rfl (Or.inr ⟨by kernel_rfl, rfl⟩) (by assumption) ?_
            try simp only [Act.put, ya, yb, yc, yd, ye, yf]
            refine tj 24 rfl ?_
            try simp only [Act.put, ya, yb, yc, yd, ye, yf]
            refine tj 25 rfl ?_
            try simp only [Act.put, ya, yb, yc, yd, ye, yf]
            refine tk 26 (v := undef) rfl (Or.inr ⟨by kernel_rfl, rfl⟩) (by assumption) ?_
            try simp only [Act.put, ya, yb, yc, yd, ye, yf]
            refine tk 27 (v := undef) rfl (Or.inr ⟨by kernel_rfl, rfl⟩) (by assumption) ?_
            try simp only [Act.put, ya, yb, yc, yd, ye, yf]
            refine tk 28 (v := undef) rfl (Or.inr ⟨by kernel_rfl, rfl⟩) (by assumption) ?_
            try simp only [Act.put, ya, yb, yc, yd, ye, yf]
            refine tk 29 (v := undef) rfl (Or.inr ⟨by kernel_rfl, rfl⟩) (by assumption) ?_
            try simp only [Act.put, ya, yb, yc, yd, ye, yf]
            refine tj 30 rfl ?_
            try simp only [Act.put, ya, yb, yc, yd, ye, yf]
            refine tj 31 rfl ?_
            try simp only [Act.put, ya, yb, yc, yd, ye, yf]
            refine tk 32 (v := undef) rfl (Or.inr ⟨by kernel_rfl, rfl⟩) (by assumption) ?_
            try simp only [Act.put, ya, yb, yc, yd, ye, yf]
            refine tk 33 (v := undef) rfl (Or.inr ⟨by kernel_rfl, rfl⟩) (by assumption) ?_
            try simp only [Act.put, ya, yb, yc, yd, ye, yf]
            refine tk 34 (v := undef) rfl (Or.inr ⟨by kernel_rfl, rfl⟩) (by assumption) ?_
            try simp only [Act.put, ya, yb, yc, yd, ye, yf]
            refine tk 35 (v := undef) rfl (Or.inr ⟨by kernel_rfl, rfl⟩) (by assumption) ?_
            try simp only [Act.put, ya, yb, yc, yd, ye, yf]
            refine tj 36 rfl ?_
            try simp only [Act.put, ya, yb, yc, yd, ye, yf]
            refine tj 37 rfl ?_
            try simp only [Act.put, ya, yb, yc, yd, ye, yf]
            refine tk 38 (v := undef) rfl (Or.inr ⟨by kernel_rfl, rfl⟩) (by assumption) ?_
            try simp only [Act.put, ya, yb, yc, yd, ye, yf]
            refine tk 39 (v := undef) rfl (Or.inr ⟨by kernel_rfl, rfl⟩) (by assumption) ?_
            try simp only [Act.put, ya, yb, yc, yd, ye, yf]
            refine tk 40 (v := undef) rfl (Or.inr ⟨by kernel_rfl, rfl⟩) (by assumption) ?_
            try simp only [Act.put, ya, yb, yc, yd, ye, yf]
            refine tk 41 (v := undef) rfl (Or.inr ⟨by kernel_rfl, rfl⟩) (by assumption) ?_
            try simp only [Act.put, ya, yb, yc, yd, ye, yf]
            refine tj 42 rfl ?_
            try simp only [Act.put, ya, yb, yc, yd, ye, yf]
            refine wpAnyH_done (by kernel_rfl) ?_ _
            refine NoPanic.normal ?_
            go_wp2
            go_ret
            exact IffB.no NO.out (chainX w LW.out (chainX (w.alloc (.cells #[.int .i64 m.epoch, .int .i64 m.seq] 35)) BF.out BH.out))
          · skip
            cases bq
            · skip
              have NO := Lib.hid (NOP.out rfl)
              clear NOW YES HP
              (try clear NOP)
              (try clear H4)
              (try clear H5)
              obtain ⟨E_0, E_1, E_2, E_3, E_4⟩ := c5 EH.out
              obtain ⟨M_0, M_1⟩ := c2 MH.out
              have p0 := PC0.out _ BH.out
              go_wp2
              refine wp_region_noPanic ?_
              refine wp_region_held_drew (S := (fun w' => w'.cell? ⟨wr.heap.size, 0, none⟩ = some (.string h.name) ∧ w'.cell? ⟨wr.heap.size, 1, none⟩ = some (.int .i64 h.ver.epoch) ∧ w'.cell? ⟨wr.heap.size, 2, none⟩ = some (.int .i64 h.ver.seq) ∧ w'.cell? ⟨wr.heap.size, 3, none⟩ = some (.int .i64 h.size) ∧ w'.cell? ⟨wr.heap.size, 4, none⟩ = some (.int .i64 h.sum) ∧ w'.cell? ⟨w.heap.size, 0, none⟩ = some (.int .i64 m.epoch) ∧ w'.cell? ⟨w.heap.size, 1, none⟩ = some (.int .i64 m.seq) ∧ w'.cell? ⟨b, off + j * 5, none⟩ = some (.string x.name))) (by kernel_rfl) ?_ (fun hHeld => ?_)
              · go_keep
              refine tj 0 rfl ?_
              try simp only [Act.put, ya, yb, yc, yd, ye, yf]
              refine tj 1 rfl ?_
              try simp only [Act.put, ya, yb, yc, yd, ye, yf]
              refine wpAnyH_ready (rs := [2]) (by kernel_rfl) (by simp) ?_
              refine AllReadyH.cons rfl (fun K hK => ?_) AllReadyH.nil
              go_simp
              (go_at_call 66; refine (C0.out _ (by first | exact BH.out | exact BH.out.drew)).mono ?_; rintro e9 w9 ⟨rfl, b9⟩; (try replace b9 := undrewX b9); have EH := Lib.hid (EH.out.later b9); have MH := Lib.hid (MH.out.later b9); have BH := Lib.hid (chainX _ BH.out b9); obtain ⟨E_0, E_1, E_2, E_3, E_4⟩ := c5 EH.out; obtain ⟨M_0, M_1⟩ := c2 MH.out; have p0 := PC0.out _ BH.out; clear b9)
              (try go_wp2_with fail)
              refine hK.out _ _ ?_ (fun hHeld2 => ?_)
              · (try dsimp only); go_keep
              clear hK K
              try simp only [Act.put, ya, yb, yc, yd, ye, yf]
              refine tj 3 rfl ?_
              try simp only [Act.put, ya, yb, yc, yd, ye, yf]
              refine tj 4 rfl ?_
              try simp only [Act.put, ya, yb, yc, yd, ye, yf]
              refine tj 5 rfl ?_
              try simp only [Act.put, ya, yb, yc, yd, ye, yf]
              refine tj 6 rfl ?_
              try simp only [Act.put, ya, yb, yc, yd, ye, yf]
              refine tj 7 rfl ?_
              try simp only [Act.put, ya, yb, yc, yd, ye, yf]
              refine tj 8 rfl ?_
              try simp only [Act.put, ya, yb, yc, yd, ye, yf]
              refine tj 9 rfl ?_
              try simp only [Act.put, ya, yb, yc, yd, ye, yf]
              refine tj 10 rfl ?_
              try simp only [Act.put, ya, yb, yc, yd, ye, yf]
              refine tj 11 rfl ?_
              try simp only [Act.put, ya, yb, yc, yd, ye, yf]
              refine tj 12 rfl ?_
              try simp only [Act.put, ya, yb, yc, yd, ye, yf]
              refine tj 13 rfl ?_
              try simp only [Act.put, ya, yb, yc, yd, ye, yf]
              refine tj 14 rfl ?_
              try simp only [Act.put, ya, yb, yc, yd, ye, yf]
              refine tj 15 rfl ?_
              try simp only [Act.put, ya, yb, yc, yd, ye, yf]
              refine tj 16 rfl ?_
              try simp only [Act.put, ya, yb, yc, yd, ye, yf]
              refine tj 17 rfl ?_
              try simp only [Act.put, ya, yb, yc, yd, ye, yf]
              refine tj 18 rfl ?_
              try simp only [Act.put, ya, yb, yc, yd, ye, yf]
              refine tj 19 rfl ?_
              try simp only [Act.put, ya, yb, yc, yd, ye, yf]
              refine tk 20 (v := undef) rfl (Or.inr ⟨by kernel_rfl, rfl⟩) (by assumption) ?_
              try simp only [Act.put, ya, yb, yc, yd, ye, yf]
              refine tk 21 (v := undef) rfl (Or.inr ⟨by kernel_rfl, rfl⟩) (by assumption) ?_
              try simp only [Act.put, ya, yb, yc, yd, ye, yf]
              refine tk 22 (v := undef) rfl (Or.inr ⟨by kernel_rfl, rfl⟩) (by assumption) ?_
              try simp only [Act.put, ya, yb, yc, yd, ye, yf]
              refine tk 23 (v := undef) rfl (Or.inr ⟨by kernel_rfl, rfl⟩) (by assumption) ?_
              try simp only [Act.put, ya, yb, yc, yd, ye, yf]
              refine tj 24 rfl ?_
              try simp only [Act.put, ya, yb, yc, yd, ye, yf]
              refine tj 25 rfl ?_
              try simp only [Act.put, ya, yb, yc, yd, ye, yf]
              refine tk 26 (v := undef) rfl (Or.inr ⟨by kernel_rfl, rfl⟩) (by assumption) ?_
              try simp only [Act.put, ya, yb, yc, yd, ye, yf]
              refine tk 27 (v := undef) rfl (Or.inr ⟨by kernel_rfl, rfl⟩) (by assumption) ?_
              try simp only [Act.put, ya, yb, yc, yd, ye, yf]
              refine tk 28 (v := undef) rfl (Or.inr ⟨by kernel_rfl, rfl⟩) (by assumption) ?_
              try simp only [Act.put, ya, yb, yc, yd, ye, yf]
              refine tk 29 (v := undef) rfl (Or.inr ⟨by kernel_rfl, rfl⟩) (by assumption) ?_
              try simp only [Act.put, ya, yb, yc, yd, ye, yf]
              refine tj 30 rfl ?_
              try simp only [Act.put, ya, yb, yc, yd, ye, yf]
              refine tj 31 rfl ?_
              try simp only [Act.put, ya, yb, yc, yd, ye, yf]
              refine tk 32 (v := undef) rfl (Or.inr ⟨by kernel_rfl, rfl⟩) (by assumption) ?_
              try simp only [Act.put, ya, yb, yc, yd, ye, yf]
              refine tk 33 (v := undef) rfl (Or.inr ⟨by kernel_rfl, rfl⟩) (by assumption) ?_
              try simp only [Act.put, ya, yb, yc, yd, ye, yf]
              refine tk 34 (v := undef) rfl (Or.inr ⟨by kernel_rfl, rfl⟩) (by assumption) ?_
              try simp only [Act.put, ya, yb, yc, yd, ye, yf]
              refine tk 35 (v := undef) rfl (Or.inr ⟨by kernel_rfl, rfl⟩) (by assumption) ?_
              try simp only [Act.put, ya, yb, yc, yd, ye, yf]
              refine tj 36 rfl ?_
              try simp only [Act.put, ya, yb, yc, yd, ye, yf]
              refine tj 37 rfl ?_
              try simp only [Act.put, ya, yb, yc, yd, ye, yf]
              refine tk 38 (v := undef) rfl (Or.inr ⟨by kernel_rfl, rfl⟩) (by assumption) ?_
              try simp only [Act.put, ya, yb, yc, yd, ye, yf]
              refine tk 39 (v := undef) rfl (Or.inr ⟨by kernel_rfl, rfl⟩) (by assumption) ?_
              try simp only [Act.put, ya, yb, yc, yd, ye, yf]
              refine tk 40 (v := undef) rfl (Or.inr ⟨by kernel_rfl, rfl⟩) (by assumption) ?_
              try simp only [Act.put, ya, yb, yc, yd, ye, yf]
              refine tk 41 (v := undef) rfl (Or.inr ⟨by kernel_rfl, rfl⟩) (by assumption) ?_
              try simp only [Act.put, ya, yb, yc, yd, ye, yf]
              refine tj 42 rfl ?_
              try simp only [Act.put, ya, yb, yc, yd, ye, yf]
              refine wpAnyH_done (by kernel_rfl) ?_ _
              refine NoPanic.normal ?_
              go_wp2
              go_ret
              exact IffB.no NO.out (chainX w LW.out (chainX (w.alloc (.cells #[.int .i64 m.epoch, .int .i64 m.seq] 35)) BF.out BH.out))
            · skip
              have H5 := Lib.hid (H4.out rfl)
              clear NOP H4
              cases b2
              · skip
                have NO := Lib.hid (NOW.out (by rw [HP]; try simp))
                clear NOW YES HP
                (try clear NOP)
                (try clear H4)
                (try clear H5)
                obtain ⟨E_0, E_1, E_2, E_3, E_4⟩ := c5 EH.out
                obtain ⟨M_0, M_1⟩ := c2 MH.out
                have p0 := PC0.out _ BH.out
                go_wp2
                refine wp_region_noPanic ?_
                refine wp_region_held_drew (S := (fun w' => w'.cell? ⟨wr.heap.size, 0, none⟩ = some (.string h.name) ∧ w'.cell? ⟨wr.heap.size, 1, none⟩ = some (.int .i64 h.ver.epoch) ∧ w'.cell? ⟨wr.heap.size, 2, none⟩ = some (.int .i64 h.ver.seq) ∧ w'.cell? ⟨wr.heap.size, 3, none⟩ = some (.int .i64 h.size) ∧ w'.cell? ⟨wr.heap.size, 4, none⟩ = some (.int .i64 h.sum) ∧ w'.cell? ⟨w.heap.size, 0, none⟩ = some (.int .i64 m.epoch) ∧ w'.cell? ⟨w.heap.size, 1, none⟩ = some (.int .i64 m.seq) ∧ w'.cell? ⟨b, off + j * 5, none⟩ = some (.string x.name))) (by kernel_rfl) ?_ (fun hHeld => ?_)
                · go_keep
                refine tj 0 rfl ?_
                try simp only [Act.put, ya, yb, yc, yd, ye, yf]
                refine tj 1 rfl ?_
                try simp only [Act.put, ya, yb, yc, yd, ye, yf]
                refine wpAnyH_ready (rs := [2]) (by kernel_rfl) (by simp) ?_
                refine AllReadyH.cons rfl (fun K hK => ?_) AllReadyH.nil
                go_simp
                (go_at_call 66; refine (C0.out _ (by first | exact BH.out | exact BH.out.drew)).mono ?_; rintro e9 w9 ⟨rfl, b9⟩; (try replace b9 := undrewX b9); have EH := Lib.hid (EH.out.later b9); have MH := Lib.hid (MH.out.later b9); have BH := Lib.hid (chainX _ BH.out b9); obtain ⟨E_0, E_1, E_2, E_3, E_4⟩ := c5 EH.out; obtain ⟨M_0, M_1⟩ := c2 MH.out; have p0 := PC0.out _ BH.out; clear b9)
                (try go_wp2_with fail)
                refine hK.out _ _ ?_ (fun hHeld2 => ?_)
                · (try dsimp only); go_keep
                clear hK K
                try simp only [Act.put, ya, yb, yc, yd, ye, yf]
                refine tj 3 rfl ?_
                try simp only [Act.put, ya, yb, yc, yd, ye, yf]
                refine tj 4 rfl ?_
                try simp only [Act.put, ya, yb, yc, yd, ye, yf]
                refine tj 5 rfl ?_
                try simp only [Act.put, ya, yb, yc, yd, ye, yf]
                refine tj 6 rfl ?_
                try simp only [Act.put, ya, yb, yc, yd, ye, yf]
                refine tj 7 rfl ?_
                try simp only [Act.put, ya, yb, yc, yd, ye, yf]
                refine tj 8 rfl ?_
                try simp only [Act.put, ya, yb, yc, yd, ye, yf]
                refine tj 9 rfl ?_
                try simp only [Act.put, ya, yb, yc, yd, ye, yf]
                refine tj 10 rfl ?_
                try simp only [Act.put, ya, yb, yc, yd, ye, yf]
                refine tj 11 rfl ?_
                try simp only [Act.put, ya, yb, yc, yd, ye, yf]
                refine tj 12 rfl ?_
                try simp only [Act.put, ya, yb, yc, yd, ye, yf]
                refine tj 13 rfl ?_
                try simp only [Act.put, ya, yb, yc, yd, ye, yf]
                refine tj 14 rfl ?_
                try simp only [Act.put, ya, yb, yc, yd, ye, yf]
                refine tj 15 rfl ?_
                try simp only [Act.put, ya, yb, yc, yd, ye, yf]
                refine tj 16 rfl ?_
                try simp only [Act.put, ya, yb, yc, yd, ye, yf]
                refine tj 17 rfl ?_
                try simp only [Act.put, ya, yb, yc, yd, ye, yf]
                refine tj 18 rfl ?_
                try simp only [Act.put, ya, yb, yc, yd, ye, yf]
                refine tj 19 rfl ?_
                try simp only [Act.put, ya, yb, yc, yd, ye, yf]
                refine tj 20 rfl ?_
                try simp only [Act.put, ya, yb, yc, yd, ye, yf]
                refine tj 21 rfl ?_
                try simp only [Act.put, ya, yb, yc, yd, ye, yf]
                refine wpAnyH_ready (rs := [22]) (by kernel_rfl) (by simp) ?_
                refine AllReadyH.cons rfl (fun K hK => ?_) AllReadyH.nil
                go_simp
                (go_at_call 67; refine (C2.out _ (by first | exact BH.out | exact BH.out.drew)).mono ?_; rintro e9 w9 ⟨rfl, b9⟩; (try replace b9 := undrewX b9); have EH := Lib.hid (EH.out.later b9); have MH := Lib.hid (MH.out.later b9); have BH := Lib.hid (chainX _ BH.out b9); obtain ⟨E_0, E_1, E_2, E_3, E_4⟩ := c5 EH.out; obtain ⟨M_0, M_1⟩ := c2 MH.out; have p0 := PC0.out _ BH.out; clear b9)
                (try go_wp2_with fail)
                refine hK.out _ _ ?_ (fun hHeld22 => ?_)
                · (try dsimp only); go_keep
                clear hK K
                try simp only [Act.put, ya, yb, yc, yd, ye, yf]
                refine tj 23 rfl ?_
                try simp only [Act.put, ya, yb, yc, yd, ye, yf]
                refine tj 24 rfl ?_
                try simp only [Act.put, ya, yb, yc, yd, ye, yf]
                refine tj 25 rfl ?_
                try simp only [Act.put, ya, yb, yc, yd, ye, yf]
                refine tk 26 (v := undef) rfl (Or.inr ⟨by kernel_rfl, rfl⟩) (by assumption) ?_
                try simp only [Act.put, ya, yb, yc, yd, ye, yf]
                refine tk 27 (v := undef) rfl (Or.inr ⟨by kernel_rfl, rfl⟩) (by assumption) ?_
                try simp only [Act.put, ya, yb, yc, yd, ye, yf]
                refine tk 28 (v := undef) rfl (Or.inr ⟨by kernel_rfl, rfl⟩) (by assumption) ?_
                try simp only [Act.put, ya, yb, yc, yd, ye, yf]
                refine tk 29 (v := undef) rfl (Or.inr ⟨by kernel_rfl, rfl⟩) (by assumption) ?_
                try simp only [Act.put, ya, yb, yc, yd, ye, yf]
                refine tj 30 rfl ?_
                try simp only [Act.put, ya, yb, yc, yd, ye, yf]
                refine tj 31 rfl ?_
                try simp only [Act.put, ya, yb, yc, yd, ye, yf]
                refine tk 32 (v := undef) rfl (Or.inr ⟨by kernel_rfl, rfl⟩) (by assumption) ?_
                try simp only [Act.put, ya, yb, yc, yd, ye, yf]
                refine tk 33 (v := undef) rfl (Or.inr ⟨by kernel_rfl, rfl⟩) (by assumption) ?_
                try simp only [Act.put, ya, yb, yc, yd, ye, yf]
                refine tk 34 (v := undef) rfl (Or.inr ⟨by kernel_rfl, rfl⟩) (by assumption) ?_
                try simp only [Act.put, ya, yb, yc, yd, ye, yf]
                refine tk 35 (v := undef) rfl (Or.inr ⟨by kernel_rfl, rfl⟩) (by assumption) ?_
                try simp only [Act.put, ya, yb, yc, yd, ye, yf]
                refine tj 36 rfl ?_
                try simp only [Act.put, ya, yb, yc, yd, ye, yf]
                refine tj 37 rfl ?_
                try simp only [Act.put, ya, yb, yc, yd, ye, yf]
                refine tk 38 (v := undef) rfl (Or.inr ⟨by kernel_rfl, rfl⟩) (by assumption) ?_
                try simp only [Act.put, ya, yb, yc, yd, ye, yf]
                refine tk 39 (v := undef) rfl (Or.inr ⟨by kernel_rfl, rfl⟩) (by assumption) ?_
                try simp only [Act.put, ya, yb, yc, yd, ye, yf]
                refine tk 40 (v := undef) rfl (Or.inr ⟨by kernel_rfl, rfl⟩) (by assumption) ?_
                try simp only [Act.put, ya, yb, yc, yd, ye, yf]
                refine tk 41 (v := undef) rfl (Or.inr ⟨by kernel_rfl, rfl⟩) (by assumption) ?_
                try simp only [Act.put, ya, yb, yc, yd, ye, yf]
                refine tj 42 rfl ?_
                try simp only [Act.put, ya, yb, yc, yd, ye, yf]
                refine wpAnyH_done (by kernel_rfl) ?_ _
                refine NoPanic.normal ?_
                go_wp2
                go_ret
                exact IffB.no NO.out (chainX w LW.out (chainX (w.alloc (.cells #[.int .i64 m.epoch, .int .i64 m.seq] 35)) BF.out BH.out))
              · skip
                cases b3
                · skip
                  cases b4
                  · skip
                    have NO := Lib.hid (NOW.out (by rw [HP]; try simp))
                    clear NOW YES HP
                    (try clear NOP)
                    (try clear H4)
                    (try clear H5)
                    obtain ⟨E_0, E_1, E_2, E_3, E_4⟩ := c5 EH.out
                    obtain ⟨M_0, M_1⟩ := c2 MH.out
                    have p0 := PC0.out _ BH.out
                    go_wp2
                    refine wp_region_noPanic ?_
                    refine wp_region_held_drew (S := (fun w' => w'.cell? ⟨wr.heap.size, 0, none⟩ = some (.string h.name) ∧ w'.cell? ⟨wr.heap.size, 1, none⟩ = some (.int .i64 h.ver.epoch) ∧ w'.cell? ⟨wr.heap.size, 2, none⟩ = some (.int .i64 h.ver.seq) ∧ w'.cell? ⟨wr.heap.size, 3, none⟩ = some (.int .i64 h.size) ∧ w'.cell? ⟨wr.heap.size, 4, none⟩ = some (.int .i64 h.sum) ∧ w'.cell? ⟨w.heap.size, 0, none⟩ = some (.int .i64 m.epoch) ∧ w'.cell? ⟨w.heap.size, 1, none⟩ = some (.int .i64 m.seq) ∧ w'.cell? ⟨b, off + j * 5, none⟩ = some (.string x.name))) (by kernel_rfl) ?_ (fun hHeld => ?_)
                    · go_keep
                    refine tj 0 rfl ?_
                    try simp only [Act.put, ya, yb, yc, yd, ye, yf]
                    refine tj 1 rfl ?_
                    try simp only [Act.put, ya, yb, yc, yd, ye, yf]
                    refine wpAnyH_ready (rs := [2]) (by kernel_rfl) (by simp) ?_
                    refine AllReadyH.cons rfl (fun K hK => ?_) AllReadyH.nil
                    go_simp
                    (go_at_call 66; refine (C0.out _ (by first | exact BH.out | exact BH.out.drew)).mono ?_; rintro e9 w9 ⟨rfl, b9⟩; (try replace b9 := undrewX b9); have EH := Lib.hid (EH.out.later b9); have MH := Lib.hid (MH.out.later b9); have BH := Lib.hid (chainX _ BH.out b9); obtain ⟨E_0, E_1, E_2, E_3, E_4⟩ := c5 EH.out; obtain ⟨M_0, M_1⟩ := c2 MH.out; have p0 := PC0.out _ BH.out; clear b9)
                    (try go_wp2_with fail)
                    refine hK.out _ _ ?_ (fun hHeld2 => ?_)
                    · (try dsimp only); go_keep
                    clear hK K
                    try simp only [Act.put, ya, yb, yc, yd, ye, yf]
                    refine tj 3 rfl ?_
                    try simp only [Act.put, ya, yb, yc, yd, ye, yf]
                    refine tj 4 rfl ?_
                    try simp only [Act.put, ya, yb, yc, yd, ye, yf]
                    refine tj 5 rfl ?_
                    try simp only [Act.put, ya, yb, yc, yd, ye, yf]
                    refine tj 6 rfl ?_
                    try simp only [Act.put, ya, yb, yc, yd, ye, yf]
                    refine tj 7 rfl ?_
                    try simp only [Act.put, ya, yb, yc, yd, ye, yf]
                    refine tj 8 rfl ?_
                    try simp only [Act.put, ya, yb, yc, yd, ye, yf]
                    refine tj 9 rfl ?_
                    try simp only [Act.put, ya, yb, yc, yd, ye, yf]
                    refine tj 10 rfl ?_
                    try simp only [Act.put, ya, yb, yc, yd, ye, yf]
                    refine tj 11 rfl ?_
                    try simp only [Act.put, ya, yb, yc, yd, ye, yf]
                    refine tj 12 rfl ?_
                    try simp only [Act.put, ya, yb, yc, yd, ye, yf]
                    refine tj 13 rfl ?_
                    try simp only [Act.put, ya, yb, yc, yd, ye, yf]
                    refine tj 14 rfl ?_
                    try simp only [Act.put, ya, yb, yc, yd, ye, yf]
                    refine tj 15 rfl ?_
                    try simp only [Act.put, ya, yb, yc, yd, ye, yf]
                    refine tj 16 rfl ?_
                    try simp only [Act.put, ya, yb, yc, yd, ye, yf]
                    refine tj 17 rfl ?_
                    try simp only [Act.put, ya, yb, yc, yd, ye, yf]
                    refine tj 18 rfl ?_
                    try simp only [Act.put, ya, yb, yc, yd, ye, yf]
                    refine tj 19 rfl ?_
                    try simp only [Act.put, ya, yb, yc, yd, ye, yf]
                    refine tj 20 rfl ?_
                    try simp only [Act.put, ya, yb, yc, yd, ye, yf]
                    refine tj 21 rfl ?_
                    try simp only [Act.put, ya, yb, yc, yd, ye, yf]
                    refine wpAnyH_ready (rs := [22]) (by kernel_rfl) (by simp) ?_
                    refine AllReadyH.cons rfl (fun K hK => ?_) AllReadyH.nil
                    go_simp
                    (go_at_call 67; refine (C2.out _ (by first | exact BH.out | exact BH.out.drew)).mono ?_; rintro e9 w9 ⟨rfl, b9⟩; (try replace b9 := undrewX b9); have EH := Lib.hid (EH.out.later b9); have MH := Lib.hid (MH.out.later b9); have BH := Lib.hid (chainX _ BH.out b9); obtain ⟨E_0, E_1, E_2, E_3, E_4⟩ := c5 EH.out; obtain ⟨M_0, M_1⟩ := c2 MH.out; have p0 := PC0.out _ BH.out; clear b9)
                    (try go_wp2_with fail)
                    refine hK.out _ _ ?_ (fun hHeld22 => ?_)
                    · (try dsimp only); go_keep
                    clear hK K
                    try simp only [Act.put, ya, yb, yc, yd, ye, yf]
                    refine tj 23 rfl ?_
                    try simp only [Act.put, ya, yb, yc, yd, ye, yf]
                    refine tj 24 rfl ?_
                    try simp only [Act.put, ya, yb, yc, yd, ye, yf]
                    refine tj 25 rfl ?_
                    try simp only [Act.put, ya, yb, yc, yd, ye, yf]
                    refine tj 26 rfl ?_
                    try simp only [Act.put, ya, yb, yc, yd, ye, yf]
                    refine tj 27 rfl ?_
                    try simp only [Act.put, ya, yb, yc, yd, ye, yf]
                    refine tj 28 rfl ?_
                    try simp only [Act.put, ya, yb, yc, yd, ye, yf]
                    refine wpAnyH_ready (rs := [29]) (by kernel_rfl) (by simp) ?_
                    refine AllReadyH.cons rfl (fun K hK => ?_) AllReadyH.nil
                    go_simp
                    (go_at_call 34; refine (C3.out _ (by first | exact BH.out | exact BH.out.drew)).mono ?_; rintro e9 w9 ⟨rfl, b9⟩; (try replace b9 := undrewX b9); have EH := Lib.hid (EH.out.later b9); have MH := Lib.hid (MH.out.later b9); have BH := Lib.hid (chainX _ BH.out b9); obtain ⟨E_0, E_1, E_2, E_3, E_4⟩ := c5 EH.out; obtain ⟨M_0, M_1⟩ := c2 MH.out; have p0 := PC0.out _ BH.out; clear b9)
                    (try go_wp2_with fail)
                    refine hK.out _ _ ?_ (fun hHeld29 => ?_)
                    · (try dsimp only); go_keep
                    clear hK K
                    try simp only [Act.put, ya, yb, yc, yd, ye, yf]
                    refine tj 30 rfl ?_
                    try simp only [Act.put, ya, yb, yc, yd, ye, yf]
                    refine tj 31 rfl ?_
                    try simp only [Act.put, ya, yb, yc, yd, ye, yf]
                    refine tj 32 rfl ?_
                    try simp only [Act.put, ya, yb, yc, yd, ye, yf]
                    refine tj 33 rfl ?_
                    try simp only [Act.put, ya, yb, yc, yd, ye, yf]
                    refine wpAnyH_ready (rs := [34]) (by kernel_rfl) (by simp) ?_
                    refine AllReadyH.cons rfl (fun K hK => ?_) AllReadyH.nil
                    go_simp
                    (go_at_call 29; refine (C4.out _ (by first | exact BH.out | exact BH.out.drew)).mono ?_; rintro e9 w9 ⟨rfl, b9⟩; (try replace b9 := undrewX b9); have EH := Lib.hid (EH.out.later b9); have MH := Lib.hid (MH.out.later b9); have BH := Lib.hid (chainX _ BH.out b9); obtain ⟨E_0, E_1, E_2, E_3, E_4⟩ := c5 EH.out; obtain ⟨M_0, M_1⟩ := c2 MH.out; have p0 := PC0.out _ BH.out; clear b9)
                    (try go_wp2_with fail)
                    refine hK.out _ _ ?_ (fun hHeld34 => ?_)
                    · (try dsimp only); go_keep
                    clear hK K
                    try simp only [Act.put, ya, yb, yc, yd, ye, yf]
                    refine tj 35 rfl ?_
                    try simp only [Act.put, ya, yb, yc, yd, ye, yf]
                    refine tj 36 rfl ?_
                    try simp only [Act.put, ya, yb, yc, yd, ye, yf]
                    refine tj 37 rfl ?_
                    try simp only [Act.put, ya, yb, yc, yd, ye, yf]
                    refine tk 38 (v := undef) rfl (Or.inr ⟨by kernel_rfl, rfl⟩) (by assumption) ?_
                    try simp only [Act.put, ya, yb, yc, yd, ye, yf]
                    refine tk 39 (v := undef) rfl (Or.inr ⟨by kernel_rfl, rfl⟩) (by assumption) ?_
                    try simp only [Act.put, ya, yb, yc, yd, ye, yf]
                    refine tk 40 (v := undef) rfl (Or.inr ⟨by kernel_rfl, rfl⟩) (by assumption) ?_
                    try simp only [Act.put, ya, yb, yc, yd, ye, yf]
                    refine tk 41 (v := undef) rfl (Or.inr ⟨by kernel_rfl, rfl⟩) (by assumption) ?_
                    try simp only [Act.put, ya, yb, yc, yd, ye, yf]
                    refine tj 42 rfl ?_
                    try simp only [Act.put, ya, yb, yc, yd, ye, yf]
                    refine wpAnyH_done (by kernel_rfl) ?_ _
                    refine NoPanic.normal ?_
                    go_wp2
                    go_ret
                    exact IffB.no NO.out (chainX w LW.out (chainX (w.alloc (.cells #[.int .i64 m.epoch, .int .i64 m.seq] 35)) BF.out BH.out))
                  · skip
                    cases b5
                    · skip
                      have NO := Lib.hid (NOW.out (by rw [HP]; try simp))
                      clear NOW YES HP
                      (try clear NOP)
                      (try clear H4)
                      (try clear H5)
                      obtain ⟨E_0, E_1, E_2, E_3, E_4⟩ := c5 EH.out
                      obtain ⟨M_0, M_1⟩ := c2 MH.out
                      have p0 := PC0.out _ BH.out
                      go_wp2
                      refine wp_region_noPanic ?_
                      refine wp_region_held_drew (S := (fun w' => w'.cell? ⟨wr.heap.size, 0, none⟩ = some (.string h.name) ∧ w'.cell? ⟨wr.heap.size, 1, none⟩ = some (.int .i64 h.ver.epoch) ∧ w'.cell? ⟨wr.heap.size, 2, none⟩ = some (.int .i64 h.ver.seq) ∧ w'.cell? ⟨wr.heap.size, 3, none⟩ = some (.int .i64 h.size) ∧ w'.cell? ⟨wr.heap.size, 4, none⟩ = some (.int .i64 h.sum) ∧ w'.cell? ⟨w.heap.size, 0, none⟩ = some (.int .i64 m.epoch) ∧ w'.cell? ⟨w.heap.size, 1, none⟩ = some (.int .i64 m.seq) ∧ w'.cell? ⟨b, off + j * 5, none⟩ = some (.string x.name))) (by kernel_rfl) ?_ (fun hHeld => ?_)
                      · go_keep
                      refine tj 0 rfl ?_
                      try simp only [Act.put, ya, yb, yc, yd, ye, yf]
                      refine tj 1 rfl ?_
                      try simp only [Act.put, ya, yb, yc, yd, ye, yf]
                      refine wpAnyH_ready (rs := [2]) (by kernel_rfl) (by simp) ?_
                      refine AllReadyH.cons rfl (fun K hK => ?_) AllReadyH.nil
                      go_simp
                      (go_at_call 66; refine (C0.out _ (by first | exact BH.out | exact BH.out.drew)).mono ?_; rintro e9 w9 ⟨rfl, b9⟩; (try replace b9 := undrewX b9); have EH := Lib.hid (EH.out.later b9); have MH := Lib.hid (MH.out.later b9); have BH := Lib.hid (chainX _ BH.out b9); obtain ⟨E_0, E_1, E_2, E_3, E_4⟩ := c5 EH.out; obtain ⟨M_0, M_1⟩ := c2 MH.out; have p0 := PC0.out _ BH.out; clear b9)
                      (try go_wp2_with fail)
                      refine hK.out _ _ ?_ (fun hHeld2 => ?_)
                      · (try dsimp only); go_keep
                      clear hK K
                      try simp only [Act.put, ya, yb, yc, yd, ye, yf]
                      refine tj 3 rfl ?_
                      try simp only [Act.put, ya, yb, yc, yd, ye, yf]
                      refine tj 4 rfl ?_
                      try simp only [Act.put, ya, yb, yc, yd, ye, yf]
                      refine tj 5 rfl ?_
                      try simp only [Act.put, ya, yb, yc, yd, ye, yf]
                      refine tj 6 rfl ?_
                      try simp only [Act.put, ya, yb, yc, yd, ye, yf]
                      refine tj 7 rfl ?_
                      try simp only [Act.put, ya, yb, yc, yd, ye, yf]
                      refine tj 8 rfl ?_
                      try simp only [Act.put, ya, yb, yc, yd, ye, yf]
                      refine tj 9 rfl ?_
                      try simp only [Act.put, ya, yb, yc, yd, ye, yf]
                      refine tj 10 rfl ?_
                      try simp only [Act.put, ya, yb, yc, yd, ye, yf]
                      refine tj 11 rfl ?_
                      try simp only [Act.put, ya, yb, yc, yd, ye, yf]
                      refine tj 12 rfl ?_
                      try simp only [Act.put, ya, yb, yc, yd, ye, yf]
                      refine tj 13 rfl ?_
                      try simp only [Act.put, ya, yb, yc, yd, ye, yf]
                      refine tj 14 rfl ?_
                      try simp only [Act.put, ya, yb, yc, yd, ye, yf]
                      refine tj 15 rfl ?_
                      try simp only [Act.put, ya, yb, yc, yd, ye, yf]
                      refine tj 16 rfl ?_
                      try simp only [Act.put, ya, yb, yc, yd, ye, yf]
                      refine tj 17 rfl ?_
                      try simp only [Act.put, ya, yb, yc, yd, ye, yf]
                      refine tj 18 rfl ?_
                      try simp only [Act.put, ya, yb, yc, yd, ye, yf]
                      refine tj 19 rfl ?_
                      try simp only [Act.put, ya, yb, yc, yd, ye, yf]
                      refine tj 20 rfl ?_
                      try simp only [Act.put, ya, yb, yc, yd, ye, yf]
                      refine tj 21 rfl ?_
                      try simp only [Act.put, ya, yb, yc, yd, ye, yf]
                      refine wpAnyH_ready (rs := [22]) (by kernel_rfl) (by simp) ?_
                      refine AllReadyH.cons rfl (fun K hK => ?_) AllReadyH.nil
                      go_simp
                      (go_at_call 67; refine (C2.out _ (by first | exact BH.out | exact BH.out.drew)).mono ?_; rintro e9 w9 ⟨rfl, b9⟩; (try replace b9 := undrewX b9); have EH := Lib.hid (EH.out.later b9); have MH := Lib.hid (MH.out.later b9); have BH := Lib.hid (chainX _ BH.out b9); obtain ⟨E_0, E_1, E_2, E_3, E_4⟩ := c5 EH.out; obtain ⟨M_0, M_1⟩ := c2 MH.out; have p0 := PC0.out _ BH.out; clear b9)
                      (try go_wp2_with fail)
                      refine hK.out _ _ ?_ (fun hHeld22 => ?_)
                      · (try dsimp only); go_keep
                      clear hK K
                      try simp only [Act.put, ya, yb, yc, yd, ye, yf]
                      refine tj 23 rfl ?_
                      try simp only [Act.put, ya, yb, yc, yd, ye, yf]
                      refine tj 24 rfl ?_
                      try simp only [Act.put, ya, yb, yc, yd, ye, yf]
                      refine tj 25 rfl ?_
                      try simp only [Act.put, ya, yb, yc, yd, ye, yf]
                      refine tj 26 rfl ?_
                      try simp only [Act.put, ya, yb, yc, yd, ye, yf]
                      refine tj 27 rfl ?_
                      try simp only [Act.put, ya, yb, yc, yd, ye, yf]
                      refine tj 28 rfl ?_
                      try simp only [Act.put, ya, yb, yc, yd, ye, yf]
                      refine wpAnyH_ready (rs := [29]) (by kernel_rfl) (by simp) ?_
                      refine AllReadyH.cons rfl (fun K hK => ?_) AllReadyH.nil
                      go_simp
                      (go_at_call 34; refine (C3.out _ (by first | exact BH.out | exact BH.out.drew)).mono ?_; rintro e9 w9 ⟨rfl, b9⟩; (try replace b9 := undrewX b9); have EH := Lib.hid (EH.out.later b9); have MH := Lib.hid (MH.out.later b9); have BH := Lib.hid (chainX _ BH.out b9); obtain ⟨E_0, E_1, E_2, E_3, E_4⟩ := c5 EH.out; obtain ⟨M_0, M_1⟩ := c2 MH.out; have p0 := PC0.out _ BH.out; clear b9)
                      (try go_wp2_with fail)
                      refine hK.out _ _ ?_ (fun hHeld29 => ?_)
                      · (try dsimp only); go_keep
                      clear hK K
                      try simp only [Act.put, ya, yb, yc, yd, ye, yf]
                      refine tj 30 rfl ?_
                      try simp only [Act.put, ya, yb, yc, yd, ye, yf]
                      refine tj 31 rfl ?_
                      try simp only [Act.put, ya, yb, yc, yd, ye, yf]
                      refine tj 32 rfl ?_
                      try simp only [Act.put, ya, yb, yc, yd, ye, yf]
                      refine tj 33 rfl ?_
                      try simp only [Act.put, ya, yb, yc, yd, ye, yf]
                      refine wpAnyH_ready (rs := [34]) (by kernel_rfl) (by simp) ?_
                      refine AllReadyH.cons rfl (fun K hK => ?_) AllReadyH.nil
                      go_simp
                      (go_at_call 29; refine (C4.out _ (by first | exact BH.out | exact BH.out.drew)).mono ?_; rintro e9 w9 ⟨rfl, b9⟩; (try replace b9 := undrewX b9); have EH := Lib.hid (EH.out.later b9); have MH := Lib.hid (MH.out.later b9); have BH := Lib.hid (chainX _ BH.out b9); obtain ⟨E_0, E_1, E_2, E_3, E_4⟩ := c5 EH.out; obtain ⟨M_0, M_1⟩ := c2 MH.out; have p0 := PC0.out _ BH.out; clear b9)
                      (try go_wp2_with fail)
                      refine hK.out _ _ ?_ (fun hHeld34 => ?_)
                      · (try dsimp only); go_keep
                      clear hK K
                      try simp only [Act.put, ya, yb, yc, yd, ye, yf]
                      refine tj 35 rfl ?_
                      try simp only [Act.put, ya, yb, yc, yd, ye, yf]
                      refine tj 36 rfl ?_
                      try simp only [Act.put, ya, yb, yc, yd, ye, yf]
                      refine tj 37 rfl ?_
                      try simp only [Act.put, ya, yb, yc, yd, ye, yf]
                      refine tj 38 rfl ?_
                      try simp only [Act.put, ya, yb, yc, yd, ye, yf]
                      refine tj 39 rfl ?_
                      try simp only [Act.put, ya, yb, yc, yd, ye, yf]
                      refine wpAnyH_ready (rs := [40]) (by kernel_rfl) (by simp) ?_
                      refine AllReadyH.cons rfl (fun K hK => ?_) AllReadyH.nil
                      go_simp
                      (go_at_call 68; refine (C5.out _ (by first | exact BH.out | exact BH.out.drew)).mono ?_; rintro e9 w9 ⟨rfl, b9⟩; (try replace b9 := undrewX b9); have EH := Lib.hid (EH.out.later b9); have MH := Lib.hid (MH.out.later b9); have BH := Lib.hid (chainX _ BH.out b9); obtain ⟨E_0, E_1, E_2, E_3, E_4⟩ := c5 EH.out; obtain ⟨M_0, M_1⟩ := c2 MH.out; have p0 := PC0.out _ BH.out; clear b9)
                      (try go_wp2_with fail)
                      refine hK.out _ _ ?_ (fun hHeld40 => ?_)
                      · (try dsimp only); go_keep
                      clear hK K
                      try simp only [Act.put, ya, yb, yc, yd, ye, yf]
                      refine tj 41 rfl ?_
                      try simp only [Act.put, ya, yb, yc, yd, ye, yf]
                      refine tj 42 rfl ?_
                      try simp only [Act.put, ya, yb, yc, yd, ye, yf]
                      refine wpAnyH_done (by kernel_rfl) ?_ _
                      refine NoPanic.normal ?_
                      go_wp2
                      go_ret
                      exact IffB.no NO.out (chainX w LW.out (chainX (w.alloc (.cells #[.int .i64 m.epoch, .int .i64 m.seq] 35)) BF.out BH.out))
                    · skip
                      have HV : (headB m) h = true := by rw [HP]; try rfl
                      clear NOW HP
                      have H3 := Lib.hid (YES.out HV)
                      clear YES HV
                      obtain ⟨E_0, E_1, E_2, E_3, E_4⟩ := c5 EH.out
                      obtain ⟨M_0, M_1⟩ := c2 MH.out
                      have p0 := PC0.out _ BH.out
                      go_wp2
                      refine wp_region_noPanic ?_
                      refine wp_region_held_drew (S := (fun w' => w'.cell? ⟨wr.heap.size, 0, none⟩ = some (.string h.name) ∧ w'.cell? ⟨wr.heap.size, 1, none⟩ = some (.int .i64 h.ver.epoch) ∧ w'.cell? ⟨wr.heap.size, 2, none⟩ = some (.int .i64 h.ver.seq) ∧ w'.cell? ⟨wr.heap.size, 3, none⟩ = some (.int .i64 h.size) ∧ w'.cell? ⟨wr.heap.size, 4, none⟩ = some (.int .i64 h.sum) ∧ w'.cell? ⟨w.heap.size, 0, none⟩ = some (.int .i64 m.epoch) ∧ w'.cell? ⟨w.heap.size, 1, none⟩ = some (.int .i64 m.seq) ∧ w'.cell? ⟨b, off + j * 5, none⟩ = some (.string x.name))) (by kernel_rfl) ?_ (fun hHeld => ?_)
                      · go_keep
                      refine tj 0 rfl ?_
                      try simp only [Act.put, ya, yb, yc, yd, ye, yf]
                      refine tj 1 rfl ?_
                      try simp only [Act.put, ya, yb, yc, yd, ye, yf]
                      refine wpAnyH_ready (rs := [2]) (by kernel_rfl) (by simp) ?_
                      refine AllReadyH.cons rfl (fun K hK => ?_) AllReadyH.nil
                      go_simp
                      (go_at_call 66; refine (C0.out _ (by first | exact BH.out | exact BH.out.drew)).mono ?_; rintro e9 w9 ⟨rfl, b9⟩; (try replace b9 := undrewX b9); have EH := Lib.hid (EH.out.later b9); have MH := Lib.hid (MH.out.later b9); have BH := Lib.hid (chainX _ BH.out b9); obtain ⟨E_0, E_1, E_2, E_3, E_4⟩ := c5 EH.out; obtain ⟨M_0, M_1⟩ := c2 MH.out; have p0 := PC0.out _ BH.out; clear b9)
                      (try go_wp2_with fail)
                      refine hK.out _ _ ?_ (fun hHeld2 => ?_)
                      · (try dsimp only); go_keep
                      clear hK K
                      try simp only [Act.put, ya, yb, yc, yd, ye, yf]
                      refine tj 3 rfl ?_
                      try simp only [Act.put, ya, yb, yc, yd, ye, yf]
                      refine tj 4 rfl ?_
                      try simp only [Act.put, ya, yb, yc, yd, ye, yf]
                      refine tj 5 rfl ?_
                      try simp only [Act.put, ya, yb, yc, yd, ye, yf]
                      refine tj 6 rfl ?_
                      try simp only [Act.put, ya, yb, yc, yd, ye, yf]
                      refine tj 7 rfl ?_
                      try simp only [Act.put, ya, yb, yc, yd, ye, yf]
                      refine tj 8 rfl ?_
                      try simp only [Act.put, ya, yb, yc, yd, ye, yf]
                      refine tj 9 rfl ?_
                      try simp only [Act.put, ya, yb, yc, yd, ye, yf]
                      refine tj 10 rfl ?_
                      try simp only [Act.put, ya, yb, yc, yd, ye, yf]
                      refine tj 11 rfl ?_
                      try simp only [Act.put, ya, yb, yc, yd, ye, yf]
                      refine tj 12 rfl ?_
                      try simp only [Act.put, ya, yb, yc, yd, ye, yf]
                      refine tj 13 rfl ?_
                      try simp only [Act.put, ya, yb, yc, yd, ye, yf]
                      refine tj 14 rfl ?_
                      try simp only [Act.put, ya, yb, yc, yd, ye, yf]
                      refine tj 15 rfl ?_
                      try simp only [Act.put, ya, yb, yc, yd, ye, yf]
                      refine tj 16 rfl ?_
                      try simp only [Act.put, ya, yb, yc, yd, ye, yf]
                      refine tj 17 rfl ?_
                      try simp only [Act.put, ya, yb, yc, yd, ye, yf]
                      refine tj 18 rfl ?_
                      try simp only [Act.put, ya, yb, yc, yd, ye, yf]
                      refine tj 19 rfl ?_
                      try simp only [Act.put, ya, yb, yc, yd, ye, yf]
                      refine tj 20 rfl ?_
                      try simp only [Act.put, ya, yb, yc, yd, ye, yf]
                      refine tj 21 rfl ?_
                      try simp only [Act.put, ya, yb, yc, yd, ye, yf]
                      refine wpAnyH_ready (rs := [22]) (by kernel_rfl) (by simp) ?_
                      refine AllReadyH.cons rfl (fun K hK => ?_) AllReadyH.nil
                      go_simp
                      (go_at_call 67; refine (C2.out _ (by first | exact BH.out | exact BH.out.drew)).mono ?_; rintro e9 w9 ⟨rfl, b9⟩; (try replace b9 := undrewX b9); have EH := Lib.hid (EH.out.later b9); have MH := Lib.hid (MH.out.later b9); have BH := Lib.hid (chainX _ BH.out b9); obtain ⟨E_0, E_1, E_2, E_3, E_4⟩ := c5 EH.out; obtain ⟨M_0, M_1⟩ := c2 MH.out; have p0 := PC0.out _ BH.out; clear b9)
                      (try go_wp2_with fail)
                      refine hK.out _ _ ?_ (fun hHeld22 => ?_)
                      · (try dsimp only); go_keep
                      clear hK K
                      try simp only [Act.put, ya, yb, yc, yd, ye, yf]
                      refine tj 23 rfl ?_
                      try simp only [Act.put, ya, yb, yc, yd, ye, yf]
                      refine tj 24 rfl ?_
                      try simp only [Act.put, ya, yb, yc, yd, ye, yf]
                      refine tj 25 rfl ?_
                      try simp only [Act.put, ya, yb, yc, yd, ye, yf]
                      refine tj 26 rfl ?_
                      try simp only [Act.put, ya, yb, yc, yd, ye, yf]
                      refine tj 27 rfl ?_
                      try simp only [Act.put, ya, yb, yc, yd, ye, yf]
                      refine tj 28 rfl ?_
                      try simp only [Act.put, ya, yb, yc, yd, ye, yf]
                      refine wpAnyH_ready (rs := [29]) (by kernel_rfl) (by simp) ?_
                      refine AllReadyH.cons rfl (fun K hK => ?_) AllReadyH.nil
                      go_simp
                      (go_at_call 34; refine (C3.out _ (by first | exact BH.out | exact BH.out.drew)).mono ?_; rintro e9 w9 ⟨rfl, b9⟩; (try replace b9 := undrewX b9); have EH := Lib.hid (EH.out.later b9); have MH := Lib.hid (MH.out.later b9); have BH := Lib.hid (chainX _ BH.out b9); obtain ⟨E_0, E_1, E_2, E_3, E_4⟩ := c5 EH.out; obtain ⟨M_0, M_1⟩ := c2 MH.out; have p0 := PC0.out _ BH.out; clear b9)
                      (try go_wp2_with fail)
                      refine hK.out _ _ ?_ (fun hHeld29 => ?_)
                      · (try dsimp only); go_keep
                      clear hK K
                      try simp only [Act.put, ya, yb, yc, yd, ye, yf]
                      refine tj 30 rfl ?_
                      try simp only [Act.put, ya, yb, yc, yd, ye, yf]
                      refine tj 31 rfl ?_
                      try simp only [Act.put, ya, yb, yc, yd, ye, yf]
                      refine tj 32 rfl ?_
                      try simp only [Act.put, ya, yb, yc, yd, ye, yf]
                      refine tj 33 rfl ?_
                      try simp only [Act.put, ya, yb, yc, yd, ye, yf]
                      refine wpAnyH_ready (rs := [34]) (by kernel_rfl) (by simp) ?_
                      refine AllReadyH.cons rfl (fun K hK => ?_) AllReadyH.nil
                      go_simp
                      (go_at_call 29; refine (C4.out _ (by first | exact BH.out | exact BH.out.drew)).mono ?_; rintro e9 w9 ⟨rfl, b9⟩; (try replace b9 := undrewX b9); have EH := Lib.hid (EH.out.later b9); have MH := Lib.hid (MH.out.later b9); have BH := Lib.hid (chainX _ BH.out b9); obtain ⟨E_0, E_1, E_2, E_3, E_4⟩ := c5 EH.out; obtain ⟨M_0, M_1⟩ := c2 MH.out; have p0 := PC0.out _ BH.out; clear b9)
                      (try go_wp2_with fail)
                      refine hK.out _ _ ?_ (fun hHeld34 => ?_)
                      · (try dsimp only); go_keep
                      clear hK K
                      try simp only [Act.put, ya, yb, yc, yd, ye, yf]
                      refine tj 35 rfl ?_
                      try simp only [Act.put, ya, yb, yc, yd, ye, yf]
                      refine tj 36 rfl ?_
                      try simp only [Act.put, ya, yb, yc, yd, ye, yf]
                      refine tj 37 rfl ?_
                      try simp only [Act.put, ya, yb, yc, yd, ye, yf]
                      refine tj 38 rfl ?_
                      try simp only [Act.put, ya, yb, yc, yd, ye, yf]
                      refine tj 39 rfl ?_
                      try simp only [Act.put, ya, yb, yc, yd, ye, yf]
                      refine wpAnyH_ready (rs := [40]) (by kernel_rfl) (by simp) ?_
                      refine AllReadyH.cons rfl (fun K hK => ?_) AllReadyH.nil
                      go_simp
                      (go_at_call 68; refine (C5.out _ (by first | exact BH.out | exact BH.out.drew)).mono ?_; rintro e9 w9 ⟨rfl, b9⟩; (try replace b9 := undrewX b9); have EH := Lib.hid (EH.out.later b9); have MH := Lib.hid (MH.out.later b9); have BH := Lib.hid (chainX _ BH.out b9); obtain ⟨E_0, E_1, E_2, E_3, E_4⟩ := c5 EH.out; obtain ⟨M_0, M_1⟩ := c2 MH.out; have p0 := PC0.out _ BH.out; clear b9)
                      (try go_wp2_with fail)
                      refine hK.out _ _ ?_ (fun hHeld40 => ?_)
                      · (try dsimp only); go_keep
                      clear hK K
                      try simp only [Act.put, ya, yb, yc, yd, ye, yf]
                      refine tj 41 rfl ?_
                      try simp only [Act.put, ya, yb, yc, yd, ye, yf]
                      refine tj 42 rfl ?_
                      try simp only [Act.put, ya, yb, yc, yd, ye, yf]
                      refine wpAnyH_done (by kernel_rfl) ?_ _
                      refine NoPanic.normal ?_
                      go_wp2
                      have BZ := Lib.hid (chainX (w.alloc (.cells #[.int .i64 m.epoch, .int .i64 m.seq] 35)) BF.out BH.out)
                      go_roundw
                      case rel => exact ⟨j + 1 + 1, by omega, by omega, by go_num, H5.out, H3.out, BZ.out⟩
                      case measure => simp [intOf]; omega
                · skip
                  have NO := Lib.hid (NOW.out (by rw [HP]; try simp))
                  clear NOW YES HP
                  (try clear NOP)
                  (try clear H4)
                  (try clear H5)
                  obtain ⟨E_0, E_1, E_2, E_3, E_4⟩ := c5 EH.out
                  obtain ⟨M_0, M_1⟩ := c2 MH.out
                  have p0 := PC0.out _ BH.out
                  go_wp2
                  refine wp_region_noPanic ?_
                  refine wp_region_held_drew (S := (fun w' => w'.cell? ⟨wr.heap.size, 0, none⟩ = some (.string h.name) ∧ w'.cell? ⟨wr.heap.size, 1, none⟩ = some (.int .i64 h.ver.epoch) ∧ w'.cell? ⟨wr.heap.size, 2, none⟩ = some (.int .i64 h.ver.seq) ∧ w'.cell? ⟨wr.heap.size, 3, none⟩ = some (.int .i64 h.size) ∧ w'.cell? ⟨wr.heap.size, 4, none⟩ = some (.int .i64 h.sum) ∧ w'.cell? ⟨w.heap.size, 0, none⟩ = some (.int .i64 m.epoch) ∧ w'.cell? ⟨w.heap.size, 1, none⟩ = some (.int .i64 m.seq) ∧ w'.cell? ⟨b, off + j * 5, none⟩ = some (.string x.name))) (by kernel_rfl) ?_ (fun hHeld => ?_)
                  · go_keep
                  refine tj 0 rfl ?_
                  try simp only [Act.put, ya, yb, yc, yd, ye, yf]
                  refine tj 1 rfl ?_
                  try simp only [Act.put, ya, yb, yc, yd, ye, yf]
                  refine wpAnyH_ready (rs := [2]) (by kernel_rfl) (by simp) ?_
                  refine AllReadyH.cons rfl (fun K hK => ?_) AllReadyH.nil
                  go_simp
                  (go_at_call 66; refine (C0.out _ (by first | exact BH.out | exact BH.out.drew)).mono ?_; rintro e9 w9 ⟨rfl, b9⟩; (try replace b9 := undrewX b9); have EH := Lib.hid (EH.out.later b9); have MH := Lib.hid (MH.out.later b9); have BH := Lib.hid (chainX _ BH.out b9); obtain ⟨E_0, E_1, E_2, E_3, E_4⟩ := c5 EH.out; obtain ⟨M_0, M_1⟩ := c2 MH.out; have p0 := PC0.out _ BH.out; clear b9)
                  (try go_wp2_with fail)
                  refine hK.out _ _ ?_ (fun hHeld2 => ?_)
                  · (try dsimp only); go_keep
                  clear hK K
                  try simp only [Act.put, ya, yb, yc, yd, ye, yf]
                  refine tj 3 rfl ?_
                  try simp only [Act.put, ya, yb, yc, yd, ye, yf]
                  refine tj 4 rfl ?_
                  try simp only [Act.put, ya, yb, yc, yd, ye, yf]
                  refine tj 5 rfl ?_
                  try simp only [Act.put, ya, yb, yc, yd, ye, yf]
                  refine tj 6 rfl ?_
                  try simp only [Act.put, ya, yb, yc, yd, ye, yf]
                  refine tj 7 rfl ?_
                  try simp only [Act.put, ya, yb, yc, yd, ye, yf]
                  refine tj 8 rfl ?_
                  try simp only [Act.put, ya, yb, yc, yd, ye, yf]
                  refine tj 9 rfl ?_
                  try simp only [Act.put, ya, yb, yc, yd, ye, yf]
                  refine tj 10 rfl ?_
                  try simp only [Act.put, ya, yb, yc, yd, ye, yf]
                  refine tj 11 rfl ?_
                  try simp only [Act.put, ya, yb, yc, yd, ye, yf]
                  refine tj 12 rfl ?_
                  try simp only [Act.put, ya, yb, yc, yd, ye, yf]
                  refine tj 13 rfl ?_
                  try simp only [Act.put, ya, yb, yc, yd, ye, yf]
                  refine tj 14 rfl ?_
                  try simp only [Act.put, ya, yb, yc, yd, ye, yf]
                  refine tj 15 rfl ?_
                  try simp only [Act.put, ya, yb, yc, yd, ye, yf]
                  refine tj 16 rfl ?_
                  try simp only [Act.put, ya, yb, yc, yd, ye, yf]
                  refine tj 17 rfl ?_
                  try simp only [Act.put, ya, yb, yc, yd, ye, yf]
                  refine tj 18 rfl ?_
                  try simp only [Act.put, ya, yb, yc, yd, ye, yf]
                  refine tj 19 rfl ?_
                  try simp only [Act.put, ya, yb, yc, yd, ye, yf]
                  refine tj 20 rfl ?_
                  try simp only [Act.put, ya, yb, yc, yd, ye, yf]
                  refine tj 21 rfl ?_
                  try simp only [Act.put, ya, yb, yc, yd, ye, yf]
                  refine wpAnyH_ready (rs := [22]) (by kernel_rfl) (by simp) ?_
                  refine AllReadyH.cons rfl (fun K hK => ?_) AllReadyH.nil
                  go_simp
                  (go_at_call 67; refine (C2.out _ (by first | exact BH.out | exact BH.out.drew)).mono ?_; rintro e9 w9 ⟨rfl, b9⟩; (try replace b9 := undrewX b9); have EH := Lib.hid (EH.out.later b9); have MH := Lib.hid (MH.out.later b9); have BH := Lib.hid (chainX _ BH.out b9); obtain ⟨E_0, E_1, E_2, E_3, E_4⟩ := c5 EH.out; obtain ⟨M_0, M_1⟩ := c2 MH.out; have p0 := PC0.out _ BH.out; clear b9)
                  (try go_wp2_with fail)
                  refine hK.out _ _ ?_ (fun hHeld22 => ?_)
                  · (try dsimp only); go_keep
                  clear hK K
                  try simp only [Act.put, ya, yb, yc, yd, ye, yf]
                  refine tj 23 rfl ?_
                  try simp only [Act.put, ya, yb, yc, yd, ye, yf]
                  refine tj 24 rfl ?_
                  try simp only [Act.put, ya, yb, yc, yd, ye, yf]
                  refine tj 25 rfl ?_
                  try simp only [Act.put, ya, yb, yc, yd, ye, yf]
                  refine tj 26 rfl ?_
                  try simp only [Act.put, ya, yb, yc, yd, ye, yf]
                  refine tj 27 rfl ?_
                  try simp only [Act.put, ya, yb, yc, yd, ye, yf]
                  refine tj 28 rfl ?_
                  try simp only [Act.put, ya, yb, yc, yd, ye, yf]
                  refine wpAnyH_ready (rs := [29]) (by kernel_rfl) (by simp) ?_
                  refine AllReadyH.cons rfl (fun K hK => ?_) AllReadyH.nil
                  go_simp
                  (go_at_call 34; refine (C3.out _ (by first | exact BH.out | exact BH.out.drew)).mono ?_; rintro e9 w9 ⟨rfl, b9⟩; (try replace b9 := undrewX b9); have EH := Lib.hid (EH.out.later b9); have MH := Lib.hid (MH.out.later b9); have BH := Lib.hid (chainX _ BH.out b9); obtain ⟨E_0, E_1, E_2, E_3, E_4⟩ := c5 EH.out; obtain ⟨M_0, M_1⟩ := c2 MH.out; have p0 := PC0.out _ BH.out; clear b9)
                  (try go_wp2_with fail)
                  refine hK.out _ _ ?_ (fun hHeld29 => ?_)
                  · (try dsimp only); go_keep
                  clear hK K
                  try simp only [Act.put, ya, yb, yc, yd, ye, yf]
                  refine tj 30 rfl ?_
                  try simp only [Act.put, ya, yb, yc, yd, ye, yf]
                  refine tj 31 rfl ?_
                  try simp only [Act.put, ya, yb, yc, yd, ye, yf]
                  refine tk 32 (v := undef) rfl (Or.inr ⟨by kernel_rfl, rfl⟩) (by assumption) ?_
                  try simp only [Act.put, ya, yb, yc, yd, ye, yf]
                  refine tk 33 (v := undef) rfl (Or.inr ⟨by kernel_rfl, rfl⟩) (by assumption) ?_
                  try simp only [Act.put, ya, yb, yc, yd, ye, yf]
                  refine tk 34 (v := undef) rfl (Or.inr ⟨by kernel_rfl, rfl⟩) (by assumption) ?_
                  try simp only [Act.put, ya, yb, yc, yd, ye, yf]
                  refine tk 35 (v := undef) rfl (Or.inr ⟨by kernel_rfl, rfl⟩) (by assumption) ?_
                  try simp only [Act.put, ya, yb, yc, yd, ye, yf]
                  refine tj 36 rfl ?_
                  try simp only [Act.put, ya, yb, yc, yd, ye, yf]
                  refine tj 37 rfl ?_
                  try simp only [Act.put, ya, yb, yc, yd, ye, yf]
                  refine tk 38 (v := undef) rfl (Or.inr ⟨by kernel_rfl, rfl⟩) (by assumption) ?_
                  try simp only [Act.put, ya, yb, yc, yd, ye, yf]
                  refine tk 39 (v := undef) rfl (Or.inr ⟨by kernel_rfl, rfl⟩) (by assumption) ?_
                  try simp only [Act.put, ya, yb, yc, yd, ye, yf]
                  refine tk 40 (v := undef) rfl (Or.inr ⟨by kernel_rfl, rfl⟩) (by assumption) ?_
                  try simp only [Act.put, ya, yb, yc, yd, ye, yf]
                  refine tk 41 (v := undef) rfl (Or.inr ⟨by kernel_rfl, rfl⟩) (by assumption) ?_
                  try simp only [Act.put, ya, yb, yc, yd, ye, yf]
                  refine tj 42 rfl ?_
                  try simp only [Act.put, ya, yb, yc, yd, ye, yf]
                  refine wpAnyH_done (by kernel_rfl) ?_ _
                  refine NoPanic.normal ?_
                  go_wp2
                  go_ret
                  exact IffB.no NO.out (chainX w LW.out (chainX (w.alloc (.cells #[.int .i64 m.epoch, .int .i64 m.seq] 35)) BF.out BH.out))
    · obtain rfl : k = n := by omega
      clear hw
      by_cases hmx : k ≤ 16
      · have YS := Lib.hid (show SeqP 16 hLt (headB m) l from ⟨by rw [HN.out]; exact hmx, fun i x y h1 h2 => H1.out i x y (LEN.out _ _ h2) h1 h2, fun i x h1 => H2.out i x (LEN.out _ _ h1) h1⟩)
        have d2 : decide ((k : Int) ≤ 16) = true := decide_eq_true (by omega)
        go_wp2
        go_ret
        exact IffB.yes YS.out BW.out
      · have NO := Lib.hid (show ¬ SeqP 16 hLt (headB m) l from fun h => hmx (by rw [← HN.out]; exact h.1))
        have d2 : decide ((k : Int) ≤ 16) = false := decide_eq_false (by omega)
        go_wp2
        go_ret
        exact IffB.no NO.out BW.out
end Go.Proofs.YtbckdfoapmjilaaGreatDoor.Rd
