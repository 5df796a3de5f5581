/-
  The choices of the first tries: the program's and the model's functions.
-/
import Derived.Test.YtmndkmkknkodhaaLawChoose
import Derived.Test.YtmndkmkknkodhaaMatRes2
namespace Go.Proofs.Ytmndkmkknkodhaa.Ch
open Go.RowKit Go.Proofs.Ytmndkmkknkodhaa.It Go.Proofs.Ytmndkmkknkodhaa.Rc Go.Proofs.Ytmndkmkknkodhaa.Gf2 Go.Proofs.Ytmndkmkknkodhaa.GfS
set_option linter.unusedVariables false

theorem chB_same (n : Nat) (f g : Nat → Int) (seed t u : Int) : chB n f g seed t = chB n f g seed u := by
  have h : ∀ k, (tsN f g seed t k).length = (tsN f g seed u k).length := by
    intro k
    induction k with
    | zero => rfl
    | succ k ih => unfold tsN; split <;> simp [ih]
  unfold chB; rw [h]
theorem chB_01 (n : Nat) (f g : Nat → Int) (seed t : Int) : chB n f g seed t = 0 ∨ chB n f g seed t = 3 := by unfold chB; split <;> simp
theorem chB_all (n : Nat) (f g : Nat → Int) (seed t : Int) (h2 : t = 0 ∨ chB n f g seed 0 = 0) : ∀ k : Nat, k < t.toNat → chB n f g seed k = 0 := by
  intro k hk
  rcases h2 with h2 | h2
  · omega
  · rw [chB_same n f g seed k 0]; exact h2
/-- The first k choices. -/
def drN (n : Nat) (f g : Nat → Int) (seed : Int) (k : Nat) : List Int := (List.range k).map fun (i : Nat) => chA n f g seed i
theorem drN_snoc (n : Nat) (f g : Nat → Int) (seed : Int) (k : Nat) : drN n f g seed (k + 1) = drN n f g seed k ++ [chA n f g seed k] := by unfold drN; rw [List.range_succ, List.map_append]; rfl
theorem drN_len (n : Nat) (f g : Nat → Int) (seed : Int) (k : Nat) : (drN n f g seed k).length = k := by simp [drN]

/-- A list of numbers of the call's own, and a code. -/
def ListRes (zs : List Int) (b : Int) (w : World) (e : Ending) (w' : World) : Prop :=
  ∃ a c, e = .returned (.tuple #[.slice a zs.length c, .int .i64 b]) ∧ OwnS w w' a zs ∧ Below w.heap.size w w'
theorem ListRes.nilr {w w' : World} {b : Int} (h : Below w.heap.size w w') : ListRes [] b w (.returned (.tuple #[.slice none 0 0, .int .i64 b])) w' := ⟨none, 0, rfl, .inl rfl, h⟩
theorem ListRes.empty {w w' : World} {b : Int} {g : Nat} (h : Below w.heap.size w w') : ListRes [] b w (.returned (.tuple #[.slice (some ⟨g, 0, none⟩) 0 0, .int .i64 b])) w' := ⟨_, 0, rfl, .inl rfl, h⟩
theorem ListRes.own {w w' : World} {a : Option Addr} {L c : Nat} {zs : List Int} {b : Int} (h : Ib w.heap.size w' (.slice a L c) zs) (hb : Below w.heap.size w w') : ListRes zs b w (.returned (.tuple #[.slice a L c, .int .i64 b])) w' := by
  obtain ⟨O, rfl⟩ := h.own (Nat.le_refl _)
  exact ⟨a, c, rfl, O, hb⟩

def drA (n : Nat) (f g : Nat → Int) (seed t : Int) : List Int := if okL n f g = true ∧ (0 ≤ t ∧ t ≤ 30) ∧ (t = 0 ∨ chB n f g seed 0 = 0) then drN n f g seed t.toNat else []
def drB (n : Nat) (f g : Nat → Int) (seed t : Int) : Int := if okL n f g = true then (if 0 ≤ t ∧ t ≤ 30 then (if t = 0 ∨ chB n f g seed 0 = 0 then 0 else 3) else 2) else 1

theorem chB_yes {n : Nat} {f g : Nat → Int} {seed t : Int} (h : chB n f g seed t = 0) : (!decide ((tsN f g seed t n).length = 0)) = true := by
  unfold chB at h
  by_cases q : (tsN f g seed t n).length = 0
  · rw [if_pos q] at h; omega
  · rw [decide_eq_false q]; rfl
theorem chB_no {n : Nat} {f g : Nat → Int} {seed t : Int} (h : chB n f g seed t = 3) : (!decide ((tsN f g seed t n).length = 0)) = false := by
  unfold chB at h
  by_cases q : (tsN f g seed t n).length = 0
  · rw [decide_eq_true q]; rfl
  · rw [if_neg q] at h; omega

set_option maxRecDepth 100000 in
set_option maxHeartbeats 1000000 in
theorem implDraws (a : Option Addr) (cap n : Nat) (f g : Nat → Int) (seed t : Int) (w : World) (hl : n ≤ 2097152) (ha : Recs w a n f g) (hwf : ∀ i, i < n → (Lit.int .i64 (f i)).wf = true) :
    Calls Try.prog 28 #[.slice a n cap, .int .i64 seed, .int .i64 t] w (ListRes (drA n f g seed t) (drB n f g seed t) w) := by
  have O := implItemsOk a cap n f g w hl ha hwf
  cases o : okL n f g
  · have E1 : drA n f g seed t = [] := by unfold drA; rw [if_neg (by rw [o]; simp)]
    have E2 : drB n f g seed t = 1 := by unfold drB; rw [if_neg (by rw [o]; simp)]
    rw [E1, E2]
    rw [o] at O
    have OH := Lib.hid O
    clear E1 E2 o ha hwf O
    go_enter Try.func28, Try.ntmps28
    go_wp2_with fail
    refine OH.out.mono ?_
    rintro e w1 ⟨rfl, b1⟩
    go_wp2
    go_ret2
    exact ListRes.nilr b1
  · have C := Lib.hid (fun w' u (b : Below w.heap.size w w') => implChoose1 a cap n f g seed u w' hl (ha.below b) (okL_all o))
    rw [o] at O
    have OH := Lib.hid O
    clear O
    by_cases h1 : 0 ≤ t ∧ t ≤ 30
    · have I1 := inB_yes h1.1 h1.2
      by_cases h2 : t = 0 ∨ chB n f g seed 0 = 0
      · have E1 : drA n f g seed t = drN n f g seed t.toNat := by unfold drA; rw [if_pos ⟨o, h1, h2⟩]
        have E2 : drB n f g seed t = 0 := by unfold drB; rw [if_pos o, if_pos h1, if_pos h2]
        rw [E1, E2]
        have HE := Lib.hid (chB_all n f g seed t h2)
        obtain ⟨m, rfl⟩ : ∃ m : Nat, t = m := ⟨t.toNat, by omega⟩
        rw [Int.toNat_natCast] at HE ⊢
        clear E1 E2 o ha hwf h2
        go_enter Try.func28, Try.ntmps28
        go_wp2_with fail
        refine OH.out.mono ?_
        rintro e w1 ⟨rfl, b1⟩
        have B1 := Lib.hid b1
        have J0 : Ib w.heap.size (w1.alloc (.cells #[] 2)) (.slice (some ⟨w1.heap.size, 0, none⟩) 0 0) (drN n f g seed 0) := World.ownsRow_made _ _ _ b1.size (by unfold maxLen; omega) (by simp)
        have J0 := Lib.hid J0
        have BB := Lib.hid (B1.out.alloc b1.size (.cells #[] 2))
        clear b1
        go_wp2_with fail
        refine (Wi.isWithin m 0 30 (by omega) _).mono ?_
        rintro e w2 ⟨rfl, rfl⟩
        go_wp2
        go_loopw [8, 20] (fun v i wr => ∃ k : Nat, k ≤ m ∧ i = .int .i64 k ∧ Ib w.heap.size wr v (drN n f g seed k) ∧ Below w.heap.size w wr) (fun _ i _ => m - (intOf i).toNat)
        case atStart => exact ⟨0, by omega, rfl, J0.out, BB.out⟩
        case round =>
          obtain ⟨k, hk, rfl, J, hw⟩ := hrel
          clear J0 BB
          by_cases hlt : k < m
          · have E3 := HE.out k hlt
            have CC := C.out wr k hw
            rw [E3] at CC
            have CC := Lib.hid CC
            have DS := Lib.hid (drN_snoc n f g seed k)
            have DL := drN_len n f g seed k
            have JH := Lib.hid J
            have HW := Lib.hid hw
            generalize chA n f g seed k = x at CC DS
            clear J hw E3
            go_wp2_with fail
            refine CC.out.mono ?_
            rintro e w2 ⟨rfl, b2⟩
            have B2 := Lib.hid (HW.out.trans (b2.mono HW.out.size))
            have J2 := JH.out.below b2
            have LE : w.heap.size ≤ w2.heap.size := B2.out.size
            have J2H := Lib.hid J2
            clear b2
            go_wp2_with (at_builtin; refine wpList_append_int rfl (.tmp 33) (.tmp 35) rfl w.heap.size u8 (drN n f g seed k) rfl x J2H.out rfl (by omega) LE ?_; intro v' w3 J3 g3)
            have B3 := Lib.hid (B2.out.trans (J2H.out.grown LE _ g3))
            have J3H := Lib.hid J3
            clear J3 g3
            go_roundw
            case rel => exact ⟨k + 1, by omega, by go_num, by rw [DS.out]; exact J3H.out, B3.out⟩
            case measure => simp [intOf]; omega
          · obtain rfl : k = m := by omega
            obtain ⟨av, lv, cv, rfl⟩ := J.shape
            have R := Lib.hid (show ListRes (drN n f g seed k) 0 w _ wr from ListRes.own J hw)
            clear J hw
            go_wp2
            go_ret2
            exact R.out
      · have E1 : drA n f g seed t = [] := by unfold drA; rw [if_neg (fun e => h2 e.2.2)]
        have E2 : drB n f g seed t = 3 := by unfold drB; rw [if_pos o, if_pos h1, if_neg h2]
        rw [E1, E2]
        have E3 : chB n f g seed 0 = 3 := (chB_01 n f g seed 0).resolve_left (fun e => h2 (.inr e))
        obtain ⟨m, rfl⟩ : ∃ m : Nat, t = m := ⟨t.toNat, by omega⟩
        have hm : 0 < m := by rcases Nat.eq_zero_or_pos m with e | e; · exact absurd (.inl (by rw [e]; rfl)) h2
                              · exact e
        clear E1 E2 o ha hwf h2
        have CC := Lib.hid (fun w' (b : Below w.heap.size w w') => C.out w' 0 b)
        rw [E3] at CC
        clear C E3
        generalize chA n f g seed 0 = x at CC
        go_enter Try.func28, Try.ntmps28
        go_wp2_with fail
        refine OH.out.mono ?_
        rintro e w1 ⟨rfl, b1⟩
        have B1 := Lib.hid b1
        have BB := Lib.hid (B1.out.alloc b1.size (.cells #[] 2))
        clear b1
        go_wp2_with fail
        refine (Wi.isWithin m 0 30 (by omega) _).mono ?_
        rintro e w2 ⟨rfl, rfl⟩
        go_wp2
        refine wp_loop_rounds 1 ?_
        rw [rounds_succ]
        go_wp2_with fail
        refine (CC.out _ BB.out).mono ?_
        rintro e w2 ⟨rfl, b2⟩
        have B2 := Lib.hid (BB.out.trans (b2.mono BB.out.size))
        clear b2
        go_wp2
        go_ret2
        exact ListRes.nilr B2.out
    · have I1 : inB t 0 30 = false := decide_eq_false h1
      have E1 : drA n f g seed t = [] := by unfold drA; rw [if_neg (fun e => h1 e.2.1)]
      have E2 : drB n f g seed t = 2 := by unfold drB; rw [if_pos o, if_neg h1]
      rw [E1, E2]
      clear E1 E2 o ha hwf C h1
      go_enter Try.func28, Try.ntmps28
      go_wp2_with fail
      refine OH.out.mono ?_
      rintro e w1 ⟨rfl, b1⟩
      have B1 := Lib.hid b1
      clear b1
      go_wp2_with fail
      refine (Wi.isWithin t 0 30 (by omega) _).mono ?_
      rintro e w2 ⟨rfl, rfl⟩
      go_wp2
      go_ret2
      exact ListRes.nilr B1.out

set_option maxRecDepth 100000 in
set_option maxHeartbeats 1000000 in
theorem specDraws (a : Option Addr) (cap n : Nat) (f g : Nat → Int) (seed t : Int) (w : World) (hl : n ≤ 2097152) (ha : Recs w a n f g) :
    Calls Try.prog 63 #[.slice a n cap, .int .i64 seed, .int .i64 t] w (ListRes (drA n f g seed t) (drB n f g seed t) w) := by
  have O := l07OK a cap n f g w hl ha
  cases o : okL n f g
  · have E1 : drA n f g seed t = [] := by unfold drA; rw [if_neg (by rw [o]; simp)]
    have E2 : drB n f g seed t = 1 := by unfold drB; rw [if_neg (by rw [o]; simp)]
    rw [E1, E2]
    rw [o] at O
    have OH := Lib.hid O
    clear E1 E2 o ha O
    go_enter Try.func63, Try.ntmps63
    go_wp2_with fail
    refine OH.out.mono ?_
    rintro e w1 ⟨rfl, b1⟩
    go_wp2
    go_ret2
    exact ListRes.empty (b1.alloc b1.size _)
  · have C := Lib.hid (fun w' u (b : Below w.heap.size w w') => l07Choose a cap n f g seed u w' hl (ha.below b) (okL_all o))
    rw [o] at O
    have OH := Lib.hid O
    clear O
    by_cases h1 : 0 ≤ t ∧ t ≤ 30
    · have I1 := inB_yes h1.1 h1.2
      by_cases h2 : t = 0 ∨ chB n f g seed 0 = 0
      · have E1 : drA n f g seed t = drN n f g seed t.toNat := by unfold drA; rw [if_pos ⟨o, h1, h2⟩]
        have E2 : drB n f g seed t = 0 := by unfold drB; rw [if_pos o, if_pos h1, if_pos h2]
        rw [E1, E2]
        have HE := Lib.hid (chB_all n f g seed t h2)
        obtain ⟨m, rfl⟩ : ∃ m : Nat, t = m := ⟨t.toNat, by omega⟩
        rw [Int.toNat_natCast] at HE ⊢
        clear E1 E2 o ha h2
        go_enter Try.func63, Try.ntmps63
        go_wp2_with fail
        refine OH.out.mono ?_
        rintro e w1 ⟨rfl, b1⟩
        have B1 := Lib.hid b1
        have J0 : Ib w.heap.size (w1.alloc (.cells #[] 2)) (.slice (some ⟨w1.heap.size, 0, none⟩) 0 0) (drN n f g seed 0) := World.ownsRow_made _ _ _ b1.size (by unfold maxLen; omega) (by simp)
        have J0 := Lib.hid J0
        have BB := Lib.hid (B1.out.alloc b1.size (.cells #[] 2))
        clear b1
        go_wp2_with fail
        refine (l00In m 0 30 _).mono ?_
        rintro e w2 ⟨rfl, rfl⟩
        go_wp2
        go_loopw [8, 9] (fun v i wr => ∃ k : Nat, k ≤ m ∧ i = .int .i64 k ∧ Ib w.heap.size wr v (drN n f g seed k) ∧ Below w.heap.size w wr) (fun _ i _ => m - (intOf i).toNat)
        case atStart => exact ⟨0, by omega, rfl, J0.out, BB.out⟩
        case round =>
          obtain ⟨k, hk, rfl, J, hw⟩ := hrel
          clear J0 BB
          by_cases hlt : k < m
          · have E3 := chB_yes (HE.out k hlt)
            have CC := C.out wr k hw
            rw [E3] at CC
            have CC := Lib.hid CC
            have DS := Lib.hid (drN_snoc n f g seed k)
            have DL := drN_len n f g seed k
            have JH := Lib.hid J
            have HW := Lib.hid hw
            generalize chA n f g seed k = x at CC DS
            clear J hw E3
            go_wp2_with fail
            refine CC.out.mono ?_
            rintro e w2 ⟨rfl, b2⟩
            have B2 := Lib.hid (HW.out.trans (b2.mono HW.out.size))
            have J2 := JH.out.below b2
            have LE : w.heap.size ≤ w2.heap.size := B2.out.size
            have J2H := Lib.hid J2
            clear b2
            go_wp2_with (at_builtin; refine wpList_append_int rfl (.tmp 36) (.tmp 38) rfl w.heap.size u8 (drN n f g seed k) rfl x J2H.out rfl (by omega) LE ?_; intro v' w3 J3 g3)
            have B3 := Lib.hid (B2.out.trans (J2H.out.grown LE _ g3))
            have J3H := Lib.hid J3
            clear J3 g3
            go_roundw
            case rel => exact ⟨k + 1, by omega, by go_num, by rw [DS.out]; exact J3H.out, B3.out⟩
            case measure => simp [intOf]; omega
          · obtain rfl : k = m := by omega
            obtain ⟨av, lv, cv, rfl⟩ := J.shape
            have R := Lib.hid (show ListRes (drN n f g seed k) 0 w _ wr from ListRes.own J hw)
            clear J hw
            go_wp2
            go_ret2
            exact R.out
      · have E1 : drA n f g seed t = [] := by unfold drA; rw [if_neg (fun e => h2 e.2.2)]
        have E2 : drB n f g seed t = 3 := by unfold drB; rw [if_pos o, if_pos h1, if_neg h2]
        rw [E1, E2]
        have E3 : chB n f g seed 0 = 3 := (chB_01 n f g seed 0).resolve_left (fun e => h2 (.inr e))
        obtain ⟨m, rfl⟩ : ∃ m : Nat, t = m := ⟨t.toNat, by omega⟩
        have hm : 0 < m := by rcases Nat.eq_zero_or_pos m with e | e; · exact absurd (.inl (by rw [e]; rfl)) h2
                              · exact e
        clear E1 E2 o ha h2
        have CC := Lib.hid (fun w' (b : Below w.heap.size w w') => C.out w' 0 b)
        rw [chB_no E3] at CC
        clear C E3
        generalize chA n f g seed 0 = x at CC
        go_enter Try.func63, Try.ntmps63
        go_wp2_with fail
        refine OH.out.mono ?_
        rintro e w1 ⟨rfl, b1⟩
        have B1 := Lib.hid b1
        have BB := Lib.hid (B1.out.alloc b1.size (.cells #[] 2))
        clear b1
        go_wp2_with fail
        refine (l00In m 0 30 _).mono ?_
        rintro e w2 ⟨rfl, rfl⟩
        go_wp2
        refine wp_loop_rounds 1 ?_
        rw [rounds_succ]
        go_wp2_with fail
        refine (CC.out _ BB.out).mono ?_
        rintro e w2 ⟨rfl, b2⟩
        have B2 := Lib.hid (BB.out.trans (b2.mono BB.out.size))
        clear b2
        go_wp2
        go_ret2
        exact ListRes.empty (B2.out.alloc B2.out.size _)
    · have I1 : inB t 0 30 = false := decide_eq_false h1
      have E1 : drA n f g seed t = [] := by unfold drA; rw [if_neg (fun e => h1 e.2.1)]
      have E2 : drB n f g seed t = 2 := by unfold drB; rw [if_pos o, if_neg h1]
      rw [E1, E2]
      clear E1 E2 o ha C h1
      go_enter Try.func63, Try.ntmps63
      go_wp2_with fail
      refine OH.out.mono ?_
      rintro e w1 ⟨rfl, b1⟩
      have B1 := Lib.hid b1
      clear b1
      go_wp2_with fail
      refine (l00In t 0 30 _).mono ?_
      rintro e w2 ⟨rfl, rfl⟩
      go_wp2
      go_ret2
      exact ListRes.empty (B1.out.alloc B1.out.size _)
end Go.Proofs.Ytmndkmkknkodhaa.Ch
