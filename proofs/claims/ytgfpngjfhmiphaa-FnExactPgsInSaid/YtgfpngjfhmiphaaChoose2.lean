/-
  The choice of one item of a valid list: the program's function (a list of tickets, the greatest of them) and the model's (the best so far).
-/
import Derived.Test.YtgfpngjfhmiphaaChoose
namespace Go.Proofs.Ytgfpngjfhmiphaa.Ch
open Go.RowKit Go.Proofs.Ytgfpngjfhmiphaa.It Go.Proofs.Ytgfpngjfhmiphaa.Tk Go.Proofs.Ytgfpngjfhmiphaa.Rc
set_option linter.unusedVariables false

theorem infoT : (Try.prog.info? 189).map (fun i => (i.zero, i.size, i.bytes)) = some (some (.agg #[.int .i64 0, .int .i64 0]), 2, 16) := by kernel_rfl

/-- What the choice among n valid items answers. -/
def chA (n : Nat) (f g : Nat → Int) (seed try' : Int) : Int := (sel (tsN f g seed try' n)).1
def chB (n : Nat) (f g : Nat → Int) (seed try' : Int) : Int := if (tsN f g seed try' n).length = 0 then 3 else 0

set_option maxRecDepth 100000 in
set_option maxHeartbeats 2000000 in
theorem implChoose1 (a : Option Addr) (cap n : Nat) (f g : Nat → Int) (seed try' : Int) (w : World) (hl : n ≤ 2097152) (ha : Recs w a n f g) (hok : ∀ i, i < n → okI (f i) (g i) = true) :
    Calls Try.prog 111 #[.slice a n cap, .int .i64 seed, .int .i64 try'] w (Two (chA n f g seed try') (chB n f g seed try') w) := by
  obtain ⟨i0, hi, hz0, hz1, hz2⟩ := info_parts infoT
  have R0 := World.ownsRow_nil w w.heap.size 189 2
  go_enter Try.func111, Try.ntmps111
  go_wp2
  go_loopw [8, 13] (fun v i wr => ∃ k : Nat, k ≤ n ∧ i = .int .i64 k ∧ wr.ownsRow w.heap.size 189 2 v (tsN f g seed try' k).length (cellsT (tsN f g seed try' k)) ∧ Below w.heap.size w wr) (fun _ i _ => n - (intOf i).toNat)
  case atStart => exact ⟨0, by omega, rfl, R0, Below.refl _ _⟩
  case round =>
    obtain ⟨k, hk, rfl, ho, hw⟩ := hrel
    clear R0
    by_cases hlt : k < n
    · have ha1 := ha.below hw
      obtain ⟨b1, o1, rfl, hB, c1⟩ := ha1.resolve_left (by omega)
      obtain ⟨d0, d1⟩ := c1 k hlt
      obtain ⟨p1, p2, p3, p4⟩ := okI_out (hok k hlt)
      have HW := Lib.hid hw
      have HO := Lib.hid ho
      have TL := tsN_len f g seed try' k
      clear c1 ha1 ha hB hw ho
      by_cases hg : 0 < g k
      · have TS : tsN f g seed try' (k + 1) = tsN f g seed try' k ++ [(f k, bn (f k) seed try' (g k).toNat)] := by rw [tsN, if_pos hg]
        have TS := Lib.hid TS
        have D := Lib.hid (fun w' => implDraw (f k) (g k) seed try' p3 (by omega) w')
        have BX := Lib.hid (chain HW.out (lay wr (.cells #[.int .i64 (f k), .int .i64 (g k)] 160)))
        have OX := Lib.hid (HO.out.alloc (.cells #[.int .i64 (f k), .int .i64 (g k)] 160))
        generalize bn (f k) seed try' (g k).toNat = y at D TS
        generalize tsN f g seed try' k = l at HO TS OX TL
        generalize f k = x at *
        clear p1 p2
        go_wp2_with fail
        refine (D.out _).mono ?_
        rintro e w2 ⟨rfl, b2⟩
        have B2 := Lib.hid (BX.out.trans (b2.mono BX.out.size))
        have O2 := own_later OX.out b2
        have O3 := O2.alloc (.cells #[.int .i64 x, .int .i64 y] 189)
        have LE : w.heap.size ≤ w2.heap.size := B2.out.size
        have B3 := Lib.hid (B2.out.alloc LE (.cells #[.int .i64 x, .int .i64 y] 189))
        have hv := Lib.hid (O3.lt)
        have OH := Lib.hid O3
        clear b2 O2 d0 d1 O3
        go_wp2_with (at_builtin; refine wpList_append_own _ rfl (.tmp 20) (.tmp 25) 187 rfl w.heap.size 189 i0 (.agg #[.int .i64 0, .int .i64 0]) 2 16 Try.underlying187 hi hz0 hz1 hz2 rfl (by decide) u8 l.length (cellsT l) rfl OH.out ⟨w2.heap.size, 0, none⟩ 1 1 [.int .i64 x, .int .i64 y] rfl rfl (by intro j u hu; match j, hu with | 0, hu => (simp at hu; subst hu; simp [Addr.add]) | 1, hu => (simp at hu; subst hu; simp [Addr.add]) | (j + 2), hu => simp at hu) (by intro u hu; simp at hu; rcases hu with rfl | rfl <;> rfl) (by unfold maxLen; omega) (by omega) (by simp; omega) ?_; intro v' w3 ho3 hgr3 _)
        have B4 := Lib.hid (B3.out.grown hgr3 (by simp; omega) (fun j hj => (hv.out j hj).1))
        have O4 := Lib.hid ho3
        clear ho3 hgr3 OH OX HO
        go_roundw
        case rel => exact ⟨k + 1, by omega, by go_num, by rw [TS.out, cellsT_snoc, List.length_append]; exact O4.out, B4.out⟩
        case measure => simp [intOf]; omega
      · have TS : tsN f g seed try' (k + 1) = tsN f g seed try' k := by rw [tsN, if_neg hg]
        have TS := Lib.hid TS
        have BX := Lib.hid (chain HW.out (lay wr (.cells #[.int .i64 (f k), .int .i64 (g k)] 160)))
        have OX := Lib.hid (HO.out.alloc (.cells #[.int .i64 (f k), .int .i64 (g k)] 160))
        clear p1 p2 p3 p4
        go_wp2
        go_roundw
        case rel => exact ⟨k + 1, by omega, by go_num, by rw [TS.out]; exact OX.out, BX.out⟩
        case measure => simp [intOf]; omega
    · obtain rfl : k = n := by omega
      obtain ⟨av, cv, rfl⟩ := own_shape ho
      have P := tsN_pos f g seed try' k
      have TL := tsN_len f g seed try' k
      have HW := Lib.hid hw
      by_cases h0 : (tsN f g seed try' k).length = 0
      · have E1 : chB k f g seed try' = 3 := by unfold chB; rw [if_pos h0]
        have E2 : chA k f g seed try' = 0 := by unfold chA; rw [List.eq_nil_of_length_eq_zero h0]; rfl
        have E1' := Lib.hid E1
        have E2' := Lib.hid E2
        clear ho P hw ha E1 E2
        rw [h0]
        clear h0
        go_wp2
        go_ret2
        rw [E1'.out, E2'.out]
        exact ⟨rfl, HW.out⟩
      · have E1 : chB k f g seed try' = 0 := by unfold chB; rw [if_neg h0]
        have SE := sel_end _ P (by omega)
        have RC := recs_own ho
        have E2 : chA k f g seed try' = (mxF (fun i => ((tsN f g seed try' k).getD i (0, 0)).1) (fun i => ((tsN f g seed try' k).getD i (0, 0)).2) ((tsN f g seed try' k).length - 1)).1 := by rw [SE]; rfl
        generalize tsN f g seed try' k = l at *
        obtain ⟨m, hm⟩ : ∃ m, l.length = m + 1 := ⟨l.length - 1, by omega⟩
        rw [hm] at RC E2 ⊢
        have C := Lib.hid (maxFunc av cv m _ _ wr (by omega) RC)
        rw [show m + 1 - 1 = m from by omega] at E2
        generalize mxF (fun i => (l.getD i (0, 0)).1) (fun i => (l.getD i (0, 0)).2) m = z at *
        obtain ⟨z1, z2⟩ := z
        have E1' := Lib.hid E1
        have E2' := Lib.hid E2
        clear SE RC ho P h0 hm hw ha E1 E2
        go_wp2_with fail
        refine C.out.mono ?_
        rintro e w2 ⟨rfl, b2⟩
        have B2 := Lib.hid (chain HW.out b2)
        clear b2
        have F : ∀ W : World, (Instr.field 189 (.agg #[.int .i64 z1, .int .i64 z2]) 0).run Try.prog W = .ok (.int .i64 z1) W := fun W => by kernel_rfl
        go_wp2
        go_ret2
        rw [E1'.out, E2'.out]
        exact ⟨rfl, B2.out⟩

def IntBoolB (n : Int) (b : Bool) (w : World) (e : Ending) (w' : World) : Prop := e = .returned (.tuple #[.int .i64 n, .bool b]) ∧ Below w.heap.size w w'
theorem geq_one (l : List (Int × Int)) (h : ∀ p ∈ l, 0 ≤ p.2) : decide (0 ≤ (sel l).2) = !decide (l.length = 0) := by
  rcases sel_ge l h with ⟨rfl, e⟩ | ⟨hne, hp⟩
  · rw [e]; rfl
  · rw [decide_eq_true hp, decide_eq_false (by intro q; exact hne (List.eq_nil_of_length_eq_zero q))]; rfl

set_option maxRecDepth 100000 in
set_option maxHeartbeats 2000000 in
theorem l07Choose (a : Option Addr) (cap n : Nat) (f g : Nat → Int) (seed try' : Int) (w : World) (hl : n ≤ 2097152) (ha : Recs w a n f g) (hok : ∀ i, i < n → okI (f i) (g i) = true) :
    Calls Try.prog 110 #[.slice a n cap, .int .i64 seed, .int .i64 try'] w (IntBoolB (chA n f g seed try') (!decide ((tsN f g seed try' n).length = 0)) w) := by
  go_enter Try.func110, Try.ntmps110
  go_wp2
  go_loopw [8, 9, 10] (fun y x i wr => ∃ k : Nat, k ≤ n ∧ i = .int .i64 k ∧ x = .int .i64 (sel (tsN f g seed try' k)).1 ∧ y = .int .i64 (sel (tsN f g seed try' k)).2 ∧ Below w.heap.size w wr) (fun _ _ i _ => n - (intOf i).toNat)
  case atStart => exact ⟨0, by omega, rfl, rfl, rfl, Below.refl _ _⟩
  case round =>
    obtain ⟨k, hk, rfl, rfl, rfl, hw⟩ := hrel
    have P := tsN_pos f g seed try' k
    by_cases hlt : k < n
    · have ha1 := ha.below hw
      obtain ⟨b1, o1, rfl, hB, c1⟩ := ha1.resolve_left (by omega)
      obtain ⟨d0, d1⟩ := c1 k hlt
      obtain ⟨p1, p2, p3, p4⟩ := okI_out (hok k hlt)
      have HW := Lib.hid hw
      have HC := Lib.hid (fun w' (b : Below wr.heap.size wr w') => (b.cell (p := ⟨b1, o1 + k * 2, none⟩) hB).trans d0)
      have D := Lib.hid (fun w' => l07Best (f k) (g k) seed try' p3 (by omega) w')
      have GE : -1 ≤ (sel (tsN f g seed try' k)).2 := by
        rcases sel_ge _ P with ⟨_, e⟩ | ⟨_, h⟩
        · rw [e]; exact Int.le_refl _
        · omega
      have BL := bs_lt (f k) seed try' (g k).toNat
      have TS : sel (tsN f g seed try' (k + 1)) = if (sel (tsN f g seed try' k)).2 < bs (f k) seed try' (g k).toNat then (f k, bs (f k) seed try' (g k).toNat) else sel (tsN f g seed try' k) := by
        rw [tsN]
        by_cases hg : 0 < g k
        · have e : bs (f k) seed try' (g k).toNat = bn (f k) seed try' (g k).toNat := by unfold bs; rw [if_neg (by omega)]
          rw [if_pos hg, sel_snoc, e]; rfl
        · have e : bs (f k) seed try' (g k).toNat = -1 := by unfold bs; rw [if_pos (by omega)]
          rw [if_neg hg, e, if_neg (by omega)]
      clear c1 ha1 ha hB hw P hok p1 p2 p3 p4
      generalize bs (f k) seed try' (g k).toNat = q at D TS BL
      generalize hs : sel (tsN f g seed try' k) = s at *
      obtain ⟨s1, s2⟩ := s
      by_cases hq : s2 < q
      · rw [if_pos hq] at TS
        have TS := Lib.hid TS
        have HS := Lib.hid hs
        clear hs
        go_wp2_with fail
        refine (D.out _).mono ?_
        rintro e w2 ⟨rfl, b2⟩
        have B2 := Lib.hid (HW.out.trans (b2.mono HW.out.size))
        have e0 := HC.out _ b2
        clear b2 d0 d1
        go_wp2
        go_roundw
        case rel => exact ⟨k + 1, by omega, by go_num, by rw [TS.out], by rw [TS.out], B2.out⟩
        case measure => simp [intOf]; omega
      · rw [if_neg hq] at TS
        have TS := Lib.hid TS
        have HS := Lib.hid hs
        clear hs
        go_wp2_with fail
        refine (D.out _).mono ?_
        rintro e w2 ⟨rfl, b2⟩
        have B2 := Lib.hid (HW.out.trans (b2.mono HW.out.size))
        clear b2 d0 d1
        go_wp2
        go_roundw
        case rel => exact ⟨k + 1, by omega, by go_num, by rw [TS.out], by rw [TS.out], B2.out⟩
        case measure => simp [intOf]; omega
    · obtain rfl : k = n := by omega
      have E := geq_one _ P
      have F : chA k f g seed try' = (sel (tsN f g seed try' k)).1 := rfl
      have EH := Lib.hid E.symm
      have FH := Lib.hid F
      clear P E F
      generalize sel (tsN f g seed try' k) = s at *
      go_wp2
      go_ret2
      rw [EH.out, FH.out]
      exact ⟨rfl, hw⟩
end Go.Proofs.Ytgfpngjfhmiphaa.Ch
