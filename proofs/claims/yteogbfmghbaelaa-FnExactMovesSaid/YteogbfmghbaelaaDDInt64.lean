/-
  Data of the type [][]int64: its reading, and the laws' helpers on it (written by tools/gen/data.py).
-/
import Derived.Test.YteogbfmghbaelaaRdI
namespace Go.Proofs.Yteogbfmghbaelaa.Rd
open Go.RowKit Go.ChangeShapes Go.WideShapes
open Go.Proofs.Yteogbfmghbaelaa.Sg (BxN)
set_option linter.unusedVariables false
set_option linter.unusedSimpArgs false

set_option maxRecDepth 100000 in
set_option maxHeartbeats 1000000 in
theorem szInt64SS (a : Option Addr) (cap : Nat) (l : List (List Int)) (left : Int) (l0 : 0 ≤ left) (l1 : left ≤ 2097152) (w : World) {fr : Bool} {lo : Nat} (hl : l.length ≤ 9223372036854775807) (hc : Rows fr lo w a l) :
    Calls Try.prog 29 #[.slice a l.length cap, .int .i64 left] w (SzB left (Rdb.sz l) w) := by
  have T0 := Lib.hid (tot_zero l)
  have TA := Lib.hid (tot_all l)
  have TM := Lib.hid (fun k => tot_le l k)
  have HL := Lib.hid (fun k (h : k < l.length) => get_lt h)
  have TN := Lib.hid (sz_len l)
  obtain ⟨n, hn⟩ : ∃ n, n = l.length := ⟨_, rfl⟩
  rw [← hn] at T0 TA HL TN hl ⊢
  clear hn
  unfold SzB
  by_cases h0 : (n : Int) ≤ left
  · go_enter Try.func29, Try.ntmps29
    go_wp2
    go_loopw [1, 5] (fun x i wr => ∃ k : Nat, k ≤ n ∧ i = .int .i64 k ∧ (tot l k : Int) ≤ left ∧ x = .int .i64 (left - tot l k) ∧ Below w.heap.size w wr) (fun _ i _ => n - (intOf i).toNat)
    case atStart => exact ⟨0, by omega, rfl, by rw [T0.out]; exact h0, by rw [T0.out], Below.refl _ _⟩
    case round =>
      obtain ⟨k, hk, rfl, hle, rfl, hw⟩ := hrel
      have HW := Lib.hid hw
      by_cases hlt : k < n
      · obtain ⟨x, hx⟩ := HL.out k hlt
        obtain ⟨b, off, cs, rfl, -, hB, hr, hcc⟩ := (hc.below hw).at' hx
        have TS := Lib.hid (tot_succ hx)
        have TMk := Lib.hid (TM.out (k + 1))
        obtain ⟨g0, a0, c0, rfl, f0⟩ := hr
        have Z := szInt64S a0 c0 x (left - tot l k) (by omega) (by omega) wr g0 f0
        have c0' : wr.cell? ⟨b, off + k, none⟩ = some (.slice a0 x.length c0) := by have := hcc 0 _ rfl; rwa [show off + k * Rdb.size (List Int) + 0 = off + k from by show off + k * 1 + 0 = _; omega] at this
        have C0 := Lib.hid hc
        clear hc hcc hw hx f0
        unfold SzB at Z
        by_cases hq : ((tot l k + Rdb.sz x : Nat) : Int) ≤ left
        · rw [szI_yes (by omega), show left - (tot l k : Int) - ((Rdb.sz x : Nat) : Int) = left - ((tot l k + Rdb.sz x : Nat) : Int) by omega] at Z
          have Z := Lib.hid Z
          generalize Rdb.sz x = s at *
          go_wp2_with fail
          refine Z.out.mono ?_
          rintro e w2 ⟨rfl, b2⟩
          have B2 := Lib.hid (chainX w HW.out b2)
          clear b2
          go_wp2
          go_roundw
          case rel => exact ⟨k + 1, by omega, by go_num, by rw [TS.out]; exact hq, by rw [TS.out]; go_num, B2.out⟩
          case measure => simp [intOf]; omega
        · rw [szI_no (by omega)] at Z
          have Z := Lib.hid Z
          have R : szI left (Rdb.sz l) = -1 := szI_no (by have := TMk.out; have := TS.out; omega)
          have R := Lib.hid R
          go_wp2_with fail
          refine Z.out.mono ?_
          rintro e w2 ⟨rfl, b2⟩
          have B2 := Lib.hid (chainX w HW.out b2)
          clear b2
          go_wp2
          go_ret
          exact ⟨by rw [R.out]; rfl, B2.out⟩
      · obtain rfl : k = n := by omega
        have R : szI left (Rdb.sz l) = left - tot l k := by rw [← TA.out]; exact szI_yes hle
        have R := Lib.hid R
        clear hc hw
        go_wp2
        go_ret
        exact ⟨by rw [R.out]; rfl, HW.out⟩
  · have R : szI left (Rdb.sz l) = -1 := szI_no (by have := TN.out; omega)
    rw [R]
    clear R hc
    go_enter Try.func29, Try.ntmps29
    go_wp2
    go_ret
    exact ⟨rfl, Below.refl _ _⟩
theorem infoInt64S : (Try.prog.info? 34).map (fun i => (i.zero, i.size, i.bytes)) = some (some (.slice none 0 0), 1, 24) := by kernel_rfl
set_option maxRecDepth 100000 in
set_option maxHeartbeats 1000000 in
theorem toInt64SS (a : Option Addr) (cap : Nat) (l : List (List Int)) (w : World) (hs : Rdb.sz l ≤ 2097152) {fr : Bool} {lo : Nat} (hc : Rows fr lo w a l) :
    Calls Try.prog 31 #[.slice a l.length cap] w (SlC l w) := by
  have HL := Lib.hid (fun k (h : k < l.length) => get_lt h)
  have hl : l.length ≤ 2097152 := Nat.le_trans (sz_len l) hs
  have SM := Lib.hid (fun k x (h : l[k]? = some x) => Nat.le_trans (sz_mem h) hs)
  obtain ⟨n, hn⟩ : ∃ n, n = l.length := ⟨_, rfl⟩
  have FIN : ∀ e w', (e = .returned (.slice (some ⟨w.heap.size, 0, none⟩) n n) ∧ RndL w w' w.heap.size n n l) → SlC l w e w' := by
    rintro e w' ⟨h, R⟩; rw [hn] at h; exact ⟨_, h, R.done hn, R.new, R.lt, R.free, R.below⟩
  rw [← hn] at hl HL ⊢
  have HF := Lib.hid FIN
  clear hn FIN hs
  obtain ⟨i0, hi, hz0, hz1, hz2⟩ := info_parts infoInt64S
  go_enter Try.func31, Try.ntmps31
  go_wp2_with (at_make; refine wpList_make_full _ rfl _ _ 66 rfl w.heap.size 34 i0 (.slice none 0 0) 1 Try.underlying66 hi hz0 hz1 .i64 .i64 n n n rfl rfl rfl rfl (by rw [hz2]; omega) (by unfold maxLen; omega) (Nat.le_refl _) ?_; intro w1 hown1 hgrow1)
  have R1 : RndL w w1 w.heap.size n 0 l := RndL.made hown1 l ((Below.refl _ _).grown hgrow1 (Nat.le_refl _) (by intro k hk; cases hk))
  clear hown1 hgrow1
  go_loopw [4] (fun i wr => ∃ k : Nat, k ≤ n ∧ i = .int .i64 k ∧ RndL w wr w.heap.size n k l) (fun i _ => n - (intOf i).toNat)
  case atStart => exact ⟨0, by omega, rfl, R1⟩
  case round =>
    obtain ⟨k, hk, rfl, R⟩ := hrel
    clear R1
    by_cases hlt : k < n
    · obtain ⟨x, hx⟩ := HL.out k hlt
      obtain ⟨b, off, cs, rfl, -, hB, hr, hcc⟩ := (hc.below R.below).at' hx
      obtain ⟨g0, a0, c0, rfl, f0⟩ := hr
      have T := Lib.hid (toInt64S a0 c0 x wr (SM.out _ _ hx) f0)
      have c0' : wr.cell? ⟨b, off + k, none⟩ = some (.slice a0 x.length c0) := by have := hcc 0 _ rfl; rwa [show off + k * Rdb.size (List Int) + 0 = off + k from by show off + k * 1 + 0 = _; omega] at this
      have RH := Lib.hid R
      have HX := Lib.hid hx
      clear R hx hcc hc f0
      go_wp2_with fail
      refine T.out.mono ?_
      rintro e w2 ⟨q2, rfl, r2, -, -, -, b2⟩
      have R2 := RH.out.later b2
      have PUT := R2.put hlt HX.out (show Rdb.rd true (w.heap.size + 1) w2 [.slice (some ⟨q2, 0, none⟩) x.length x.length] x from ⟨g0, _, _, rfl, r2.weak (by have := RH.out.lt; omega) id⟩)
      rw [show k * Rdb.size (List Int) = k from Nat.mul_one k] at PUT
      obtain ⟨u0, d0⟩ := R2.there k (by show _ < n * 1; omega)
      have z0 := R2.free k
      have R3 : RndL w (w2.setCell ⟨w.heap.size, k, none⟩ (.slice (some ⟨q2, 0, none⟩) x.length x.length)) w.heap.size n (k + 1) l := PUT
      have R3 := Lib.hid R3
      clear R2 RH b2 r2 PUT c0'
      go_wp2
      go_roundw
      case rel => exact ⟨k + 1, by omega, by go_num, R3.out⟩
      case measure => simp [intOf]; omega
    · obtain rfl : k = n := by omega
      have F := Lib.hid (HF.out _ _ ⟨rfl, R⟩)
      clear R hc
      go_wp2
      go_ret
      exact F.out
set_option maxRecDepth 100000 in
set_option maxHeartbeats 1000000 in
theorem eqInt64SS (a b : Option Addr) (cap1 cap2 : Nat) (l : List (List Int)) (w : World) (hs : Rdb.sz l ≤ 2097152) {fr fr2 : Bool} {lo lo2 : Nat} (ha : Rows fr lo w a l) (hb : Rows fr2 lo2 w b l) :
    Calls Try.prog 33 #[.slice a l.length cap1, .slice b l.length cap2] w (TrueW w) := by
  have HL := Lib.hid (fun k (h : k < l.length) => get_lt h)
  have hl : l.length ≤ 2097152 := Nat.le_trans (sz_len l) hs
  have SM := Lib.hid (fun k x (h : l[k]? = some x) => Nat.le_trans (sz_mem h) hs)
  obtain ⟨n, hn⟩ : ∃ n, n = l.length := ⟨_, rfl⟩
  rw [← hn] at hl HL ⊢
  clear hn hs
  go_enter Try.func33, Try.ntmps33
  go_wp2
  go_loopw [5] (fun i wr => ∃ k : Nat, k ≤ n ∧ i = .int .i64 k ∧ Below w.heap.size w wr) (fun i _ => n - (intOf i).toNat)
  case atStart => exact ⟨0, by omega, rfl, Below.refl _ _⟩
  case round =>
    obtain ⟨k, hk, rfl, hw⟩ := hrel
    by_cases hlt : k < n
    · obtain ⟨x, hx⟩ := HL.out k hlt
      obtain ⟨b1, o1, cs1, rfl, -, hB1, hr1, hc1⟩ := (ha.below hw).at' hx
      obtain ⟨b2, o2, cs2, rfl, -, hB2, hr2, hc2⟩ := (hb.below hw).at' hx
      obtain ⟨g1, a1, k1, rfl, f1⟩ := hr1
      obtain ⟨g2, a2, k2, rfl, f2⟩ := hr2
      have T := Lib.hid (fun w' (y : Below wr.heap.size wr w') => eqInt64S a1 a2 k1 k2 x w' (SM.out _ _ hx) (f1.below y) (f2.below y))
      have d1 : wr.cell? ⟨b1, o1 + k, none⟩ = some (.slice a1 x.length k1) := by have := hc1 0 _ rfl; rwa [show o1 + k * Rdb.size (List Int) + 0 = o1 + k from by show o1 + k * 1 + 0 = _; omega] at this
      have d2 : wr.cell? ⟨b2, o2 + k, none⟩ = some (.slice a2 x.length k2) := by have := hc2 0 _ rfl; rwa [show o2 + k * Rdb.size (List Int) + 0 = o2 + k from by show o2 + k * 1 + 0 = _; omega] at this
      have HW := Lib.hid hw
      clear hw hx hc1 hc2 f1 f2 ha hb
      go_wp2
      go_region_with (go_at_call 63; refine (T.out _ (undrewX (Below.refl _ _))).mono ?_; rintro e w2 ⟨rfl, b2⟩; have B2 := Lib.hid (HW.out.trans ((undrewX b2).mono HW.out.size)))
      all_goals
        go_wp2
        go_roundw
        case rel => exact ⟨k + 1, by omega, by go_num, B2.out⟩
        case measure => simp [intOf]; omega
    · obtain rfl : k = n := by omega
      have HW := Lib.hid hw
      clear hw ha hb
      go_wp2
      go_ret
      exact ⟨rfl, HW.out⟩
end Go.Proofs.Yteogbfmghbaelaa.Rd
