/-
  Marks laid into copied intervals.
-/
import Derived.Test.YthimpcfodbmhkaaMInts
import Derived.Test.YthimpcfodbmhkaaDInterval
namespace Go.Proofs.Ythimpcfodbmhkaa.Rd
open Go.RowKit Go.ChangeShapes Go.WideShapes
open Go.Proofs.Ythimpcfodbmhkaa.Sg (BxN)
set_option linter.unusedVariables false
set_option linter.unusedSimpArgs false

theorem tot_map {α : Type} [Rdb α] {l l' : List α} (h : l'.map Rdb.sz = l.map Rdb.sz) (k : Nat) : tot l' k = tot l k := by
  unfold tot; rw [map_len h, List.map_take, List.map_take, h]
/-- What marks in a copied argument leave, and that the counter has grown. -/
def MkB (lo hi : Nat) (k : Int) (w : World) (e : Ending) (w' : World) : Prop := ∃ r : Int, e = .returned (.int .i64 r) ∧ 0 ≤ r ∧ r ≤ k ∧ Chg lo hi w w'
set_option maxRecDepth 100000 in
set_option maxHeartbeats 4000000 in
theorem markIntervalSB (a : Option Addr) (cap : Nat) (l : List DInterval) (k : Int) (lo : Nat) (v w : World) (hl : Rdb.sz l ≤ 2097152) (k0 : 0 ≤ k) (k1 : k ≤ 1000000000) (h : Rows true lo v a l) (hs : Shadow v.heap.size v w) (hz : v.heap.size ≤ w.heap.size) :
    Calls Try.prog 37 #[.slice a l.length cap, .int .i64 k] w (MkB lo v.heap.size (k + 8388608) w) := by
  have hn2 := sz_len l
  have TL := Lib.hid (fun j => tot_le l j)
  have T0 := Lib.hid (tot_zero l)
  obtain ⟨n, hn⟩ : ∃ n, n = l.length := ⟨_, rfl⟩
  have HN := Lib.hid hn
  have R0 := Lib.hid h
  have S0 := Lib.hid hs
  rw [← hn] at hn2 ⊢
  clear hn h hs
  go_enter Try.func37, Try.ntmps37
  go_wp2
  go_loopw [1, 5] (fun kk i wr => ∃ (j : Nat) (v' : World) (K : Int), j ≤ n ∧ i = .int .i64 j ∧ kk = .int .i64 K ∧ 0 ≤ K ∧ K ≤ k + 3 * j + tot l j ∧ Stirred v v' ∧ Shadow v.heap.size v' wr ∧ Chg lo v.heap.size w wr) (fun _ i _ => n - (intOf i).toNat)
  case atStart => exact ⟨0, v, k, by omega, rfl, rfl, k0, by omega, .refl _, S0.out, Chg.refl _ _ _⟩
  case round =>
    obtain ⟨j, v', K, hj, rfl, rfl, hK0, hK1, ST, S, C⟩ := hrel
    have ev := ST.size
    obtain ⟨l', hl0, R⟩ := R0.out.stirred ST
    have hl' := (map_len hl0).trans HN.out.symm
    have TM := tot_map hl0
    have HL := Lib.hid hl'
    have EV := Lib.hid ev
    have tl := TL.out j
    have CS := C.size
    clear hl0
    by_cases hlt : j < n
    · obtain ⟨x, hx⟩ := get_lt (show j < l'.length by rw [HL.out]; exact hlt)
      have ts := tot_succ hx
      rw [TM, TM] at ts
      have tl2 := TL.out (j + 1)
      have sx : Rdb.sz x = Rdb.sz x.acting := rfl
      have sl := sz_len x.acting
      obtain ⟨b, off, he, h0, hB, hf, hc⟩ := R.resolve_left (by rintro rfl; simp at hx)
      subst he
      obtain ⟨cs, hr, hcc⟩ := hc j x hx
      have bh : b < v.heap.size := by rw [← EV.out]; exact hB
      obtain ⟨a0_2, c0_2, rfl, f0_0, f0_1, f0_2, g0_2⟩ := shape_Interval hr
      have q0 : v'.cell? ⟨b, off + j * 4, none⟩ = some (.int .i64 x.first) := hcc 0 _ rfl
      have d0 := (S.cell (p := ⟨b, off + j * 4, none⟩) bh).trans q0
      have z0 := (S.frozen (p := ⟨b, off + j * 4, none⟩) bh).trans (hf rfl (off + j * 4))
      have q1 : v'.cell? ⟨b, off + j * 4 + 1, none⟩ = some (.int .i64 x.last) := hcc 1 _ rfl
      have d1 := (S.cell (p := ⟨b, off + j * 4 + 1, none⟩) bh).trans q1
      have z1 := (S.frozen (p := ⟨b, off + j * 4 + 1, none⟩) bh).trans (hf rfl (off + j * 4 + 1))
      have q2 : v'.cell? ⟨b, off + j * 4 + 2, none⟩ = some (.slice a0_2 x.acting.length c0_2) := hcc 2 _ rfl
      have d2 := (S.cell (p := ⟨b, off + j * 4 + 2, none⟩) bh).trans q2
      have T1 := Stirred.step ⟨b, off + j * 4, none⟩ (u' := .int .i64 K) ST q0 (.inl ⟨_, _, rfl, rfl, WalkArith.wf_i64 (by omega)⟩)
      have T2 := Stirred.step ⟨b, off + j * 4 + 1, none⟩ (u' := .int .i64 (K + 1)) T1 ((World.cell?_setCell_other (v') ⟨b, off + j * 4, none⟩ ⟨b, off + j * 4 + 1, none⟩ (.int .i64 K) (by simp)).trans q1) (.inl ⟨_, _, rfl, rfl, WalkArith.wf_i64 (by omega)⟩)
      have S2 := (S.set ⟨b, off + j * 4, none⟩ (.int .i64 K)).set ⟨b, off + j * 4 + 1, none⟩ (.int .i64 (K + 1))
      have C2 := C.trans ((Chg.set (wr) ⟨b, off + j * 4, none⟩ (.int .i64 K) h0 bh).trans (Chg.set ((wr).setCell ⟨b, off + j * 4, none⟩ (.int .i64 K)) ⟨b, off + j * 4 + 1, none⟩ (.int .i64 (K + 1)) h0 bh))
      have ev2 := T2.size
      -- the list of places, in the stirred copy
      obtain ⟨l2, hl2, R2⟩ := R0.out.stirred T2
      have TM2 := tot_map hl2
      have hl2' := (map_len hl2).trans HN.out.symm
      obtain ⟨x2, hx2⟩ := get_lt (show j < l2.length by rw [hl2']; exact hlt)
      obtain ⟨b2, off2, cs2, he2, -, -, hr2, hcc2⟩ := R2.at' hx2
      obtain ⟨rfl, rfl⟩ : b = b2 ∧ off = off2 := by simpa using he2
      obtain ⟨a1_2, c1_2, rfl, f1_0, f1_1, f1_2, g1_2⟩ := shape_Interval hr2
      have q2' := hcc2 2 _ rfl
      have q2'' : ((v'.setCell ⟨b, off + j * 4, none⟩ (.int .i64 K)).setCell ⟨b, off + j * 4 + 1, none⟩ (.int .i64 (K + 1))).cell? ⟨b, off + j * 4 + 2, none⟩ = some (.slice a0_2 x.acting.length c0_2) := by
        rw [World.cell?_setCell_other _ _ _ _ (by simp), World.cell?_setCell_other _ _ _ _ (by simp)]; exact q2
      have same : a0_2 = a1_2 ∧ x.acting.length = x2.acting.length ∧ c0_2 = c1_2 := by
        have e := q2''.symm.trans q2'
        simpa using e
      obtain ⟨rfl, sl2, rfl⟩ := same
      have MK := markInt64S a0_2 c0_2 x2.acting (K + 1 + 1) lo _ _ (by omega) (by omega) (by omega) f1_2 (by rw [ev2]; exact S2) (by rw [ev2]; simp only [World.size_setCell]; omega)
      rw [← sl2] at MK
      have MK := Lib.hid MK
      have FIN := Lib.hid (fun (v3 w3 : World) (s : Stirred ((v'.setCell ⟨b, off + j * 4, none⟩ (.int .i64 K)).setCell ⟨b, off + j * 4 + 1, none⟩ (.int .i64 (K + 1))) v3) (sh : Shadow ((v'.setCell ⟨b, off + j * 4, none⟩ (.int .i64 K)).setCell ⟨b, off + j * 4 + 1, none⟩ (.int .i64 (K + 1))).heap.size v3 w3) (c : Chg lo ((v'.setCell ⟨b, off + j * 4, none⟩ (.int .i64 K)).setCell ⟨b, off + j * 4 + 1, none⟩ (.int .i64 (K + 1))).heap.size ((wr.setCell ⟨b, off + j * 4, none⟩ (.int .i64 K)).setCell ⟨b, off + j * 4 + 1, none⟩ (.int .i64 (K + 1))) w3) =>
        (show (∃ m : Bool, w3.cell? ⟨b, off + j * 4 + 3, none⟩ = some (.bool m)) ∧ w3.frozen? ⟨b, off + j * 4 + 3, none⟩ = false ∧ ∀ bb : Bool, ∃ v4, Stirred v v4 ∧ Shadow v.heap.size v4 (w3.setCell ⟨b, off + j * 4 + 3, none⟩ (.bool bb)) ∧ Chg lo v.heap.size w (w3.setCell ⟨b, off + j * 4 + 3, none⟩ (.bool bb)) from by
          rw [ev2] at sh c
          have T3 := T2.trans s
          have ev3 := T3.size
          obtain ⟨l3, hl3, R3⟩ := R0.out.stirred T3
          have hl3' := (map_len hl3).trans HN.out.symm
          obtain ⟨x3, hx3⟩ := get_lt (show j < l3.length by rw [hl3']; exact hlt)
          obtain ⟨b3, off3, he3, h03, hB3, hf3, hc3⟩ := R3.resolve_left (by rintro rfl; simp at hx3)
          obtain ⟨rfl, rfl⟩ : b = b3 ∧ off = off3 := by simpa using he3
          obtain ⟨cs3, hr3, hcc3⟩ := hc3 j x3 hx3
          obtain ⟨a4, c4, rfl, -, -, -, -⟩ := shape_Interval hr3
          have q3 : v3.cell? ⟨b, off + j * 4 + 3, none⟩ = some (.bool x3.may) := hcc3 3 _ rfl
          refine ⟨⟨x3.may, (sh.cell (p := ⟨b, off + j * 4 + 3, none⟩) bh).trans q3⟩, (sh.frozen (p := ⟨b, off + j * 4 + 3, none⟩) bh).trans (hf3 rfl _), fun bb => ⟨v3.setCell ⟨b, off + j * 4 + 3, none⟩ (.bool bb), .step _ T3 q3 (.inr ⟨_, _, rfl, rfl⟩), sh.set _ _, C2.trans (c.trans (Chg.set w3 ⟨b, off + j * 4 + 3, none⟩ (.bool bb) h0 bh))⟩⟩))
      have BND := Lib.hid (show K + 1 + 1 + (x.acting.length : Int) + 1 ≤ k + 3 * ((j + 1 : Nat) : Int) + tot l (j + 1) from by omega)
      have M0 : x.acting.length ≤ 2097152 := by omega
      have KB : K ≤ 1100000000 := by omega
      clear R S C ST hl' ev hf hc hcc hr hx bh h0 hB S0 hz q0 q1 q2 T1 T2 S2 C2 ev2 hl2 R2 TM2 hl2' hx2 he2 hr2 hcc2 q2' q2'' f1_2 f0_2 sl2 TM ts tl tl2 sx sl hK1 g0_2 g1_2
      generalize x.acting.length = m at *
      go_wp2_with fail
      refine MK.out.mono ?_
      rintro e w3 ⟨v3, rfl, s3, sh3, c3⟩
      obtain ⟨⟨mb, d3⟩, z3, F3⟩ := FIN.out v3 w3 s3 sh3 c3
      have F3 := Lib.hid F3
      clear s3 sh3 c3 FIN MK
      go_wp2
      go_roundw
      case rel =>
        obtain ⟨v4, t4, s4, c4⟩ := F3.out _
        have BB := BND.out
        exact ⟨j + 1, v4, _, by omega, by go_num, rfl, by omega, by omega, t4, s4, c4⟩
      case measure => simp [intOf]; omega
    · obtain rfl : j = n := by omega
      have FN := Lib.hid (show MkB lo v.heap.size (k + 8388608) w (.returned (.int .i64 K)) wr from ⟨K, rfl, hK0, by omega, C⟩)
      clear R S C hl' ev ST
      go_wp2
      go_ret
      exact FN.out
set_option maxRecDepth 100000 in
theorem markIntervalB (d : DInterval) (a0_2 : Option Addr) (c0_2 : Nat) (k : Int) (lo : Nat) (v w : World) (hl : Rdb.sz d ≤ 2097152) (k0 : 0 ≤ k) (k1 : k ≤ 1000000000) (h : Rows true lo v a0_2 d.acting) (hs : Shadow v.heap.size v w) (hz : v.heap.size ≤ w.heap.size) :
    Calls Try.prog 38 #[.agg #[.int .i64 d.first, .int .i64 d.last, .slice a0_2 d.acting.length c0_2, .bool d.may], .int .i64 k] w (MkB lo v.heap.size (k + 8388608) w) := by
  have sl := sz_len d.acting
  have sx : Rdb.sz d = Rdb.sz d.acting := rfl
  have LY := lay w (.cells #[.int .i64 d.first, .int .i64 d.last, .slice a0_2 d.acting.length c0_2, .bool d.may] 38)
  have YN := BxN.new w #[.int .i64 d.first, .int .i64 d.last, .slice a0_2 d.acting.length c0_2, .bool d.may] 38
  have y2 := YN.cells 2 _ rfl
  have MK := Lib.hid (markInt64S a0_2 c0_2 d.acting k lo v (w.alloc (.cells #[.int .i64 d.first, .int .i64 d.last, .slice a0_2 d.acting.length c0_2, .bool d.may] 38)) (by omega) k0 (by omega) h (hs.later hz LY) (by simp; omega))
  have FIN := Lib.hid (fun (w3 : World) (c : Chg lo v.heap.size (w.alloc (.cells #[.int .i64 d.first, .int .i64 d.last, .slice a0_2 d.acting.length c0_2, .bool d.may] 38)) w3) => show MkB lo v.heap.size (k + 8388608) w (.returned (.int .i64 (k + d.acting.length))) w3 from ⟨_, rfl, by omega, by omega, (Chg.of LY).trans c⟩)
  clear LY YN h hs
  generalize d.acting.length = n at *
  go_enter Try.func38, Try.ntmps38
  go_wp2_with fail
  refine MK.out.mono ?_
  rintro e w3 ⟨v3, rfl, -, -, c3⟩
  have G := Lib.hid (FIN.out w3 c3)
  clear c3
  go_wp2
  go_ret
  exact G.out
end Go.Proofs.Ythimpcfodbmhkaa.Rd
