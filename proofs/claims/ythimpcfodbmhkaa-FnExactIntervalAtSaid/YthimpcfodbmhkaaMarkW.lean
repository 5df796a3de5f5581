/-
  Marks laid into intervals that the call has put together, and found again: the laws' functions.
-/
import Derived.Test.YthimpcfodbmhkaaMarkV
namespace Go.Proofs.Ythimpcfodbmhkaa.Rd
open Go.RowKit Go.ChangeShapes Go.WideShapes
open Go.Proofs.Ythimpcfodbmhkaa.Sg (BxN)
set_option linter.unusedVariables false
set_option linter.unusedSimpArgs false

set_option maxRecDepth 100000 in
set_option maxHeartbeats 4000000 in
theorem markIntervalX (a : Option Addr) (cap : Nat) (l : List DInterval) (B : Nat) (w : World) (hs : Rdb.sz l ≤ 2097152) (h : OwnV B w (.slice a l.length cap) l) :
    Calls Try.prog 37 #[.slice a l.length cap, .int .i64 1] w (fun e w' => e = .returned (.int .i64 (mkE 1 l)) ∧ OwnV B w' (.slice a l.length cap) (mkL 1 l) ∧ Chg B w.heap.size w w') := by
  obtain ⟨Q, hQ⟩ := h
  have hn2 := sz_len l
  have KB := Lib.hid (fun j => mkE_take_bnd l j 1)
  have ZM := Lib.hid (fun j (d : DInterval) (q : l[j]? = some d) => show d.acting.length ≤ 2097152 from by
    have h1 := sz_mem q
    have h2 : Rdb.sz d = Rdb.sz d.acting := rfl
    have h3 := sz_len d.acting
    omega)
  have GET := Lib.hid (fun j (h : j < l.length) => get_lt h)
  have JL := Lib.hid (fun j (h : j ≤ l.length) => mkJ_len h)
  have EA := Lib.hid (show mkE 1 (l.take l.length) = mkE 1 l by rw [List.take_length])
  have LA := Lib.hid (mkJ_all l)
  have E0 := Lib.hid (show (1 : Int) = mkE 1 (l.take 0) from rfl)
  have Q0 := Lib.hid (show OwnQ B w (.slice a l.length cap) (mkJ l 0) Q from hQ)
  have QL := hQ.1
  have GB := Lib.hid (fun (g : Nat) (e : a = some ⟨g, 0, none⟩) (hn : 0 < l.length) => (show B ≤ g ∧ g < w.heap.size from by
    obtain ⟨g', cp, e', h1, h2⟩ := World.ownsRow.form hQ.2.1 hn
    simp only [Value.slice.injEq] at e'
    have : g = g' := by have := e.symm.trans e'.1; simpa using this
    subst this; exact ⟨h1, h2⟩))
  have PB := Lib.hid (fun (i : Nat) (p : Nat × Nat) (hi : i < l.length) (hp : Q[i]? = some p) => (show B ≤ p.1 ∧ p.1 < w.heap.size from by
    have e := hQ.2.2.1 i _ p (List.getElem?_eq_getElem hi) hp
    exact ⟨e.low, e.lt⟩))
  obtain ⟨n, hn⟩ : ∃ n, l.length = n := ⟨_, rfl⟩
  have HN := Lib.hid hn
  rw [hn] at hn2 GET JL EA LA Q0 QL GB PB ⊢
  clear hn hQ
  go_enter Try.func37, Try.ntmps37
  go_wp2
  go_loopw [1, 5] (fun kk i wr => ∃ j : Nat, j ≤ n ∧ i = .int .i64 j ∧ kk = .int .i64 (mkE 1 (l.take j)) ∧ OwnQ B wr (.slice a n cap) (mkJ l j) Q ∧ Chg B w.heap.size w wr) (fun _ i _ => n - (intOf i).toNat)
  case atStart => exact ⟨0, by omega, rfl, by rw [← E0.out], Q0.out, Chg.refl _ _ _⟩
  case round =>
    obtain ⟨j, hj, rfl, rfl, O, C⟩ := hrel
    have kb := KB.out j
    have CS := C.size
    clear Q0 E0
    by_cases hlt : j < n
    · obtain ⟨d, hd⟩ := GET.out j hlt
      obtain ⟨p, hp⟩ := get_lt (show j < Q.length by omega)
      have hd' := mkJ_at hd
      have LJ := JL.out j hj
      have dz := ZM.out j d hd
      have el := O.2.2.1 j d p hd' hp
      obtain ⟨g, rfl, hg, hgl⟩ : ∃ g, a = some ⟨g, 0, none⟩ ∧ B ≤ g ∧ g < wr.heap.size := by
        obtain ⟨g, cp, e, h1, h2⟩ := World.ownsRow.form O.2.1 (by omega)
        simp only [Value.slice.injEq] at e
        exact ⟨g, e.1, h1, h2⟩
      have O' : OwnQ B wr (.slice (some ⟨g, 0, none⟩) (mkJ l j).length cap) (mkJ l j) Q := by rw [LJ]; exact O
      have cell : ∀ k u, k < 4 → (cV d p)[k]? = some u → wr.cell? ⟨g, j * 4 + k, none⟩ = some u := fun k u hk hu => by
        have := World.ownsRow.cellAt O'.2.1 (j * 4 + k) (by omega)
        rw [rowV_at hd' hp hk, hu] at this; exact this
      have d0 : wr.cell? ⟨g, j * 4, none⟩ = some (.int .i64 d.first) := cell 0 _ (by omega) rfl
      have d1 : wr.cell? ⟨g, j * 4 + 1, none⟩ = some (.int .i64 d.last) := cell 1 _ (by omega) rfl
      have d2 : wr.cell? ⟨g, j * 4 + 2, none⟩ = some (.slice (some ⟨p.1, 0, none⟩) d.acting.length p.2) := cell 2 _ (by omega) rfl
      have d3 : wr.cell? ⟨g, j * 4 + 3, none⟩ = some (.bool d.may) := cell 3 _ (by omega) rfl
      have z0 := World.ownsRow.frozenAt O'.2.1 (j * 4)
      have z1 := World.ownsRow.frozenAt O'.2.1 (j * 4 + 1)
      have z3 := World.ownsRow.frozenAt O'.2.1 (j * 4 + 3)
      have gb2 := GB.out g rfl (by omega)
      have pb2 := PB.out j p hlt hp
      have pg : p.1 ≠ g := fun z => el.ne (by show some g = some p.1; rw [z])
      have ES := mkE_take hd 1
      have JS := mkJ_succ hd
      generalize hK : mkE 1 (l.take j) = K at *
      have k0 : 0 ≤ K := by omega
      have k1 : K ≤ 8388609 := by omega
      have R2 : Rows true B ((wr.setCell ⟨g, j * 4, none⟩ (.int .i64 K)).setCell ⟨g, j * 4 + 1, none⟩ (.int .i64 (K + 1))) (some ⟨p.1, 0, none⟩) d.acting :=
        rows_blk (by rw [setCell_blk _ _ _ (by show p.1 ≠ g; exact pg), setCell_blk _ _ _ (by show p.1 ≠ g; exact pg)]) (by simp) el.rows
      have MK := Lib.hid (markXInt64S p.1 p.2 d.acting.length d.acting (K + 1 + 1) B _ rfl dz (by omega) (by omega) R2)
      have FIN := Lib.hid (fun (w3 : World) (hr : Rows true B w3 (some ⟨p.1, 0, none⟩) ((List.range d.acting.length).map (mkInt (K + 1 + 1)))) (hc : Chg p.1 (p.1 + 1) ((wr.setCell ⟨g, j * 4, none⟩ (.int .i64 K)).setCell ⟨g, j * 4 + 1, none⟩ (.int .i64 (K + 1))) w3) =>
        (show w3.cell? ⟨g, j * 4 + 3, none⟩ = some (.bool d.may) ∧ w3.frozen? ⟨g, j * 4 + 3, none⟩ = false ∧ OwnQ B (w3.setCell ⟨g, j * 4 + 3, none⟩ (.bool (mkB (K + 1 + 1 + d.acting.length)))) (.slice (some ⟨g, 0, none⟩) n cap) (mkJ l (j + 1)) Q ∧ Chg B w.heap.size w (w3.setCell ⟨g, j * 4 + 3, none⟩ (.bool (mkB (K + 1 + 1 + d.acting.length)))) from by
          have gb : g < p.1 ∨ p.1 + 1 ≤ g := by omega
          have eb := hc.block g gb (by simpa using hgl)
          have gw : g < w.heap.size ∨ w.heap.size ≤ g := by omega
          refine ⟨(World.cell?_of_block (a := ⟨g, j * 4 + 3, none⟩) eb).trans (by rw [World.cell?_setCell_other _ _ _ _ (by simp), World.cell?_setCell_other _ _ _ _ (by simp)]; exact d3), (World.frozen?_of_block (a := ⟨g, j * 4 + 3, none⟩) eb).trans (by rw [World.frozen?_setCell, World.frozen?_setCell]; exact z3), ?_, ?_⟩
          · have M := OwnQ.mark (m := mkB (K + 1 + 1 + d.acting.length)) O' hd' hp (by simp) (WalkArith.wf_i64 (by omega)) (WalkArith.wf_i64 (by omega)) hc hr
            rw [JS]
            rw [LJ] at M
            exact M
          · exact (C.trans (((Chg.set wr ⟨g, j * 4, none⟩ (.int .i64 K) gb2.1 gb2.2).trans (Chg.set (wr.setCell ⟨g, j * 4, none⟩ (.int .i64 K)) ⟨g, j * 4 + 1, none⟩ (.int .i64 (K + 1)) gb2.1 gb2.2)).trans (hc.widen pb2.1 (by omega)))).trans (Chg.set w3 ⟨g, j * 4 + 3, none⟩ (.bool (mkB (K + 1 + 1 + d.acting.length))) gb2.1 gb2.2)))
      have ESH := Lib.hid ES
      clear cell O O' el R2 hd hd' hp d3 pg ES JS hg hgl C LJ gb2 pb2 CS kb hK
      generalize d.first = x0 at *
      generalize d.last = x1 at *
      have NK : mkN K d = K + 1 + 1 + (d.acting.length : Int) + 1 := rfl
      rw [NK] at ESH
      clear NK
      generalize d.acting.length = m at *
      go_wp2_with fail
      refine MK.out.mono ?_
      rintro e w3 ⟨rfl, r3, c3⟩
      obtain ⟨e3, f3, F3, G3⟩ := FIN.out w3 r3 c3
      have F3 := Lib.hid F3
      have G3 := Lib.hid G3
      clear r3 c3 FIN MK d0 d1 d2 z0 z1 z3
      unfold mkB at F3 G3
      go_wp2
      go_roundw
      case rel => exact ⟨j + 1, by omega, by go_num, by rw [ESH.out], F3.out, G3.out⟩
      case measure => simp [intOf]; omega
    · obtain rfl : j = n := by omega
      have G := Lib.hid (show (Ending.returned (.int .i64 (mkE 1 (l.take j)))) = .returned (.int .i64 (mkE 1 l)) ∧ OwnV B wr (.slice a j cap) (mkL 1 l) ∧ Chg B w.heap.size w wr from ⟨by rw [EA.out], ⟨Q, by rw [← LA.out]; exact O⟩, C⟩)
      clear O C
      generalize mkE 1 (l.take j) = K at *
      go_wp2
      go_ret
      exact G.out
set_option maxRecDepth 100000 in
set_option maxHeartbeats 4000000 in
theorem heldIntervalX (a : Option Addr) (cap : Nat) (l : List DInterval) (fr : Bool) (lo : Nat) (w : World) (hs : Rdb.sz l ≤ 2097152) (h : Rows fr lo w a (mkL 1 l)) :
    Calls Try.prog 42 #[.slice a l.length cap, .int .i64 1] w (RetW (.int .i64 (mkE 1 l)) w) := by
  have hn2 := sz_len l
  have RH := Lib.hid h
  have KB := Lib.hid (fun j => mkE_take_bnd l j 1)
  have ZM := Lib.hid (fun j (d : DInterval) (q : l[j]? = some d) => show d.acting.length ≤ 2097152 from by
    have h1 := sz_mem q
    have h2 : Rdb.sz d = Rdb.sz d.acting := rfl
    have h3 := sz_len d.acting
    omega)
  have GET := Lib.hid (fun j (h : j < l.length) => get_lt h)
  have EA := Lib.hid (show mkE 1 (l.take l.length) = mkE 1 l by rw [List.take_length])
  have E0 := Lib.hid (show (1 : Int) = mkE 1 (l.take 0) from rfl)
  obtain ⟨n, hn⟩ : ∃ n, l.length = n := ⟨_, rfl⟩
  rw [hn] at hn2 GET EA ⊢
  clear hn h
  go_enter Try.func42, Try.ntmps42
  go_wp2
  go_loopw [1, 5] (fun kk i wr => ∃ j : Nat, j ≤ n ∧ i = .int .i64 j ∧ kk = .int .i64 (mkE 1 (l.take j)) ∧ Below w.heap.size w wr) (fun _ i _ => n - (intOf i).toNat)
  case atStart => exact ⟨0, by omega, rfl, by rw [← E0.out], Below.refl _ _⟩
  case round =>
    obtain ⟨j, hj, rfl, rfl, hw⟩ := hrel
    have kb := KB.out j
    have BH := Lib.hid hw
    clear E0
    by_cases hlt : j < n
    · obtain ⟨d, hd⟩ := GET.out j hlt
      have dz := ZM.out j d hd
      have hm := mkL_at hd 1
      obtain ⟨b, off, cs, rfl, -, hB, hr, hcc⟩ := (RH.out.below hw).at' hm
      obtain ⟨a0_2, c0_2, rfl, f0_0, f0_1, f0_2, g0_2⟩ := shape_Interval hr
      have ES := mkE_take hd 1
      generalize hK : mkE 1 (l.take j) = K at *
      have e0 : wr.cell? ⟨b, off + j * 4, none⟩ = some (.int .i64 K) := hcc 0 _ rfl
      have e1 : wr.cell? ⟨b, off + j * 4 + 1, none⟩ = some (.int .i64 (K + 1)) := hcc 1 _ rfl
      have e2 : wr.cell? ⟨b, off + j * 4 + 2, none⟩ = some (.slice a0_2 d.acting.length c0_2) := by
        have := hcc 2 _ rfl
        rw [show (mkD K d).acting.length = d.acting.length from by show ((List.range d.acting.length).map _).length = _; simp] at this
        exact this
      have e3 : wr.cell? ⟨b, off + j * 4 + 3, none⟩ = some (.bool ((K + 1 + 1 + (d.acting.length : Int)) % 3 == 0)) := hcc 3 _ rfl
      have k0 : 0 ≤ K := by omega
      have k1 : K ≤ 8388609 := by omega
      have HE := Lib.hid (heldInt64S a0_2 c0_2 d.acting.length (K + 1 + 1) fr lo wr dz (by omega) (by omega) f0_2)
      have NK : mkN K d = K + 1 + 1 + (d.acting.length : Int) + 1 := rfl
      rw [NK] at ES
      have ESH := Lib.hid ES
      have E3 := Lib.hid (fun w' (bb : Below wr.heap.size wr w') => (bb.cell (p := ⟨b, off + j * 4 + 3, none⟩) hB).trans e3)
      clear hcc hr hm hd hw f0_0 f0_1 f0_2 g0_2 ES NK kb hK
      generalize d.acting.length = m at *
      go_wp2_with fail
      refine HE.out.mono ?_
      rintro e w3 ⟨rfl, b3⟩
      have B3 := Lib.hid (chainX w BH.out b3)
      have x3 := E3.out w3 b3
      have dk : decide (K + 1 + 1 + (m : Int) < 0) = false := decide_eq_false (by omega)
      clear b3 E3 HE e0 e1 e2 e3
      go_wp2
      go_roundw
      case rel => exact ⟨j + 1, by omega, by go_num, by rw [ESH.out], B3.out⟩
      case measure => simp [intOf]; omega
    · obtain rfl : j = n := by omega
      have G := Lib.hid (show RetW (.int .i64 (mkE 1 l)) w (.returned (.int .i64 (mkE 1 (l.take j)))) wr from ⟨by rw [EA.out], BH.out⟩)
      clear hw
      generalize mkE 1 (l.take j) = K at *
      go_wp2
      go_ret
      exact G.out
end Go.Proofs.Ythimpcfodbmhkaa.Rd
