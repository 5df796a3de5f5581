/-
  Data of the type Last: its reading, and the laws' helpers on it (written by tools/gen/data.py).
-/
import Derived.Test.YtbckdfoapmjilaaGreatDoorDVer
namespace Go.Proofs.YtbckdfoapmjilaaGreatDoor.Rd
open Go.RowKit Go.ChangeShapes Go.WideShapes
open Go.Proofs.YtbckdfoapmjilaaGreatDoor.Sg (BxN)
set_option linter.unusedVariables false
set_option linter.unusedSimpArgs false

/-- Last. -/
structure DLast where
  client : Int
  no : Int
  ver : DVer
instance : Inhabited DLast := ⟨⟨0, 0, default⟩⟩
instance : Rdb DLast where
  size := 4
  sz := fun d => 0
  rd := fun fr lo w cs d => cs.length = 4 ∧ Rdb.rd fr lo w ((cs.drop 0).take 1) d.client ∧ Rdb.rd fr lo w ((cs.drop 1).take 1) d.no ∧ Rdb.rd fr lo w ((cs.drop 2).take 2) d.ver
  len := fun h => h.1
  below := fun ⟨e, h0, h1, h2⟩ b => ⟨e, Rdb.below h0 b, Rdb.below h1 b, Rdb.below h2 b⟩
  far := fun ⟨e, h0, h1, h2⟩ b => ⟨e, Rdb.far h0 b, Rdb.far h1 b, Rdb.far h2 b⟩
  weak := fun ⟨e, h0, h1, h2⟩ b c => ⟨e, Rdb.weak h0 b c, Rdb.weak h1 b c, Rdb.weak h2 b c⟩
instance : Mkb DLast where
  swap := by
    rintro fr lo w cs d c v v' ⟨e, h0, h1, h2⟩ hv s
    obtain ⟨d0, z0, r0⟩ := Mkb.field h0 hv s
    obtain ⟨d1, z1, r1⟩ := Mkb.field h1 hv s
    obtain ⟨d2, z2, r2⟩ := Mkb.field h2 hv s
    exact ⟨⟨d0, d1, d2⟩, rfl, by rw [List.length_set]; exact e, r0, r1, r2⟩
  stir := by
    rintro fr lo w cs d p v v' ⟨e, h0, h1, h2⟩ hp s
    obtain ⟨d0, z0, r0⟩ := Mkb.stir h0 hp s
    obtain ⟨d1, z1, r1⟩ := Mkb.stir h1 hp s
    obtain ⟨d2, z2, r2⟩ := Mkb.stir h2 hp s
    exact ⟨⟨d0, d1, d2⟩, rfl, e, r0, r1, r2⟩
  move := fun ⟨e, h0, h1, h2⟩ sz hm => ⟨e, Mkb.move h0 sz hm, Mkb.move h1 sz hm, Mkb.move h2 sz hm⟩
theorem shape_Last {fr : Bool} {lo : Nat} {w : World} {cs : List Value} {d : DLast} (h : Rdb.rd fr lo w cs d) : cs = [.int .i64 d.client, .int .i64 d.no, .int .i64 d.ver.epoch, .int .i64 d.ver.seq] ∧ (Lit.int .i64 d.client).wf = true ∧ (Lit.int .i64 d.no).wf = true ∧ (Lit.int .i64 d.ver.epoch).wf = true ∧ (Lit.int .i64 d.ver.seq).wf = true := by
  obtain ⟨e, h0, h1, h2⟩ := h
  match cs, e with
  | [x0, x1, x2, x3], _ =>
    replace h0 : Rdb.rd fr lo w [x0] d.client := h0
    obtain ⟨e0, f0⟩ := h0
    obtain rfl : x0 = .int .i64 d.client := by simpa using e0
    replace h1 : Rdb.rd fr lo w [x1] d.no := h1
    obtain ⟨e1, f1⟩ := h1
    obtain rfl : x1 = .int .i64 d.no := by simpa using e1
    replace h2 : Rdb.rd fr lo w [x2, x3] d.ver := h2
    obtain ⟨q2, f2, f3⟩ := shape_Ver h2
    simp only [List.cons.injEq, and_true] at q2
    obtain ⟨rfl, rfl⟩ := q2
    exact ⟨rfl, f0, f1, f2, f3⟩
theorem mk_Last {fr : Bool} {lo : Nat} {w : World} {d : DLast}  (f0 : (Lit.int .i64 d.client).wf = true) (f1 : (Lit.int .i64 d.no).wf = true) (f2 : (Lit.int .i64 d.ver.epoch).wf = true) (f3 : (Lit.int .i64 d.ver.seq).wf = true) : Rdb.rd fr lo w [.int .i64 d.client, .int .i64 d.no, .int .i64 d.ver.epoch, .int .i64 d.ver.seq] d :=
  ⟨rfl, ⟨rfl, f0⟩, ⟨rfl, f1⟩, ⟨rfl, ⟨rfl, f2⟩, ⟨rfl, f3⟩⟩⟩
theorem opens_Last {P : Program} {t : TypeId} {f0 f1 f2 : Field} (hu : P.underlying t = some (.struct #[f0, f1, f2])) (hC : P.cellsOf t = 4) (off : f0.offset = 0 ∧ f1.offset = 1 ∧ f2.offset = 2) (h0 : Opens P f0.type Int) (h1 : Opens P f1.type Int) (h2 : Opens P f2.type DVer) : Opens P t DLast := by
  obtain ⟨o0, o1, o2⟩ := off
  refine ⟨hC, fun enc w base spare held fuel cs x h => ?_⟩
  obtain ⟨xs, n, _, _, hl, hlen, hg⟩ := DataW.trod_struct hu h
  match xs, hlen with
  | [y0, y1, y2], _ =>
    have t0 := hg 0 f0 rfl
    rw [o0, h0.1] at t0
    obtain ⟨d0, r0⟩ := h0.2 _ _ _ _ _ _ _ y0 t0
    have t1 := hg 1 f1 rfl
    rw [o1, h1.1] at t1
    obtain ⟨d1, r1⟩ := h1.2 _ _ _ _ _ _ _ y1 t1
    have t2 := hg 2 f2 rfl
    rw [o2, h2.1] at t2
    obtain ⟨d2, r2⟩ := h2.2 _ _ _ _ _ _ _ y2 t2
    exact ⟨⟨d0, d1, d2⟩, hl.trans hC, r0, r1, r2⟩

set_option maxRecDepth 100000 in
set_option maxHeartbeats 1000000 in
theorem toLast {cs : List Value} {fr : Bool} {lo : Nat} (d : DLast) (w : World) (hs : Rdb.sz d ≤ 2097152) (h : Rdb.rd fr lo w cs d) : Calls Tryz.prog 75 #[.agg cs.toArray] w (StC d w) := by
  obtain ⟨rfl, f0_0, f0_1, f0_2, f0_3⟩ := shape_Last h
  go_enter Tryz.func75, Tryz.ntmps75
  go_wp2
  refine bodyPost_ret (v := .agg #[.int .i64 d.client, .int .i64 d.no, .int .i64 d.ver.epoch, .int .i64 d.ver.seq]) (by simp [results, Tryz.results75, go_sem]) rfl ⟨_, rfl, mk_Last f0_0 f0_1 f0_2 f0_3, ?_⟩
  repeat (first | exact Below.refl _ _ | refine Below.alloc ?_ (by simp <;> omega) _)

set_option maxRecDepth 100000 in
set_option maxHeartbeats 1000000 in
theorem eqLast {cs ds : List Value} {fr fr2 : Bool} {lo lo2 : Nat} (d : DLast) (w : World) (hs : Rdb.sz d ≤ 2097152) (h : Rdb.rd fr lo w cs d) (k : Rdb.rd fr2 lo2 w ds d) : Calls Tryz.prog 100 #[.agg cs.toArray, .agg ds.toArray] w (TrueW w) := by
  obtain ⟨rfl, f0_0, f0_1, f0_2, f0_3⟩ := shape_Last h
  obtain ⟨rfl, f1_0, f1_1, f1_2, f1_3⟩ := shape_Last k
  go_enter Tryz.func100, Tryz.ntmps100
  go_wp2
  go_ret
  refine ⟨rfl, ?_⟩
  repeat (first | exact Below.refl _ _ | refine Below.alloc ?_ (by simp <;> omega) _)


theorem szLastS (a : Option Addr) (cap : Nat) (l : List DLast) (left : Int) (l0 : 0 ≤ left) (l1 : left ≤ 2097152) (w : World) {fr : Bool} {lo : Nat} (hl : l.length ≤ 9223372036854775807) (hc : Rows fr lo w a l) :
    Calls Tryz.prog 25 #[.slice a l.length cap, .int .i64 left] w (SzB left (Rdb.sz l) w) := by
  rw [sz_flat (fun _ => rfl) l]
  clear hc
  generalize l.length = n at *
  unfold SzB
  by_cases h : (n : Int) ≤ left
  · rw [szI_yes h]
    go_enter Tryz.func25, Tryz.ntmps25
    go_wp2
    go_ret
    exact ⟨rfl, Below.refl _ _⟩
  · rw [szI_no (by omega)]
    go_enter Tryz.func25, Tryz.ntmps25
    go_wp2
    go_ret
    exact ⟨rfl, Below.refl _ _⟩

theorem infoLast : (Tryz.prog.info? 111).map (fun i => (i.zero, i.size, i.bytes)) = some (some (.agg #[.int .i64 0, .int .i64 0, .int .i64 0, .int .i64 0]), 4, 32) := by kernel_rfl

set_option maxRecDepth 100000 in
set_option maxHeartbeats 1000000 in
theorem toLastS (a : Option Addr) (cap : Nat) (l : List DLast) (w : World) (hs : Rdb.sz l ≤ 2097152) {fr : Bool} {lo : Nat} (hc : Rows fr lo w a l) :
    Calls Tryz.prog 39 #[.slice a l.length cap] w (SlC l w) := by
  have HL := Lib.hid (fun k (h : k < l.length) => get_lt h)
  have hl : l.length ≤ 2097152 := Nat.le_trans (sz_len l) hs
  have SM := Lib.hid (fun k x (h : l[k]? = some x) => Nat.le_trans (sz_mem h) hs)
  obtain ⟨n, hn⟩ : ∃ n, n = l.length := ⟨_, rfl⟩
  have FIN : ∀ e w', (e = .returned (.slice (some ⟨w.heap.size, 0, none⟩) n n) ∧ RndL w w' w.heap.size n n l) → SlC l w e w' := by
    rintro e w' ⟨h, R⟩; rw [hn] at h; exact ⟨_, h, R.done hn, R.new, R.lt, R.free, R.below⟩
  rw [← hn] at hl HL ⊢
  have HF := Lib.hid FIN
  clear hn FIN hs
  obtain ⟨i0, hi, hz0, hz1, hz2⟩ := info_parts infoLast
  go_enter Tryz.func39, Tryz.ntmps39
  go_wp2_with (at_make; refine wpList_make_full _ rfl _ _ 37 rfl w.heap.size 111 i0 (.agg #[.int .i64 0, .int .i64 0, .int .i64 0, .int .i64 0]) 4 Tryz.underlying37 hi hz0 hz1 .i64 .i64 n n n rfl rfl rfl rfl (by rw [hz2]; omega) (by unfold maxLen; omega) (Nat.le_refl _) ?_; intro w1 hown1 hgrow1)
  have R1 : RndL w w1 w.heap.size n 0 l := RndL.made hown1 l ((Below.refl _ _).grown hgrow1 (Nat.le_refl _) (by intro k hk; cases hk))
  clear hown1 hgrow1
  go_loopw [4] (fun i wr => ∃ k : Nat, k ≤ n ∧ i = .int .i64 k ∧ RndL w wr w.heap.size n k l) (fun i _ => n - (intOf i).toNat)
  case atStart => exact ⟨0, by omega, rfl, R1⟩
  case round =>
    obtain ⟨k, hk, rfl, R⟩ := hrel
    clear R1
    by_cases hlt : k < n
    · obtain ⟨x, hx⟩ := HL.out k hlt
      obtain ⟨b, off, cs, rfl, -, hB, hr, hcc⟩ := (hc.below R.below).at' hx
      have T := toLast x wr (SM.out _ _ hx) hr
      obtain ⟨rfl, f0_0, f0_1, f0_2, f0_3⟩ := shape_Last hr
      have c0 : wr.cell? ⟨b, off + k * 4, none⟩ = some (.int .i64 x.client) := hcc 0 _ rfl
      have c1 : wr.cell? ⟨b, off + k * 4 + 1, none⟩ = some (.int .i64 x.no) := hcc 1 _ rfl
      have c2 : wr.cell? ⟨b, off + k * 4 + 2, none⟩ = some (.int .i64 x.ver.epoch) := hcc 2 _ rfl
      have c3 : wr.cell? ⟨b, off + k * 4 + 3, none⟩ = some (.int .i64 x.ver.seq) := hcc 3 _ rfl
      have T := Lib.hid T
      have RH := Lib.hid R
      have HX := Lib.hid hx
      clear R hx hcc hr hc 
      go_wp2_with fail
      refine T.out.mono ?_
      rintro e w2 ⟨cs2, rfl, r2, b2⟩
      have R2 := RH.out.later b2
      have PUT := R2.put hlt HX.out (Rdb.weak (lo' := w.heap.size + 1) r2 (by have := RH.out.lt; omega) id)
      obtain ⟨rfl, f1_0, f1_1, f1_2, f1_3⟩ := shape_Last r2
      obtain ⟨u0, d0⟩ := R2.there (k * 4) (by show _ < n * 4; omega)
      have z0 := R2.free (k * 4)
      obtain ⟨u1, d1⟩ := R2.there (k * 4 + 1) (by show _ < n * 4; omega)
      have z1 := R2.free (k * 4 + 1)
      obtain ⟨u2, d2⟩ := R2.there (k * 4 + 2) (by show _ < n * 4; omega)
      have z2 := R2.free (k * 4 + 2)
      obtain ⟨u3, d3⟩ := R2.there (k * 4 + 3) (by show _ < n * 4; omega)
      have z3 := R2.free (k * 4 + 3)
      have R3 : RndL w (((((w2).setCell ⟨w.heap.size, k * 4, none⟩ (.int .i64 x.client)).setCell ⟨w.heap.size, k * 4 + 1, none⟩ (.int .i64 x.no)).setCell ⟨w.heap.size, k * 4 + 2, none⟩ (.int .i64 x.ver.epoch)).setCell ⟨w.heap.size, k * 4 + 3, none⟩ (.int .i64 x.ver.seq)) w.heap.size n (k + 1) l := PUT
      have R3 := Lib.hid R3
      clear R2 RH b2 r2 PUT c0 c1 c2 c3 
      go_wp2
      go_roundw
      case rel => exact ⟨k + 1, by omega, by go_num, R3.out⟩
      case measure => simp [intOf]; omega
    · obtain rfl : k = n := by omega
      have F := Lib.hid (HF.out _ _ ⟨rfl, R⟩)
      clear R hc
      go_wp2
      go_ret
      exact F.out

set_option maxRecDepth 100000 in
set_option maxHeartbeats 1000000 in
theorem eqLastS (a b : Option Addr) (cap1 cap2 : Nat) (l : List DLast) (w : World) (hs : Rdb.sz l ≤ 2097152) {fr fr2 : Bool} {lo lo2 : Nat} (ha : Rows fr lo w a l) (hb : Rows fr2 lo2 w b l) :
    Calls Tryz.prog 52 #[.slice a l.length cap1, .slice b l.length cap2] w (TrueW w) := by
  have HL := Lib.hid (fun k (h : k < l.length) => get_lt h)
  have hl : l.length ≤ 2097152 := Nat.le_trans (sz_len l) hs
  have SM := Lib.hid (fun k x (h : l[k]? = some x) => Nat.le_trans (sz_mem h) hs)
  obtain ⟨n, hn⟩ : ∃ n, n = l.length := ⟨_, rfl⟩
  rw [← hn] at hl HL ⊢
  clear hn hs
  go_enter Tryz.func52, Tryz.ntmps52
  go_wp2
  go_loopw [5] (fun i wr => ∃ k : Nat, k ≤ n ∧ i = .int .i64 k ∧ Below w.heap.size w wr) (fun i _ => n - (intOf i).toNat)
  case atStart => exact ⟨0, by omega, rfl, Below.refl _ _⟩
  case round =>
    obtain ⟨k, hk, rfl, hw⟩ := hrel
    by_cases hlt : k < n
    · obtain ⟨x, hx⟩ := HL.out k hlt
      obtain ⟨b1, o1, cs1, rfl, -, hB1, hr1, hc1⟩ := (ha.below hw).at' hx
      obtain ⟨b2, o2, cs2, rfl, -, hB2, hr2, hc2⟩ := (hb.below hw).at' hx
      have T := fun w' (y : Below wr.heap.size wr w') => eqLast x w' (SM.out _ _ hx) (Rdb.below hr1 y) (Rdb.below hr2 y)
      obtain ⟨rfl, f0_0, f0_1, f0_2, f0_3⟩ := shape_Last hr1
      obtain ⟨rfl, f1_0, f1_1, f1_2, f1_3⟩ := shape_Last hr2
      have c0 : wr.cell? ⟨b1, o1 + k * 4, none⟩ = some (.int .i64 x.client) := hc1 0 _ rfl
      have d0 : wr.cell? ⟨b2, o2 + k * 4, none⟩ = some (.int .i64 x.client) := hc2 0 _ rfl
      have c1 : wr.cell? ⟨b1, o1 + k * 4 + 1, none⟩ = some (.int .i64 x.no) := hc1 1 _ rfl
      have d1 : wr.cell? ⟨b2, o2 + k * 4 + 1, none⟩ = some (.int .i64 x.no) := hc2 1 _ rfl
      have c2 : wr.cell? ⟨b1, o1 + k * 4 + 2, none⟩ = some (.int .i64 x.ver.epoch) := hc1 2 _ rfl
      have d2 : wr.cell? ⟨b2, o2 + k * 4 + 2, none⟩ = some (.int .i64 x.ver.epoch) := hc2 2 _ rfl
      have c3 : wr.cell? ⟨b1, o1 + k * 4 + 3, none⟩ = some (.int .i64 x.ver.seq) := hc1 3 _ rfl
      have d3 : wr.cell? ⟨b2, o2 + k * 4 + 3, none⟩ = some (.int .i64 x.ver.seq) := hc2 3 _ rfl
      have T := Lib.hid T
      have HW := Lib.hid hw
      clear hw hx hc1 hc2 hr1 hr2 ha hb 
      go_wp2
      go_region_with (go_at_call 100; refine (T.out _ (undrewX (Below.refl _ _))).mono ?_; rintro e w2 ⟨rfl, b2⟩; have B2 := Lib.hid (HW.out.trans ((undrewX b2).mono HW.out.size)))
      all_goals
        go_wp2
        go_roundw
        case rel => exact ⟨k + 1, by omega, by go_num, B2.out⟩
        case measure => simp [intOf]; omega
    · obtain rfl : k = n := by omega
      have HW := Lib.hid hw
      clear hw ha hb
      go_wp2
      go_ret
      exact ⟨rfl, HW.out⟩

end Go.Proofs.YtbckdfoapmjilaaGreatDoor.Rd
