/-
  Data of the type Head: its reading, and the laws' helpers on it (written by tools/gen/data.py).
-/
import Derived.Test.YtbckdfoapmjilaaGreatDoorDVer
namespace Go.Proofs.YtbckdfoapmjilaaGreatDoor.Rd
open Go.RowKit Go.ChangeShapes Go.WideShapes
open Go.Proofs.YtbckdfoapmjilaaGreatDoor.Sg (BxN)
set_option linter.unusedVariables false
set_option linter.unusedSimpArgs false

/-- Head. -/
structure DHead where
  name : ByteArray
  ver : DVer
  size : Int
  sum : Int
instance : Inhabited DHead := ⟨⟨ByteArray.empty, default, 0, 0⟩⟩
instance : Rdb DHead where
  size := 5
  sz := fun d => Rdb.sz d.name
  rd := fun fr lo w cs d => cs.length = 5 ∧ Rdb.rd fr lo w ((cs.drop 0).take 1) d.name ∧ Rdb.rd fr lo w ((cs.drop 1).take 2) d.ver ∧ Rdb.rd fr lo w ((cs.drop 3).take 1) d.size ∧ Rdb.rd fr lo w ((cs.drop 4).take 1) d.sum
  len := fun h => h.1
  below := fun ⟨e, h0, h1, h2, h3⟩ b => ⟨e, Rdb.below h0 b, Rdb.below h1 b, Rdb.below h2 b, Rdb.below h3 b⟩
  far := fun ⟨e, h0, h1, h2, h3⟩ b => ⟨e, Rdb.far h0 b, Rdb.far h1 b, Rdb.far h2 b, Rdb.far h3 b⟩
  weak := fun ⟨e, h0, h1, h2, h3⟩ b c => ⟨e, Rdb.weak h0 b c, Rdb.weak h1 b c, Rdb.weak h2 b c, Rdb.weak h3 b c⟩
instance : Mkb DHead where
  swap := by
    rintro fr lo w cs d c v v' ⟨e, h0, h1, h2, h3⟩ hv s
    obtain ⟨d0, z0, r0⟩ := Mkb.field h0 hv s
    obtain ⟨d1, z1, r1⟩ := Mkb.field h1 hv s
    obtain ⟨d2, z2, r2⟩ := Mkb.field h2 hv s
    obtain ⟨d3, z3, r3⟩ := Mkb.field h3 hv s
    exact ⟨⟨d0, d1, d2, d3⟩, (by show Rdb.sz d0 = Rdb.sz d.name; omega), by rw [List.length_set]; exact e, r0, r1, r2, r3⟩
  stir := by
    rintro fr lo w cs d p v v' ⟨e, h0, h1, h2, h3⟩ hp s
    obtain ⟨d0, z0, r0⟩ := Mkb.stir h0 hp s
    obtain ⟨d1, z1, r1⟩ := Mkb.stir h1 hp s
    obtain ⟨d2, z2, r2⟩ := Mkb.stir h2 hp s
    obtain ⟨d3, z3, r3⟩ := Mkb.stir h3 hp s
    exact ⟨⟨d0, d1, d2, d3⟩, (by show Rdb.sz d0 = Rdb.sz d.name; omega), e, r0, r1, r2, r3⟩
  move := fun ⟨e, h0, h1, h2, h3⟩ sz hm => ⟨e, Mkb.move h0 sz hm, Mkb.move h1 sz hm, Mkb.move h2 sz hm, Mkb.move h3 sz hm⟩
theorem shape_Head {fr : Bool} {lo : Nat} {w : World} {cs : List Value} {d : DHead} (h : Rdb.rd fr lo w cs d) : cs = [.string d.name, .int .i64 d.ver.epoch, .int .i64 d.ver.seq, .int .i64 d.size, .int .i64 d.sum] ∧ d.name.size ≤ 9223372036854775807 ∧ (Lit.int .i64 d.ver.epoch).wf = true ∧ (Lit.int .i64 d.ver.seq).wf = true ∧ (Lit.int .i64 d.size).wf = true ∧ (Lit.int .i64 d.sum).wf = true := by
  obtain ⟨e, h0, h1, h2, h3⟩ := h
  match cs, e with
  | [x0, x1, x2, x3, x4], _ =>
    replace h0 : Rdb.rd fr lo w [x0] d.name := h0
    obtain ⟨e0, f0⟩ := h0
    obtain rfl : x0 = .string d.name := by simpa using e0
    replace h1 : Rdb.rd fr lo w [x1, x2] d.ver := h1
    obtain ⟨q1, f1, f2⟩ := shape_Ver h1
    simp only [List.cons.injEq, and_true] at q1
    obtain ⟨rfl, rfl⟩ := q1
    replace h2 : Rdb.rd fr lo w [x3] d.size := h2
    obtain ⟨e3, f3⟩ := h2
    obtain rfl : x3 = .int .i64 d.size := by simpa using e3
    replace h3 : Rdb.rd fr lo w [x4] d.sum := h3
    obtain ⟨e4, f4⟩ := h3
    obtain rfl : x4 = .int .i64 d.sum := by simpa using e4
    exact ⟨rfl, f0, f1, f2, f3, f4⟩
theorem mk_Head {fr : Bool} {lo : Nat} {w : World} {d : DHead}  (f0 : d.name.size ≤ 9223372036854775807) (f1 : (Lit.int .i64 d.ver.epoch).wf = true) (f2 : (Lit.int .i64 d.ver.seq).wf = true) (f3 : (Lit.int .i64 d.size).wf = true) (f4 : (Lit.int .i64 d.sum).wf = true) : Rdb.rd fr lo w [.string d.name, .int .i64 d.ver.epoch, .int .i64 d.ver.seq, .int .i64 d.size, .int .i64 d.sum] d :=
  ⟨rfl, ⟨rfl, f0⟩, ⟨rfl, ⟨rfl, f1⟩, ⟨rfl, f2⟩⟩, ⟨rfl, f3⟩, ⟨rfl, f4⟩⟩
theorem opens_Head {P : Program} {t : TypeId} {f0 f1 f2 f3 : Field} (hu : P.underlying t = some (.struct #[f0, f1, f2, f3])) (hC : P.cellsOf t = 5) (off : f0.offset = 0 ∧ f1.offset = 1 ∧ f2.offset = 3 ∧ f3.offset = 4) (h0 : Opens P f0.type ByteArray) (h1 : Opens P f1.type DVer) (h2 : Opens P f2.type Int) (h3 : Opens P f3.type Int) : Opens P t DHead := by
  obtain ⟨o0, o1, o2, o3⟩ := off
  refine ⟨hC, fun enc w base spare held fuel cs x h => ?_⟩
  obtain ⟨xs, n, _, _, hl, hlen, hg⟩ := DataW.trod_struct hu h
  match xs, hlen with
  | [y0, y1, y2, y3], _ =>
    have t0 := hg 0 f0 rfl
    rw [o0, h0.1] at t0
    obtain ⟨d0, r0⟩ := h0.2 _ _ _ _ _ _ _ y0 t0
    have t1 := hg 1 f1 rfl
    rw [o1, h1.1] at t1
    obtain ⟨d1, r1⟩ := h1.2 _ _ _ _ _ _ _ y1 t1
    have t2 := hg 2 f2 rfl
    rw [o2, h2.1] at t2
    obtain ⟨d2, r2⟩ := h2.2 _ _ _ _ _ _ _ y2 t2
    have t3 := hg 3 f3 rfl
    rw [o3, h3.1] at t3
    obtain ⟨d3, r3⟩ := h3.2 _ _ _ _ _ _ _ y3 t3
    exact ⟨⟨d0, d1, d2, d3⟩, hl.trans hC, r0, r1, r2, r3⟩

set_option maxRecDepth 100000 in
set_option maxHeartbeats 1000000 in
theorem szHead {cs : List Value} {fr : Bool} {lo : Nat} (d : DHead) (left : Int) (l0 : 0 ≤ left) (l1 : left ≤ 2097152) (w : World) (h : Rdb.rd fr lo w cs d) : Calls Tryz.prog 62 #[.agg cs.toArray, .int .i64 left] w (SzB left (Rdb.sz d) w) := by
  obtain ⟨rfl, f0_0, f0_1, f0_2, f0_3, f0_4⟩ := shape_Head h
  have E : Rdb.sz d = d.name.size := rfl
  rw [E]
  clear E
  unfold SzB
  generalize d.name = s at *
  by_cases q : (s.size : Int) ≤ left
  · rw [szI_yes (by omega)]
    go_enter Tryz.func62, Tryz.ntmps62
    go_wp2
    go_ret
    refine ⟨rfl, ?_⟩
    repeat (first | exact Below.refl _ _ | refine Below.alloc ?_ (by simp <;> omega) _)
  · rw [szI_no (by omega)]
    go_enter Tryz.func62, Tryz.ntmps62
    go_wp2
    go_ret
    refine ⟨rfl, ?_⟩
    repeat (first | exact Below.refl _ _ | refine Below.alloc ?_ (by simp <;> omega) _)

set_option maxRecDepth 100000 in
set_option maxHeartbeats 1000000 in
theorem toHead {cs : List Value} {fr : Bool} {lo : Nat} (d : DHead) (w : World) (hs : Rdb.sz d ≤ 2097152) (h : Rdb.rd fr lo w cs d) : Calls Tryz.prog 74 #[.agg cs.toArray] w (StC d w) := by
  obtain ⟨rfl, f0_0, f0_1, f0_2, f0_3, f0_4⟩ := shape_Head h
  go_enter Tryz.func74, Tryz.ntmps74
  go_wp2
  refine bodyPost_ret (v := .agg #[.string d.name, .int .i64 d.ver.epoch, .int .i64 d.ver.seq, .int .i64 d.size, .int .i64 d.sum]) (by simp [results, Tryz.results74, go_sem]) rfl ⟨_, rfl, mk_Head f0_0 f0_1 f0_2 f0_3 f0_4, ?_⟩
  repeat (first | exact Below.refl _ _ | refine Below.alloc ?_ (by simp <;> omega) _)

set_option maxRecDepth 100000 in
set_option maxHeartbeats 1000000 in
theorem eqHead {cs ds : List Value} {fr fr2 : Bool} {lo lo2 : Nat} (d : DHead) (w : World) (hs : Rdb.sz d ≤ 2097152) (h : Rdb.rd fr lo w cs d) (k : Rdb.rd fr2 lo2 w ds d) : Calls Tryz.prog 99 #[.agg cs.toArray, .agg ds.toArray] w (TrueW w) := by
  obtain ⟨rfl, f0_0, f0_1, f0_2, f0_3, f0_4⟩ := shape_Head h
  obtain ⟨rfl, f1_0, f1_1, f1_2, f1_3, f1_4⟩ := shape_Head k
  go_enter Tryz.func99, Tryz.ntmps99
  go_wp2
  go_ret
  refine ⟨rfl, ?_⟩
  repeat (first | exact Below.refl _ _ | refine Below.alloc ?_ (by simp <;> omega) _)


set_option maxRecDepth 100000 in
set_option maxHeartbeats 1000000 in
theorem szHeadS (a : Option Addr) (cap : Nat) (l : List DHead) (left : Int) (l0 : 0 ≤ left) (l1 : left ≤ 2097152) (w : World) {fr : Bool} {lo : Nat} (hl : l.length ≤ 9223372036854775807) (hc : Rows fr lo w a l) :
    Calls Tryz.prog 24 #[.slice a l.length cap, .int .i64 left] w (SzB left (Rdb.sz l) w) := by
  have T0 := Lib.hid (tot_zero l)
  have TA := Lib.hid (tot_all l)
  have TM := Lib.hid (fun k => tot_le l k)
  have HL := Lib.hid (fun k (h : k < l.length) => get_lt h)
  have TN := Lib.hid (sz_len l)
  obtain ⟨n, hn⟩ : ∃ n, n = l.length := ⟨_, rfl⟩
  rw [← hn] at T0 TA HL TN hl ⊢
  clear hn
  unfold SzB
  by_cases h0 : (n : Int) ≤ left
  · go_enter Tryz.func24, Tryz.ntmps24
    go_wp2
    go_loopw [1, 5] (fun x i wr => ∃ k : Nat, k ≤ n ∧ i = .int .i64 k ∧ (tot l k : Int) ≤ left ∧ x = .int .i64 (left - tot l k) ∧ Below w.heap.size w wr) (fun _ i _ => n - (intOf i).toNat)
    case atStart => exact ⟨0, by omega, rfl, by rw [T0.out]; exact h0, by rw [T0.out], Below.refl _ _⟩
    case round =>
      obtain ⟨k, hk, rfl, hle, rfl, hw⟩ := hrel
      have HW := Lib.hid hw
      by_cases hlt : k < n
      · obtain ⟨x, hx⟩ := HL.out k hlt
        obtain ⟨b, off, cs, rfl, -, hB, hr, hcc⟩ := (hc.below hw).at' hx
        have TS := Lib.hid (tot_succ hx)
        have TMk := Lib.hid (TM.out (k + 1))
        have Z := szHead x (left - tot l k) (by omega) (by omega) wr hr
        obtain ⟨rfl, f0_0, f0_1, f0_2, f0_3, f0_4⟩ := shape_Head hr
        have c0 : wr.cell? ⟨b, off + k * 5, none⟩ = some (.string x.name) := hcc 0 _ rfl
        have c1 : wr.cell? ⟨b, off + k * 5 + 1, none⟩ = some (.int .i64 x.ver.epoch) := hcc 1 _ rfl
        have c2 : wr.cell? ⟨b, off + k * 5 + 2, none⟩ = some (.int .i64 x.ver.seq) := hcc 2 _ rfl
        have c3 : wr.cell? ⟨b, off + k * 5 + 3, none⟩ = some (.int .i64 x.size) := hcc 3 _ rfl
        have c4 : wr.cell? ⟨b, off + k * 5 + 4, none⟩ = some (.int .i64 x.sum) := hcc 4 _ rfl
        have C0 := Lib.hid hc
        clear hc hcc hr hw hx 
        unfold SzB at Z
        by_cases hq : ((tot l k + Rdb.sz x : Nat) : Int) ≤ left
        · rw [szI_yes (by omega), show left - (tot l k : Int) - ((Rdb.sz x : Nat) : Int) = left - ((tot l k + Rdb.sz x : Nat) : Int) by omega] at Z
          have Z := Lib.hid Z
          generalize Rdb.sz x = s at *
          go_wp2_with fail
          refine Z.out.mono ?_
          rintro e w2 ⟨rfl, b2⟩
          have B2 := Lib.hid (chainX w HW.out b2)
          clear b2
          go_wp2
          go_roundw
          case rel => exact ⟨k + 1, by omega, by go_num, by rw [TS.out]; exact hq, by rw [TS.out]; go_num, B2.out⟩
          case measure => simp [intOf]; omega
        · rw [szI_no (by omega)] at Z
          have Z := Lib.hid Z
          have R : szI left (Rdb.sz l) = -1 := szI_no (by have := TMk.out; have := TS.out; omega)
          have R := Lib.hid R
          go_wp2_with fail
          refine Z.out.mono ?_
          rintro e w2 ⟨rfl, b2⟩
          have B2 := Lib.hid (chainX w HW.out b2)
          clear b2
          go_wp2
          go_ret
          exact ⟨by rw [R.out]; rfl, B2.out⟩
      · obtain rfl : k = n := by omega
        have R : szI left (Rdb.sz l) = left - tot l k := by rw [← TA.out]; exact szI_yes hle
        have R := Lib.hid R
        clear hc hw
        go_wp2
        go_ret
        exact ⟨by rw [R.out]; rfl, HW.out⟩
  · have R : szI left (Rdb.sz l) = -1 := szI_no (by have := TN.out; omega)
    rw [R]
    clear R hc
    go_enter Tryz.func24, Tryz.ntmps24
    go_wp2
    go_ret
    exact ⟨rfl, Below.refl _ _⟩

theorem infoHead : (Tryz.prog.info? 107).map (fun i => (i.zero, i.size, i.bytes)) = some (some (.agg #[.string ByteArray.empty, .int .i64 0, .int .i64 0, .int .i64 0, .int .i64 0]), 5, 48) := by kernel_rfl

set_option maxRecDepth 100000 in
set_option maxHeartbeats 1000000 in
theorem toHeadS (a : Option Addr) (cap : Nat) (l : List DHead) (w : World) (hs : Rdb.sz l ≤ 2097152) {fr : Bool} {lo : Nat} (hc : Rows fr lo w a l) :
    Calls Tryz.prog 38 #[.slice a l.length cap] w (SlC l w) := by
  have HL := Lib.hid (fun k (h : k < l.length) => get_lt h)
  have hl : l.length ≤ 2097152 := Nat.le_trans (sz_len l) hs
  have SM := Lib.hid (fun k x (h : l[k]? = some x) => Nat.le_trans (sz_mem h) hs)
  obtain ⟨n, hn⟩ : ∃ n, n = l.length := ⟨_, rfl⟩
  have FIN : ∀ e w', (e = .returned (.slice (some ⟨w.heap.size, 0, none⟩) n n) ∧ RndL w w' w.heap.size n n l) → SlC l w e w' := by
    rintro e w' ⟨h, R⟩; rw [hn] at h; exact ⟨_, h, R.done hn, R.new, R.lt, R.free, R.below⟩
  rw [← hn] at hl HL ⊢
  have HF := Lib.hid FIN
  clear hn FIN hs
  obtain ⟨i0, hi, hz0, hz1, hz2⟩ := info_parts infoHead
  go_enter Tryz.func38, Tryz.ntmps38
  go_wp2_with (at_make; refine wpList_make_full _ rfl _ _ 36 rfl w.heap.size 107 i0 (.agg #[.string ByteArray.empty, .int .i64 0, .int .i64 0, .int .i64 0, .int .i64 0]) 5 Tryz.underlying36 hi hz0 hz1 .i64 .i64 n n n rfl rfl rfl rfl (by rw [hz2]; omega) (by unfold maxLen; omega) (Nat.le_refl _) ?_; intro w1 hown1 hgrow1)
  have R1 : RndL w w1 w.heap.size n 0 l := RndL.made hown1 l ((Below.refl _ _).grown hgrow1 (Nat.le_refl _) (by intro k hk; cases hk))
  clear hown1 hgrow1
  go_loopw [4] (fun i wr => ∃ k : Nat, k ≤ n ∧ i = .int .i64 k ∧ RndL w wr w.heap.size n k l) (fun i _ => n - (intOf i).toNat)
  case atStart => exact ⟨0, by omega, rfl, R1⟩
  case round =>
    obtain ⟨k, hk, rfl, R⟩ := hrel
    clear R1
    by_cases hlt : k < n
    · obtain ⟨x, hx⟩ := HL.out k hlt
      obtain ⟨b, off, cs, rfl, -, hB, hr, hcc⟩ := (hc.below R.below).at' hx
      have T := toHead x wr (SM.out _ _ hx) hr
      obtain ⟨rfl, f0_0, f0_1, f0_2, f0_3, f0_4⟩ := shape_Head hr
      have c0 : wr.cell? ⟨b, off + k * 5, none⟩ = some (.string x.name) := hcc 0 _ rfl
      have c1 : wr.cell? ⟨b, off + k * 5 + 1, none⟩ = some (.int .i64 x.ver.epoch) := hcc 1 _ rfl
      have c2 : wr.cell? ⟨b, off + k * 5 + 2, none⟩ = some (.int .i64 x.ver.seq) := hcc 2 _ rfl
      have c3 : wr.cell? ⟨b, off + k * 5 + 3, none⟩ = some (.int .i64 x.size) := hcc 3 _ rfl
      have c4 : wr.cell? ⟨b, off + k * 5 + 4, none⟩ = some (.int .i64 x.sum) := hcc 4 _ rfl
      have T := Lib.hid T
      have RH := Lib.hid R
      have HX := Lib.hid hx
      clear R hx hcc hr hc 
      go_wp2_with fail
      refine T.out.mono ?_
      rintro e w2 ⟨cs2, rfl, r2, b2⟩
      have R2 := RH.out.later b2
      have PUT := R2.put hlt HX.out (Rdb.weak (lo' := w.heap.size + 1) r2 (by have := RH.out.lt; omega) id)
      obtain ⟨rfl, f1_0, f1_1, f1_2, f1_3, f1_4⟩ := shape_Head r2
      obtain ⟨u0, d0⟩ := R2.there (k * 5) (by show _ < n * 5; omega)
      have z0 := R2.free (k * 5)
      obtain ⟨u1, d1⟩ := R2.there (k * 5 + 1) (by show _ < n * 5; omega)
      have z1 := R2.free (k * 5 + 1)
      obtain ⟨u2, d2⟩ := R2.there (k * 5 + 2) (by show _ < n * 5; omega)
      have z2 := R2.free (k * 5 + 2)
      obtain ⟨u3, d3⟩ := R2.there (k * 5 + 3) (by show _ < n * 5; omega)
      have z3 := R2.free (k * 5 + 3)
      obtain ⟨u4, d4⟩ := R2.there (k * 5 + 4) (by show _ < n * 5; omega)
      have z4 := R2.free (k * 5 + 4)
      have R3 : RndL w ((((((w2).setCell ⟨w.heap.size, k * 5, none⟩ (.string x.name)).setCell ⟨w.heap.size, k * 5 + 1, none⟩ (.int .i64 x.ver.epoch)).setCell ⟨w.heap.size, k * 5 + 2, none⟩ (.int .i64 x.ver.seq)).setCell ⟨w.heap.size, k * 5 + 3, none⟩ (.int .i64 x.size)).setCell ⟨w.heap.size, k * 5 + 4, none⟩ (.int .i64 x.sum)) w.heap.size n (k + 1) l := PUT
      have R3 := Lib.hid R3
      clear R2 RH b2 r2 PUT c0 c1 c2 c3 c4 
      go_wp2
      go_roundw
      case rel => exact ⟨k + 1, by omega, by go_num, R3.out⟩
      case measure => simp [intOf]; omega
    · obtain rfl : k = n := by omega
      have F := Lib.hid (HF.out _ _ ⟨rfl, R⟩)
      clear R hc
      go_wp2
      go_ret
      exact F.out

set_option maxRecDepth 100000 in
set_option maxHeartbeats 1000000 in
theorem eqHeadS (a b : Option Addr) (cap1 cap2 : Nat) (l : List DHead) (w : World) (hs : Rdb.sz l ≤ 2097152) {fr fr2 : Bool} {lo lo2 : Nat} (ha : Rows fr lo w a l) (hb : Rows fr2 lo2 w b l) :
    Calls Tryz.prog 51 #[.slice a l.length cap1, .slice b l.length cap2] w (TrueW w) := by
  have HL := Lib.hid (fun k (h : k < l.length) => get_lt h)
  have hl : l.length ≤ 2097152 := Nat.le_trans (sz_len l) hs
  have SM := Lib.hid (fun k x (h : l[k]? = some x) => Nat.le_trans (sz_mem h) hs)
  obtain ⟨n, hn⟩ : ∃ n, n = l.length := ⟨_, rfl⟩
  rw [← hn] at hl HL ⊢
  clear hn hs
  go_enter Tryz.func51, Tryz.ntmps51
  go_wp2
  go_loopw [5] (fun i wr => ∃ k : Nat, k ≤ n ∧ i = .int .i64 k ∧ Below w.heap.size w wr) (fun i _ => n - (intOf i).toNat)
  case atStart => exact ⟨0, by omega, rfl, Below.refl _ _⟩
  case round =>
    obtain ⟨k, hk, rfl, hw⟩ := hrel
    by_cases hlt : k < n
    · obtain ⟨x, hx⟩ := HL.out k hlt
      obtain ⟨b1, o1, cs1, rfl, -, hB1, hr1, hc1⟩ := (ha.below hw).at' hx
      obtain ⟨b2, o2, cs2, rfl, -, hB2, hr2, hc2⟩ := (hb.below hw).at' hx
      have T := fun w' (y : Below wr.heap.size wr w') => eqHead x w' (SM.out _ _ hx) (Rdb.below hr1 y) (Rdb.below hr2 y)
      obtain ⟨rfl, f0_0, f0_1, f0_2, f0_3, f0_4⟩ := shape_Head hr1
      obtain ⟨rfl, f1_0, f1_1, f1_2, f1_3, f1_4⟩ := shape_Head hr2
      have c0 : wr.cell? ⟨b1, o1 + k * 5, none⟩ = some (.string x.name) := hc1 0 _ rfl
      have d0 : wr.cell? ⟨b2, o2 + k * 5, none⟩ = some (.string x.name) := hc2 0 _ rfl
      have c1 : wr.cell? ⟨b1, o1 + k * 5 + 1, none⟩ = some (.int .i64 x.ver.epoch) := hc1 1 _ rfl
      have d1 : wr.cell? ⟨b2, o2 + k * 5 + 1, none⟩ = some (.int .i64 x.ver.epoch) := hc2 1 _ rfl
      have c2 : wr.cell? ⟨b1, o1 + k * 5 + 2, none⟩ = some (.int .i64 x.ver.seq) := hc1 2 _ rfl
      have d2 : wr.cell? ⟨b2, o2 + k * 5 + 2, none⟩ = some (.int .i64 x.ver.seq) := hc2 2 _ rfl
      have c3 : wr.cell? ⟨b1, o1 + k * 5 + 3, none⟩ = some (.int .i64 x.size) := hc1 3 _ rfl
      have d3 : wr.cell? ⟨b2, o2 + k * 5 + 3, none⟩ = some (.int .i64 x.size) := hc2 3 _ rfl
      have c4 : wr.cell? ⟨b1, o1 + k * 5 + 4, none⟩ = some (.int .i64 x.sum) := hc1 4 _ rfl
      have d4 : wr.cell? ⟨b2, o2 + k * 5 + 4, none⟩ = some (.int .i64 x.sum) := hc2 4 _ rfl
      have T := Lib.hid T
      have HW := Lib.hid hw
      clear hw hx hc1 hc2 hr1 hr2 ha hb 
      go_wp2
      go_region_with (go_at_call 99; refine (T.out _ (undrewX (Below.refl _ _))).mono ?_; rintro e w2 ⟨rfl, b2⟩; have B2 := Lib.hid (HW.out.trans ((undrewX b2).mono HW.out.size)))
      all_goals
        go_wp2
        go_roundw
        case rel => exact ⟨k + 1, by omega, by go_num, B2.out⟩
        case measure => simp [intOf]; omega
    · obtain rfl : k = n := by omega
      have HW := Lib.hid hw
      clear hw ha hb
      go_wp2
      go_ret
      exact ⟨rfl, HW.out⟩

end Go.Proofs.YtbckdfoapmjilaaGreatDoor.Rd
