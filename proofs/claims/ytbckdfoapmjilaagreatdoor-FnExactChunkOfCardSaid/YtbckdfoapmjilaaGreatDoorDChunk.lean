/-
  Data of the type Chunk: its reading, and the laws' helpers on it (written by tools/gen/data.py).
-/
import Derived.Test.YtbckdfoapmjilaaGreatDoorDVer
namespace Go.Proofs.YtbckdfoapmjilaaGreatDoor.Rd
open Go.RowKit Go.ChangeShapes Go.WideShapes
open Go.Proofs.YtbckdfoapmjilaaGreatDoor.Sg (BxN)
set_option linter.unusedVariables false
set_option linter.unusedSimpArgs false

/-- Chunk. -/
structure DChunk where
  name : ByteArray
  ver : DVer
  pos : Int
  sum : Int
  bytes : ByteArray
instance : Inhabited DChunk := ⟨⟨ByteArray.empty, default, 0, 0, ByteArray.empty⟩⟩
instance : Rdb DChunk where
  size := 6
  sz := fun d => Rdb.sz d.name + Rdb.sz d.bytes
  rd := fun fr lo w cs d => cs.length = 6 ∧ Rdb.rd fr lo w ((cs.drop 0).take 1) d.name ∧ Rdb.rd fr lo w ((cs.drop 1).take 2) d.ver ∧ Rdb.rd fr lo w ((cs.drop 3).take 1) d.pos ∧ Rdb.rd fr lo w ((cs.drop 4).take 1) d.sum ∧ Rdb.rd fr lo w ((cs.drop 5).take 1) d.bytes
  len := fun h => h.1
  below := fun ⟨e, h0, h1, h2, h3, h4⟩ b => ⟨e, Rdb.below h0 b, Rdb.below h1 b, Rdb.below h2 b, Rdb.below h3 b, Rdb.below h4 b⟩
  far := fun ⟨e, h0, h1, h2, h3, h4⟩ b => ⟨e, Rdb.far h0 b, Rdb.far h1 b, Rdb.far h2 b, Rdb.far h3 b, Rdb.far h4 b⟩
  weak := fun ⟨e, h0, h1, h2, h3, h4⟩ b c => ⟨e, Rdb.weak h0 b c, Rdb.weak h1 b c, Rdb.weak h2 b c, Rdb.weak h3 b c, Rdb.weak h4 b c⟩
instance : Mkb DChunk where
  swap := by
    rintro fr lo w cs d c v v' ⟨e, h0, h1, h2, h3, h4⟩ hv s
    obtain ⟨d0, z0, r0⟩ := Mkb.field h0 hv s
    obtain ⟨d1, z1, r1⟩ := Mkb.field h1 hv s
    obtain ⟨d2, z2, r2⟩ := Mkb.field h2 hv s
    obtain ⟨d3, z3, r3⟩ := Mkb.field h3 hv s
    obtain ⟨d4, z4, r4⟩ := Mkb.field h4 hv s
    exact ⟨⟨d0, d1, d2, d3, d4⟩, (by show Rdb.sz d0 + Rdb.sz d4 = Rdb.sz d.name + Rdb.sz d.bytes; omega), by rw [List.length_set]; exact e, r0, r1, r2, r3, r4⟩
  stir := by
    rintro fr lo w cs d p v v' ⟨e, h0, h1, h2, h3, h4⟩ hp s
    obtain ⟨d0, z0, r0⟩ := Mkb.stir h0 hp s
    obtain ⟨d1, z1, r1⟩ := Mkb.stir h1 hp s
    obtain ⟨d2, z2, r2⟩ := Mkb.stir h2 hp s
    obtain ⟨d3, z3, r3⟩ := Mkb.stir h3 hp s
    obtain ⟨d4, z4, r4⟩ := Mkb.stir h4 hp s
    exact ⟨⟨d0, d1, d2, d3, d4⟩, (by show Rdb.sz d0 + Rdb.sz d4 = Rdb.sz d.name + Rdb.sz d.bytes; omega), e, r0, r1, r2, r3, r4⟩
  move := fun ⟨e, h0, h1, h2, h3, h4⟩ sz hm => ⟨e, Mkb.move h0 sz hm, Mkb.move h1 sz hm, Mkb.move h2 sz hm, Mkb.move h3 sz hm, Mkb.move h4 sz hm⟩
theorem shape_Chunk {fr : Bool} {lo : Nat} {w : World} {cs : List Value} {d : DChunk} (h : Rdb.rd fr lo w cs d) : cs = [.string d.name, .int .i64 d.ver.epoch, .int .i64 d.ver.seq, .int .i64 d.pos, .int .i64 d.sum, .string d.bytes] ∧ d.name.size ≤ 9223372036854775807 ∧ (Lit.int .i64 d.ver.epoch).wf = true ∧ (Lit.int .i64 d.ver.seq).wf = true ∧ (Lit.int .i64 d.pos).wf = true ∧ (Lit.int .i64 d.sum).wf = true ∧ d.bytes.size ≤ 9223372036854775807 := by
  obtain ⟨e, h0, h1, h2, h3, h4⟩ := h
  match cs, e with
  | [x0, x1, x2, x3, x4, x5], _ =>
    replace h0 : Rdb.rd fr lo w [x0] d.name := h0
    obtain ⟨e0, f0⟩ := h0
    obtain rfl : x0 = .string d.name := by simpa using e0
    replace h1 : Rdb.rd fr lo w [x1, x2] d.ver := h1
    obtain ⟨q1, f1, f2⟩ := shape_Ver h1
    simp only [List.cons.injEq, and_true] at q1
    obtain ⟨rfl, rfl⟩ := q1
    replace h2 : Rdb.rd fr lo w [x3] d.pos := h2
    obtain ⟨e3, f3⟩ := h2
    obtain rfl : x3 = .int .i64 d.pos := by simpa using e3
    replace h3 : Rdb.rd fr lo w [x4] d.sum := h3
    obtain ⟨e4, f4⟩ := h3
    obtain rfl : x4 = .int .i64 d.sum := by simpa using e4
    replace h4 : Rdb.rd fr lo w [x5] d.bytes := h4
    obtain ⟨e5, f5⟩ := h4
    obtain rfl : x5 = .string d.bytes := by simpa using e5
    exact ⟨rfl, f0, f1, f2, f3, f4, f5⟩
theorem mk_Chunk {fr : Bool} {lo : Nat} {w : World} {d : DChunk}  (f0 : d.name.size ≤ 9223372036854775807) (f1 : (Lit.int .i64 d.ver.epoch).wf = true) (f2 : (Lit.int .i64 d.ver.seq).wf = true) (f3 : (Lit.int .i64 d.pos).wf = true) (f4 : (Lit.int .i64 d.sum).wf = true) (f5 : d.bytes.size ≤ 9223372036854775807) : Rdb.rd fr lo w [.string d.name, .int .i64 d.ver.epoch, .int .i64 d.ver.seq, .int .i64 d.pos, .int .i64 d.sum, .string d.bytes] d :=
  ⟨rfl, ⟨rfl, f0⟩, ⟨rfl, ⟨rfl, f1⟩, ⟨rfl, f2⟩⟩, ⟨rfl, f3⟩, ⟨rfl, f4⟩, ⟨rfl, f5⟩⟩
theorem opens_Chunk {P : Program} {t : TypeId} {f0 f1 f2 f3 f4 : Field} (hu : P.underlying t = some (.struct #[f0, f1, f2, f3, f4])) (hC : P.cellsOf t = 6) (off : f0.offset = 0 ∧ f1.offset = 1 ∧ f2.offset = 3 ∧ f3.offset = 4 ∧ f4.offset = 5) (h0 : Opens P f0.type ByteArray) (h1 : Opens P f1.type DVer) (h2 : Opens P f2.type Int) (h3 : Opens P f3.type Int) (h4 : Opens P f4.type ByteArray) : Opens P t DChunk := by
  obtain ⟨o0, o1, o2, o3, o4⟩ := off
  refine ⟨hC, fun enc w base spare held fuel cs x h => ?_⟩
  obtain ⟨xs, n, _, _, hl, hlen, hg⟩ := DataW.trod_struct hu h
  match xs, hlen with
  | [y0, y1, y2, y3, y4], _ =>
    have t0 := hg 0 f0 rfl
    rw [o0, h0.1] at t0
    obtain ⟨d0, r0⟩ := h0.2 _ _ _ _ _ _ _ y0 t0
    have t1 := hg 1 f1 rfl
    rw [o1, h1.1] at t1
    obtain ⟨d1, r1⟩ := h1.2 _ _ _ _ _ _ _ y1 t1
    have t2 := hg 2 f2 rfl
    rw [o2, h2.1] at t2
    obtain ⟨d2, r2⟩ := h2.2 _ _ _ _ _ _ _ y2 t2
    have t3 := hg 3 f3 rfl
    rw [o3, h3.1] at t3
    obtain ⟨d3, r3⟩ := h3.2 _ _ _ _ _ _ _ y3 t3
    have t4 := hg 4 f4 rfl
    rw [o4, h4.1] at t4
    obtain ⟨d4, r4⟩ := h4.2 _ _ _ _ _ _ _ y4 t4
    exact ⟨⟨d0, d1, d2, d3, d4⟩, hl.trans hC, r0, r1, r2, r3, r4⟩

set_option maxRecDepth 100000 in
set_option maxHeartbeats 1000000 in
theorem szChunk {cs : List Value} {fr : Bool} {lo : Nat} (d : DChunk) (left : Int) (l0 : 0 ≤ left) (l1 : left ≤ 2097152) (w : World) (h : Rdb.rd fr lo w cs d) : Calls Tryz.prog 64 #[.agg cs.toArray, .int .i64 left] w (SzB left (Rdb.sz d) w) := by
  obtain ⟨rfl, f0_0, f0_1, f0_2, f0_3, f0_4, f0_5⟩ := shape_Chunk h
  have E : Rdb.sz d = d.name.size + d.bytes.size := rfl
  rw [E]
  clear E
  unfold SzB
  generalize d.name = z0 at *
  generalize d.bytes = z1 at *
  by_cases q0 : (z0.size : Int) ≤ left
  · skip
    by_cases q1 : (z0.size : Int) + (z1.size : Int) ≤ left
    · rw [szI_yes (by omega), show left - ((z0.size + z1.size : Nat) : Int) = left - (z0.size : Int) - (z1.size : Int) by omega]
      go_enter Tryz.func64, Tryz.ntmps64
      go_wp2
      go_ret
      refine ⟨rfl, ?_⟩
      repeat (first | exact Below.refl _ _ | refine Below.alloc ?_ (by simp <;> omega) _)
    · rw [szI_no (by omega)]
      go_enter Tryz.func64, Tryz.ntmps64
      go_wp2
      go_ret
      refine ⟨rfl, ?_⟩
      repeat (first | exact Below.refl _ _ | refine Below.alloc ?_ (by simp <;> omega) _)
  · rw [szI_no (by omega)]
    go_enter Tryz.func64, Tryz.ntmps64
    go_wp2
    go_ret
    refine ⟨rfl, ?_⟩
    repeat (first | exact Below.refl _ _ | refine Below.alloc ?_ (by simp <;> omega) _)

set_option maxRecDepth 100000 in
set_option maxHeartbeats 1000000 in
theorem toChunk {cs : List Value} {fr : Bool} {lo : Nat} (d : DChunk) (w : World) (hs : Rdb.sz d ≤ 2097152) (h : Rdb.rd fr lo w cs d) : Calls Tryz.prog 77 #[.agg cs.toArray] w (StC d w) := by
  obtain ⟨rfl, f0_0, f0_1, f0_2, f0_3, f0_4, f0_5⟩ := shape_Chunk h
  go_enter Tryz.func77, Tryz.ntmps77
  go_wp2
  refine bodyPost_ret (v := .agg #[.string d.name, .int .i64 d.ver.epoch, .int .i64 d.ver.seq, .int .i64 d.pos, .int .i64 d.sum, .string d.bytes]) (by simp [results, Tryz.results77, go_sem]) rfl ⟨_, rfl, mk_Chunk f0_0 f0_1 f0_2 f0_3 f0_4 f0_5, ?_⟩
  repeat (first | exact Below.refl _ _ | refine Below.alloc ?_ (by simp <;> omega) _)

set_option maxRecDepth 100000 in
set_option maxHeartbeats 1000000 in
theorem eqChunk {cs ds : List Value} {fr fr2 : Bool} {lo lo2 : Nat} (d : DChunk) (w : World) (hs : Rdb.sz d ≤ 2097152) (h : Rdb.rd fr lo w cs d) (k : Rdb.rd fr2 lo2 w ds d) : Calls Tryz.prog 18 #[.agg cs.toArray, .agg ds.toArray] w (TrueW w) := by
  obtain ⟨rfl, f0_0, f0_1, f0_2, f0_3, f0_4, f0_5⟩ := shape_Chunk h
  obtain ⟨rfl, f1_0, f1_1, f1_2, f1_3, f1_4, f1_5⟩ := shape_Chunk k
  go_enter Tryz.func18, Tryz.ntmps18
  go_wp2
  go_ret
  refine ⟨rfl, ?_⟩
  repeat (first | exact Below.refl _ _ | refine Below.alloc ?_ (by simp <;> omega) _)


set_option maxRecDepth 100000 in
set_option maxHeartbeats 1000000 in
theorem szChunkS (a : Option Addr) (cap : Nat) (l : List DChunk) (left : Int) (l0 : 0 ≤ left) (l1 : left ≤ 2097152) (w : World) {fr : Bool} {lo : Nat} (hl : l.length ≤ 9223372036854775807) (hc : Rows fr lo w a l) :
    Calls Tryz.prog 27 #[.slice a l.length cap, .int .i64 left] w (SzB left (Rdb.sz l) w) := by
  have T0 := Lib.hid (tot_zero l)
  have TA := Lib.hid (tot_all l)
  have TM := Lib.hid (fun k => tot_le l k)
  have HL := Lib.hid (fun k (h : k < l.length) => get_lt h)
  have TN := Lib.hid (sz_len l)
  obtain ⟨n, hn⟩ : ∃ n, n = l.length := ⟨_, rfl⟩
  rw [← hn] at T0 TA HL TN hl ⊢
  clear hn
  unfold SzB
  by_cases h0 : (n : Int) ≤ left
  · go_enter Tryz.func27, Tryz.ntmps27
    go_wp2
    go_loopw [1, 5] (fun x i wr => ∃ k : Nat, k ≤ n ∧ i = .int .i64 k ∧ (tot l k : Int) ≤ left ∧ x = .int .i64 (left - tot l k) ∧ Below w.heap.size w wr) (fun _ i _ => n - (intOf i).toNat)
    case atStart => exact ⟨0, by omega, rfl, by rw [T0.out]; exact h0, by rw [T0.out], Below.refl _ _⟩
    case round =>
      obtain ⟨k, hk, rfl, hle, rfl, hw⟩ := hrel
      have HW := Lib.hid hw
      by_cases hlt : k < n
      · obtain ⟨x, hx⟩ := HL.out k hlt
        obtain ⟨b, off, cs, rfl, -, hB, hr, hcc⟩ := (hc.below hw).at' hx
        have TS := Lib.hid (tot_succ hx)
        have TMk := Lib.hid (TM.out (k + 1))
        have Z := szChunk x (left - tot l k) (by omega) (by omega) wr hr
        obtain ⟨rfl, f0_0, f0_1, f0_2, f0_3, f0_4, f0_5⟩ := shape_Chunk hr
        have c0 : wr.cell? ⟨b, off + k * 6, none⟩ = some (.string x.name) := hcc 0 _ rfl
        have c1 : wr.cell? ⟨b, off + k * 6 + 1, none⟩ = some (.int .i64 x.ver.epoch) := hcc 1 _ rfl
        have c2 : wr.cell? ⟨b, off + k * 6 + 2, none⟩ = some (.int .i64 x.ver.seq) := hcc 2 _ rfl
        have c3 : wr.cell? ⟨b, off + k * 6 + 3, none⟩ = some (.int .i64 x.pos) := hcc 3 _ rfl
        have c4 : wr.cell? ⟨b, off + k * 6 + 4, none⟩ = some (.int .i64 x.sum) := hcc 4 _ rfl
        have c5 : wr.cell? ⟨b, off + k * 6 + 5, none⟩ = some (.string x.bytes) := hcc 5 _ rfl
        have C0 := Lib.hid hc
        clear hc hcc hr hw hx 
        unfold SzB at Z
        by_cases hq : ((tot l k + Rdb.sz x : Nat) : Int) ≤ left
        · rw [szI_yes (by omega), show left - (tot l k : Int) - ((Rdb.sz x : Nat) : Int) = left - ((tot l k + Rdb.sz x : Nat) : Int) by omega] at Z
          have Z := Lib.hid Z
          generalize Rdb.sz x = s at *
          go_wp2_with fail
          refine Z.out.mono ?_
          rintro e w2 ⟨rfl, b2⟩
          have B2 := Lib.hid (chainX w HW.out b2)
          clear b2
          go_wp2
          go_roundw
          case rel => exact ⟨k + 1, by omega, by go_num, by rw [TS.out]; exact hq, by rw [TS.out]; go_num, B2.out⟩
          case measure => simp [intOf]; omega
        · rw [szI_no (by omega)] at Z
          have Z := Lib.hid Z
          have R : szI left (Rdb.sz l) = -1 := szI_no (by have := TMk.out; have := TS.out; omega)
          have R := Lib.hid R
          go_wp2_with fail
          refine Z.out.mono ?_
          rintro e w2 ⟨rfl, b2⟩
          have B2 := Lib.hid (chainX w HW.out b2)
          clear b2
          go_wp2
          go_ret
          exact ⟨by rw [R.out]; rfl, B2.out⟩
      · obtain rfl : k = n := by omega
        have R : szI left (Rdb.sz l) = left - tot l k := by rw [← TA.out]; exact szI_yes hle
        have R := Lib.hid R
        clear hc hw
        go_wp2
        go_ret
        exact ⟨by rw [R.out]; rfl, HW.out⟩
  · have R : szI left (Rdb.sz l) = -1 := szI_no (by have := TN.out; omega)
    rw [R]
    clear R hc
    go_enter Tryz.func27, Tryz.ntmps27
    go_wp2
    go_ret
    exact ⟨rfl, Below.refl _ _⟩

theorem infoChunk : (Tryz.prog.info? 48).map (fun i => (i.zero, i.size, i.bytes)) = some (some (.agg #[.string ByteArray.empty, .int .i64 0, .int .i64 0, .int .i64 0, .int .i64 0, .string ByteArray.empty]), 6, 64) := by kernel_rfl

set_option maxRecDepth 100000 in
set_option maxHeartbeats 1000000 in
theorem toChunkS (a : Option Addr) (cap : Nat) (l : List DChunk) (w : World) (hs : Rdb.sz l ≤ 2097152) {fr : Bool} {lo : Nat} (hc : Rows fr lo w a l) :
    Calls Tryz.prog 41 #[.slice a l.length cap] w (SlC l w) := by
  have HL := Lib.hid (fun k (h : k < l.length) => get_lt h)
  have hl : l.length ≤ 2097152 := Nat.le_trans (sz_len l) hs
  have SM := Lib.hid (fun k x (h : l[k]? = some x) => Nat.le_trans (sz_mem h) hs)
  obtain ⟨n, hn⟩ : ∃ n, n = l.length := ⟨_, rfl⟩
  have FIN : ∀ e w', (e = .returned (.slice (some ⟨w.heap.size, 0, none⟩) n n) ∧ RndL w w' w.heap.size n n l) → SlC l w e w' := by
    rintro e w' ⟨h, R⟩; rw [hn] at h; exact ⟨_, h, R.done hn, R.new, R.lt, R.free, R.below⟩
  rw [← hn] at hl HL ⊢
  have HF := Lib.hid FIN
  clear hn FIN hs
  obtain ⟨i0, hi, hz0, hz1, hz2⟩ := info_parts infoChunk
  go_enter Tryz.func41, Tryz.ntmps41
  go_wp2_with (at_make; refine wpList_make_full _ rfl _ _ 39 rfl w.heap.size 48 i0 (.agg #[.string ByteArray.empty, .int .i64 0, .int .i64 0, .int .i64 0, .int .i64 0, .string ByteArray.empty]) 6 Tryz.underlying39 hi hz0 hz1 .i64 .i64 n n n rfl rfl rfl rfl (by rw [hz2]; omega) (by unfold maxLen; omega) (Nat.le_refl _) ?_; intro w1 hown1 hgrow1)
  have R1 : RndL w w1 w.heap.size n 0 l := RndL.made hown1 l ((Below.refl _ _).grown hgrow1 (Nat.le_refl _) (by intro k hk; cases hk))
  clear hown1 hgrow1
  go_loopw [4] (fun i wr => ∃ k : Nat, k ≤ n ∧ i = .int .i64 k ∧ RndL w wr w.heap.size n k l) (fun i _ => n - (intOf i).toNat)
  case atStart => exact ⟨0, by omega, rfl, R1⟩
  case round =>
    obtain ⟨k, hk, rfl, R⟩ := hrel
    clear R1
    by_cases hlt : k < n
    · obtain ⟨x, hx⟩ := HL.out k hlt
      obtain ⟨b, off, cs, rfl, -, hB, hr, hcc⟩ := (hc.below R.below).at' hx
      have T := toChunk x wr (SM.out _ _ hx) hr
      obtain ⟨rfl, f0_0, f0_1, f0_2, f0_3, f0_4, f0_5⟩ := shape_Chunk hr
      have c0 : wr.cell? ⟨b, off + k * 6, none⟩ = some (.string x.name) := hcc 0 _ rfl
      have c1 : wr.cell? ⟨b, off + k * 6 + 1, none⟩ = some (.int .i64 x.ver.epoch) := hcc 1 _ rfl
      have c2 : wr.cell? ⟨b, off + k * 6 + 2, none⟩ = some (.int .i64 x.ver.seq) := hcc 2 _ rfl
      have c3 : wr.cell? ⟨b, off + k * 6 + 3, none⟩ = some (.int .i64 x.pos) := hcc 3 _ rfl
      have c4 : wr.cell? ⟨b, off + k * 6 + 4, none⟩ = some (.int .i64 x.sum) := hcc 4 _ rfl
      have c5 : wr.cell? ⟨b, off + k * 6 + 5, none⟩ = some (.string x.bytes) := hcc 5 _ rfl
      have T := Lib.hid T
      have RH := Lib.hid R
      have HX := Lib.hid hx
      clear R hx hcc hr hc 
      go_wp2_with fail
      refine T.out.mono ?_
      rintro e w2 ⟨cs2, rfl, r2, b2⟩
      have R2 := RH.out.later b2
      have PUT := R2.put hlt HX.out (Rdb.weak (lo' := w.heap.size + 1) r2 (by have := RH.out.lt; omega) id)
      obtain ⟨rfl, f1_0, f1_1, f1_2, f1_3, f1_4, f1_5⟩ := shape_Chunk r2
      obtain ⟨u0, d0⟩ := R2.there (k * 6) (by show _ < n * 6; omega)
      have z0 := R2.free (k * 6)
      obtain ⟨u1, d1⟩ := R2.there (k * 6 + 1) (by show _ < n * 6; omega)
      have z1 := R2.free (k * 6 + 1)
      obtain ⟨u2, d2⟩ := R2.there (k * 6 + 2) (by show _ < n * 6; omega)
      have z2 := R2.free (k * 6 + 2)
      obtain ⟨u3, d3⟩ := R2.there (k * 6 + 3) (by show _ < n * 6; omega)
      have z3 := R2.free (k * 6 + 3)
      obtain ⟨u4, d4⟩ := R2.there (k * 6 + 4) (by show _ < n * 6; omega)
      have z4 := R2.free (k * 6 + 4)
      obtain ⟨u5, d5⟩ := R2.there (k * 6 + 5) (by show _ < n * 6; omega)
      have z5 := R2.free (k * 6 + 5)
      have R3 : RndL w (((((((w2).setCell ⟨w.heap.size, k * 6, none⟩ (.string x.name)).setCell ⟨w.heap.size, k * 6 + 1, none⟩ (.int .i64 x.ver.epoch)).setCell ⟨w.heap.size, k * 6 + 2, none⟩ (.int .i64 x.ver.seq)).setCell ⟨w.heap.size, k * 6 + 3, none⟩ (.int .i64 x.pos)).setCell ⟨w.heap.size, k * 6 + 4, none⟩ (.int .i64 x.sum)).setCell ⟨w.heap.size, k * 6 + 5, none⟩ (.string x.bytes)) w.heap.size n (k + 1) l := PUT
      have R3 := Lib.hid R3
      clear R2 RH b2 r2 PUT c0 c1 c2 c3 c4 c5 
      go_wp2
      go_roundw
      case rel => exact ⟨k + 1, by omega, by go_num, R3.out⟩
      case measure => simp [intOf]; omega
    · obtain rfl : k = n := by omega
      have F := Lib.hid (HF.out _ _ ⟨rfl, R⟩)
      clear R hc
      go_wp2
      go_ret
      exact F.out

set_option maxRecDepth 100000 in
set_option maxHeartbeats 1000000 in
theorem eqChunkS (a b : Option Addr) (cap1 cap2 : Nat) (l : List DChunk) (w : World) (hs : Rdb.sz l ≤ 2097152) {fr fr2 : Bool} {lo lo2 : Nat} (ha : Rows fr lo w a l) (hb : Rows fr2 lo2 w b l) :
    Calls Tryz.prog 54 #[.slice a l.length cap1, .slice b l.length cap2] w (TrueW w) := by
  have HL := Lib.hid (fun k (h : k < l.length) => get_lt h)
  have hl : l.length ≤ 2097152 := Nat.le_trans (sz_len l) hs
  have SM := Lib.hid (fun k x (h : l[k]? = some x) => Nat.le_trans (sz_mem h) hs)
  obtain ⟨n, hn⟩ : ∃ n, n = l.length := ⟨_, rfl⟩
  rw [← hn] at hl HL ⊢
  clear hn hs
  go_enter Tryz.func54, Tryz.ntmps54
  go_wp2
  go_loopw [5] (fun i wr => ∃ k : Nat, k ≤ n ∧ i = .int .i64 k ∧ Below w.heap.size w wr) (fun i _ => n - (intOf i).toNat)
  case atStart => exact ⟨0, by omega, rfl, Below.refl _ _⟩
  case round =>
    obtain ⟨k, hk, rfl, hw⟩ := hrel
    by_cases hlt : k < n
    · obtain ⟨x, hx⟩ := HL.out k hlt
      obtain ⟨b1, o1, cs1, rfl, -, hB1, hr1, hc1⟩ := (ha.below hw).at' hx
      obtain ⟨b2, o2, cs2, rfl, -, hB2, hr2, hc2⟩ := (hb.below hw).at' hx
      have T := fun w' (y : Below wr.heap.size wr w') => eqChunk x w' (SM.out _ _ hx) (Rdb.below hr1 y) (Rdb.below hr2 y)
      obtain ⟨rfl, f0_0, f0_1, f0_2, f0_3, f0_4, f0_5⟩ := shape_Chunk hr1
      obtain ⟨rfl, f1_0, f1_1, f1_2, f1_3, f1_4, f1_5⟩ := shape_Chunk hr2
      have c0 : wr.cell? ⟨b1, o1 + k * 6, none⟩ = some (.string x.name) := hc1 0 _ rfl
      have d0 : wr.cell? ⟨b2, o2 + k * 6, none⟩ = some (.string x.name) := hc2 0 _ rfl
      have c1 : wr.cell? ⟨b1, o1 + k * 6 + 1, none⟩ = some (.int .i64 x.ver.epoch) := hc1 1 _ rfl
      have d1 : wr.cell? ⟨b2, o2 + k * 6 + 1, none⟩ = some (.int .i64 x.ver.epoch) := hc2 1 _ rfl
      have c2 : wr.cell? ⟨b1, o1 + k * 6 + 2, none⟩ = some (.int .i64 x.ver.seq) := hc1 2 _ rfl
      have d2 : wr.cell? ⟨b2, o2 + k * 6 + 2, none⟩ = some (.int .i64 x.ver.seq) := hc2 2 _ rfl
      have c3 : wr.cell? ⟨b1, o1 + k * 6 + 3, none⟩ = some (.int .i64 x.pos) := hc1 3 _ rfl
      have d3 : wr.cell? ⟨b2, o2 + k * 6 + 3, none⟩ = some (.int .i64 x.pos) := hc2 3 _ rfl
      have c4 : wr.cell? ⟨b1, o1 + k * 6 + 4, none⟩ = some (.int .i64 x.sum) := hc1 4 _ rfl
      have d4 : wr.cell? ⟨b2, o2 + k * 6 + 4, none⟩ = some (.int .i64 x.sum) := hc2 4 _ rfl
      have c5 : wr.cell? ⟨b1, o1 + k * 6 + 5, none⟩ = some (.string x.bytes) := hc1 5 _ rfl
      have d5 : wr.cell? ⟨b2, o2 + k * 6 + 5, none⟩ = some (.string x.bytes) := hc2 5 _ rfl
      have T := Lib.hid T
      have HW := Lib.hid hw
      clear hw hx hc1 hc2 hr1 hr2 ha hb 
      go_wp2
      go_region_with (go_at_call 18; refine (T.out _ (undrewX (Below.refl _ _))).mono ?_; rintro e w2 ⟨rfl, b2⟩; have B2 := Lib.hid (HW.out.trans ((undrewX b2).mono HW.out.size)))
      all_goals
        go_wp2
        go_roundw
        case rel => exact ⟨k + 1, by omega, by go_num, B2.out⟩
        case measure => simp [intOf]; omega
    · obtain rfl : k = n := by omega
      have HW := Lib.hid hw
      clear hw ha hb
      go_wp2
      go_ret
      exact ⟨rfl, HW.out⟩

end Go.Proofs.YtbckdfoapmjilaaGreatDoor.Rd
