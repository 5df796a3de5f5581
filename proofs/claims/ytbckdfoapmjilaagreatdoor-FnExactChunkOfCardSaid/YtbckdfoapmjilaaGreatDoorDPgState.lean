/-
  Data of the type PgState: its reading, and the laws' helpers on it (written by tools/gen/data.py).
-/
import Derived.Test.YtbckdfoapmjilaaGreatDoorDPg
import Derived.Test.YtbckdfoapmjilaaGreatDoorDVer
import Derived.Test.YtbckdfoapmjilaaGreatDoorDHead
import Derived.Test.YtbckdfoapmjilaaGreatDoorDLast
import Derived.Test.YtbckdfoapmjilaaGreatDoorDEntry
import Derived.Test.YtbckdfoapmjilaaGreatDoorDChunk
namespace Go.Proofs.YtbckdfoapmjilaaGreatDoor.Rd
open Go.RowKit Go.ChangeShapes Go.WideShapes
open Go.Proofs.YtbckdfoapmjilaaGreatDoor.Sg (BxN)
set_option linter.unusedVariables false
set_option linter.unusedSimpArgs false

/-- PgState. -/
structure DPgState where
  pg : DPg
  seen : Int
  started : Int
  tail : DVer
  base : (List DHead)
  clients : (List DLast)
  log : (List DEntry)
  firm : DVer
  chunks : (List DChunk)
instance : Inhabited DPgState := ⟨⟨default, 0, 0, default, [], [], [], default, []⟩⟩
instance : Rdb DPgState where
  size := 12
  sz := fun d => Rdb.sz d.base + Rdb.sz d.clients + Rdb.sz d.log + Rdb.sz d.chunks
  rd := fun fr lo w cs d => cs.length = 12 ∧ Rdb.rd fr lo w ((cs.drop 0).take 2) d.pg ∧ Rdb.rd fr lo w ((cs.drop 2).take 1) d.seen ∧ Rdb.rd fr lo w ((cs.drop 3).take 1) d.started ∧ Rdb.rd fr lo w ((cs.drop 4).take 2) d.tail ∧ Rdb.rd fr lo w ((cs.drop 6).take 1) d.base ∧ Rdb.rd fr lo w ((cs.drop 7).take 1) d.clients ∧ Rdb.rd fr lo w ((cs.drop 8).take 1) d.log ∧ Rdb.rd fr lo w ((cs.drop 9).take 2) d.firm ∧ Rdb.rd fr lo w ((cs.drop 11).take 1) d.chunks
  len := fun h => h.1
  below := fun ⟨e, h0, h1, h2, h3, h4, h5, h6, h7, h8⟩ b => ⟨e, Rdb.below h0 b, Rdb.below h1 b, Rdb.below h2 b, Rdb.below h3 b, Rdb.below h4 b, Rdb.below h5 b, Rdb.below h6 b, Rdb.below h7 b, Rdb.below h8 b⟩
  far := fun ⟨e, h0, h1, h2, h3, h4, h5, h6, h7, h8⟩ b => ⟨e, Rdb.far h0 b, Rdb.far h1 b, Rdb.far h2 b, Rdb.far h3 b, Rdb.far h4 b, Rdb.far h5 b, Rdb.far h6 b, Rdb.far h7 b, Rdb.far h8 b⟩
  weak := fun ⟨e, h0, h1, h2, h3, h4, h5, h6, h7, h8⟩ b c => ⟨e, Rdb.weak h0 b c, Rdb.weak h1 b c, Rdb.weak h2 b c, Rdb.weak h3 b c, Rdb.weak h4 b c, Rdb.weak h5 b c, Rdb.weak h6 b c, Rdb.weak h7 b c, Rdb.weak h8 b c⟩
instance : Mkb DPgState where
  swap := by
    rintro fr lo w cs d c v v' ⟨e, h0, h1, h2, h3, h4, h5, h6, h7, h8⟩ hv s
    obtain ⟨d0, z0, r0⟩ := Mkb.field h0 hv s
    obtain ⟨d1, z1, r1⟩ := Mkb.field h1 hv s
    obtain ⟨d2, z2, r2⟩ := Mkb.field h2 hv s
    obtain ⟨d3, z3, r3⟩ := Mkb.field h3 hv s
    obtain ⟨d4, z4, r4⟩ := Mkb.field h4 hv s
    obtain ⟨d5, z5, r5⟩ := Mkb.field h5 hv s
    obtain ⟨d6, z6, r6⟩ := Mkb.field h6 hv s
    obtain ⟨d7, z7, r7⟩ := Mkb.field h7 hv s
    obtain ⟨d8, z8, r8⟩ := Mkb.field h8 hv s
    exact ⟨⟨d0, d1, d2, d3, d4, d5, d6, d7, d8⟩, (by show Rdb.sz d4 + Rdb.sz d5 + Rdb.sz d6 + Rdb.sz d8 = Rdb.sz d.base + Rdb.sz d.clients + Rdb.sz d.log + Rdb.sz d.chunks; omega), by rw [List.length_set]; exact e, r0, r1, r2, r3, r4, r5, r6, r7, r8⟩
  stir := by
    rintro fr lo w cs d p v v' ⟨e, h0, h1, h2, h3, h4, h5, h6, h7, h8⟩ hp s
    obtain ⟨d0, z0, r0⟩ := Mkb.stir h0 hp s
    obtain ⟨d1, z1, r1⟩ := Mkb.stir h1 hp s
    obtain ⟨d2, z2, r2⟩ := Mkb.stir h2 hp s
    obtain ⟨d3, z3, r3⟩ := Mkb.stir h3 hp s
    obtain ⟨d4, z4, r4⟩ := Mkb.stir h4 hp s
    obtain ⟨d5, z5, r5⟩ := Mkb.stir h5 hp s
    obtain ⟨d6, z6, r6⟩ := Mkb.stir h6 hp s
    obtain ⟨d7, z7, r7⟩ := Mkb.stir h7 hp s
    obtain ⟨d8, z8, r8⟩ := Mkb.stir h8 hp s
    exact ⟨⟨d0, d1, d2, d3, d4, d5, d6, d7, d8⟩, (by show Rdb.sz d4 + Rdb.sz d5 + Rdb.sz d6 + Rdb.sz d8 = Rdb.sz d.base + Rdb.sz d.clients + Rdb.sz d.log + Rdb.sz d.chunks; omega), e, r0, r1, r2, r3, r4, r5, r6, r7, r8⟩
  move := fun ⟨e, h0, h1, h2, h3, h4, h5, h6, h7, h8⟩ sz hm => ⟨e, Mkb.move h0 sz hm, Mkb.move h1 sz hm, Mkb.move h2 sz hm, Mkb.move h3 sz hm, Mkb.move h4 sz hm, Mkb.move h5 sz hm, Mkb.move h6 sz hm, Mkb.move h7 sz hm, Mkb.move h8 sz hm⟩
theorem shape_PgState {fr : Bool} {lo : Nat} {w : World} {cs : List Value} {d : DPgState} (h : Rdb.rd fr lo w cs d) : ∃ (a6 : Option Addr) (c6 : Nat) (a7 : Option Addr) (c7 : Nat) (a8 : Option Addr) (c8 : Nat) (a11 : Option Addr) (c11 : Nat), cs = [.int .i64 d.pg.pool, .int .i64 d.pg.no, .int .i64 d.seen, .int .i64 d.started, .int .i64 d.tail.epoch, .int .i64 d.tail.seq, .slice a6 d.base.length c6, .slice a7 d.clients.length c7, .slice a8 d.log.length c8, .int .i64 d.firm.epoch, .int .i64 d.firm.seq, .slice a11 d.chunks.length c11] ∧ (Lit.int .i64 d.pg.pool).wf = true ∧ (Lit.int .i64 d.pg.no).wf = true ∧ (Lit.int .i64 d.seen).wf = true ∧ (Lit.int .i64 d.started).wf = true ∧ (Lit.int .i64 d.tail.epoch).wf = true ∧ (Lit.int .i64 d.tail.seq).wf = true ∧ Rows fr lo w a6 d.base ∧ (d.base.length ≤ 9223372036854775807 ∧ d.base.length ≤ c6) ∧ Rows fr lo w a7 d.clients ∧ (d.clients.length ≤ 9223372036854775807 ∧ d.clients.length ≤ c7) ∧ Rows fr lo w a8 d.log ∧ (d.log.length ≤ 9223372036854775807 ∧ d.log.length ≤ c8) ∧ (Lit.int .i64 d.firm.epoch).wf = true ∧ (Lit.int .i64 d.firm.seq).wf = true ∧ Rows fr lo w a11 d.chunks ∧ (d.chunks.length ≤ 9223372036854775807 ∧ d.chunks.length ≤ c11) := by
  obtain ⟨e, h0, h1, h2, h3, h4, h5, h6, h7, h8⟩ := h
  match cs, e with
  | [x0, x1, x2, x3, x4, x5, x6, x7, x8, x9, x10, x11], _ =>
    replace h0 : Rdb.rd fr lo w [x0, x1] d.pg := h0
    obtain ⟨q0, f0, f1⟩ := shape_Pg h0
    simp only [List.cons.injEq, and_true] at q0
    obtain ⟨rfl, rfl⟩ := q0
    replace h1 : Rdb.rd fr lo w [x2] d.seen := h1
    obtain ⟨e2, f2⟩ := h1
    obtain rfl : x2 = .int .i64 d.seen := by simpa using e2
    replace h2 : Rdb.rd fr lo w [x3] d.started := h2
    obtain ⟨e3, f3⟩ := h2
    obtain rfl : x3 = .int .i64 d.started := by simpa using e3
    replace h3 : Rdb.rd fr lo w [x4, x5] d.tail := h3
    obtain ⟨q4, f4, f5⟩ := shape_Ver h3
    simp only [List.cons.injEq, and_true] at q4
    obtain ⟨rfl, rfl⟩ := q4
    replace h4 : Rdb.rd fr lo w [x6] d.base := h4
    obtain ⟨g6, a6, c6, ⟨e6, z6⟩, f6⟩ := h4
    obtain rfl : x6 = .slice a6 d.base.length c6 := by simpa using e6
    replace h5 : Rdb.rd fr lo w [x7] d.clients := h5
    obtain ⟨g7, a7, c7, ⟨e7, z7⟩, f7⟩ := h5
    obtain rfl : x7 = .slice a7 d.clients.length c7 := by simpa using e7
    replace h6 : Rdb.rd fr lo w [x8] d.log := h6
    obtain ⟨g8, a8, c8, ⟨e8, z8⟩, f8⟩ := h6
    obtain rfl : x8 = .slice a8 d.log.length c8 := by simpa using e8
    replace h7 : Rdb.rd fr lo w [x9, x10] d.firm := h7
    obtain ⟨q9, f9, f10⟩ := shape_Ver h7
    simp only [List.cons.injEq, and_true] at q9
    obtain ⟨rfl, rfl⟩ := q9
    replace h8 : Rdb.rd fr lo w [x11] d.chunks := h8
    obtain ⟨g11, a11, c11, ⟨e11, z11⟩, f11⟩ := h8
    obtain rfl : x11 = .slice a11 d.chunks.length c11 := by simpa using e11
    exact ⟨a6, c6, a7, c7, a8, c8, a11, c11, rfl, f0, f1, f2, f3, f4, f5, f6, ⟨g6, z6⟩, f7, ⟨g7, z7⟩, f8, ⟨g8, z8⟩, f9, f10, f11, ⟨g11, z11⟩⟩
theorem mk_PgState {fr : Bool} {lo : Nat} {w : World} {d : DPgState} {a6 : Option Addr} {c6 : Nat} {a7 : Option Addr} {c7 : Nat} {a8 : Option Addr} {c8 : Nat} {a11 : Option Addr} {c11 : Nat} (f0 : (Lit.int .i64 d.pg.pool).wf = true) (f1 : (Lit.int .i64 d.pg.no).wf = true) (f2 : (Lit.int .i64 d.seen).wf = true) (f3 : (Lit.int .i64 d.started).wf = true) (f4 : (Lit.int .i64 d.tail.epoch).wf = true) (f5 : (Lit.int .i64 d.tail.seq).wf = true) (f6 : Rows fr lo w a6 d.base) (f7 : (d.base.length ≤ 9223372036854775807 ∧ d.base.length ≤ c6)) (f8 : Rows fr lo w a7 d.clients) (f9 : (d.clients.length ≤ 9223372036854775807 ∧ d.clients.length ≤ c7)) (f10 : Rows fr lo w a8 d.log) (f11 : (d.log.length ≤ 9223372036854775807 ∧ d.log.length ≤ c8)) (f12 : (Lit.int .i64 d.firm.epoch).wf = true) (f13 : (Lit.int .i64 d.firm.seq).wf = true) (f14 : Rows fr lo w a11 d.chunks) (f15 : (d.chunks.length ≤ 9223372036854775807 ∧ d.chunks.length ≤ c11)) : Rdb.rd fr lo w [.int .i64 d.pg.pool, .int .i64 d.pg.no, .int .i64 d.seen, .int .i64 d.started, .int .i64 d.tail.epoch, .int .i64 d.tail.seq, .slice a6 d.base.length c6, .slice a7 d.clients.length c7, .slice a8 d.log.length c8, .int .i64 d.firm.epoch, .int .i64 d.firm.seq, .slice a11 d.chunks.length c11] d :=
  ⟨rfl, ⟨rfl, ⟨rfl, f0⟩, ⟨rfl, f1⟩⟩, ⟨rfl, f2⟩, ⟨rfl, f3⟩, ⟨rfl, ⟨rfl, f4⟩, ⟨rfl, f5⟩⟩, ⟨f7.1, _, _, ⟨rfl, f7.2⟩, f6⟩, ⟨f9.1, _, _, ⟨rfl, f9.2⟩, f8⟩, ⟨f11.1, _, _, ⟨rfl, f11.2⟩, f10⟩, ⟨rfl, ⟨rfl, f12⟩, ⟨rfl, f13⟩⟩, ⟨f15.1, _, _, ⟨rfl, f15.2⟩, f14⟩⟩
theorem opens_PgState {P : Program} {t : TypeId} {f0 f1 f2 f3 f4 f5 f6 f7 f8 : Field} (hu : P.underlying t = some (.struct #[f0, f1, f2, f3, f4, f5, f6, f7, f8])) (hC : P.cellsOf t = 12) (off : f0.offset = 0 ∧ f1.offset = 2 ∧ f2.offset = 3 ∧ f3.offset = 4 ∧ f4.offset = 6 ∧ f5.offset = 7 ∧ f6.offset = 8 ∧ f7.offset = 9 ∧ f8.offset = 11) (h0 : Opens P f0.type DPg) (h1 : Opens P f1.type Int) (h2 : Opens P f2.type Int) (h3 : Opens P f3.type DVer) (h4 : Opens P f4.type (List DHead)) (h5 : Opens P f5.type (List DLast)) (h6 : Opens P f6.type (List DEntry)) (h7 : Opens P f7.type DVer) (h8 : Opens P f8.type (List DChunk)) : Opens P t DPgState := by
  obtain ⟨o0, o1, o2, o3, o4, o5, o6, o7, o8⟩ := off
  refine ⟨hC, fun enc w base spare held fuel cs x h => ?_⟩
  obtain ⟨xs, n, _, _, hl, hlen, hg⟩ := DataW.trod_struct hu h
  match xs, hlen with
  | [y0, y1, y2, y3, y4, y5, y6, y7, y8], _ =>
    have t0 := hg 0 f0 rfl
    rw [o0, h0.1] at t0
    obtain ⟨d0, r0⟩ := h0.2 _ _ _ _ _ _ _ y0 t0
    have t1 := hg 1 f1 rfl
    rw [o1, h1.1] at t1
    obtain ⟨d1, r1⟩ := h1.2 _ _ _ _ _ _ _ y1 t1
    have t2 := hg 2 f2 rfl
    rw [o2, h2.1] at t2
    obtain ⟨d2, r2⟩ := h2.2 _ _ _ _ _ _ _ y2 t2
    have t3 := hg 3 f3 rfl
    rw [o3, h3.1] at t3
    obtain ⟨d3, r3⟩ := h3.2 _ _ _ _ _ _ _ y3 t3
    have t4 := hg 4 f4 rfl
    rw [o4, h4.1] at t4
    obtain ⟨d4, r4⟩ := h4.2 _ _ _ _ _ _ _ y4 t4
    have t5 := hg 5 f5 rfl
    rw [o5, h5.1] at t5
    obtain ⟨d5, r5⟩ := h5.2 _ _ _ _ _ _ _ y5 t5
    have t6 := hg 6 f6 rfl
    rw [o6, h6.1] at t6
    obtain ⟨d6, r6⟩ := h6.2 _ _ _ _ _ _ _ y6 t6
    have t7 := hg 7 f7 rfl
    rw [o7, h7.1] at t7
    obtain ⟨d7, r7⟩ := h7.2 _ _ _ _ _ _ _ y7 t7
    have t8 := hg 8 f8 rfl
    rw [o8, h8.1] at t8
    obtain ⟨d8, r8⟩ := h8.2 _ _ _ _ _ _ _ y8 t8
    exact ⟨⟨d0, d1, d2, d3, d4, d5, d6, d7, d8⟩, hl.trans hC, r0, r1, r2, r3, r4, r5, r6, r7, r8⟩

set_option maxRecDepth 100000 in
set_option maxHeartbeats 1000000 in
theorem szPgState {cs : List Value} {fr : Bool} {lo : Nat} (d : DPgState) (left : Int) (l0 : 0 ≤ left) (l1 : left ≤ 2097152) (w : World) (h : Rdb.rd fr lo w cs d) : Calls Tryz.prog 7 #[.agg cs.toArray, .int .i64 left] w (SzB left (Rdb.sz d) w) := by
  obtain ⟨a0_6, c0_6, a0_7, c0_7, a0_8, c0_8, a0_11, c0_11, rfl, f0_0, f0_1, f0_2, f0_3, f0_4, f0_5, f0_6, g0_6, f0_7, g0_7, f0_8, g0_8, f0_9, f0_10, f0_11, g0_11⟩ := shape_PgState h
  have LH := Lib.hid (lay w (.cells #[.int .i64 d.pg.pool, .int .i64 d.pg.no, .int .i64 d.seen, .int .i64 d.started, .int .i64 d.tail.epoch, .int .i64 d.tail.seq, .slice a0_6 d.base.length c0_6, .slice a0_7 d.clients.length c0_7, .slice a0_8 d.log.length c0_8, .int .i64 d.firm.epoch, .int .i64 d.firm.seq, .slice a0_11 d.chunks.length c0_11] 31))
  have X := Lib.hid (BxN.new w #[.int .i64 d.pg.pool, .int .i64 d.pg.no, .int .i64 d.seen, .int .i64 d.started, .int .i64 d.tail.epoch, .int .i64 d.tail.seq, .slice a0_6 d.base.length c0_6, .slice a0_7 d.clients.length c0_7, .slice a0_8 d.log.length c0_8, .int .i64 d.firm.epoch, .int .i64 d.firm.seq, .slice a0_11 d.chunks.length c0_11] 31)
  have Z0 := Lib.hid (fun (lf : Int) (p0 : 0 ≤ lf) (p1 : lf ≤ 2097152) w' (b : Below w.heap.size w w') => szHeadS a0_6 c0_6 d.base lf p0 p1 w' g0_6.1 (f0_6.below b))
  have Z1 := Lib.hid (fun (lf : Int) (p0 : 0 ≤ lf) (p1 : lf ≤ 2097152) w' (b : Below w.heap.size w w') => szLastS a0_7 c0_7 d.clients lf p0 p1 w' g0_7.1 (f0_7.below b))
  have Z2 := Lib.hid (fun (lf : Int) (p0 : 0 ≤ lf) (p1 : lf ≤ 2097152) w' (b : Below w.heap.size w w') => szEntryS a0_8 c0_8 d.log lf p0 p1 w' g0_8.1 (f0_8.below b))
  have Z3 := Lib.hid (fun (lf : Int) (p0 : 0 ≤ lf) (p1 : lf ≤ 2097152) w' (b : Below w.heap.size w w') => szChunkS a0_11 c0_11 d.chunks lf p0 p1 w' g0_11.1 (f0_11.below b))
  have E : Rdb.sz d = Rdb.sz d.base + Rdb.sz d.clients + Rdb.sz d.log + Rdb.sz d.chunks := rfl
  rw [E]
  clear E
  generalize Rdb.sz d.base = s0 at *
  generalize Rdb.sz d.clients = s1 at *
  generalize Rdb.sz d.log = s2 at *
  generalize Rdb.sz d.chunks = s3 at *
  clear f0_6 f0_7 f0_8 f0_11
  unfold SzB
  by_cases q0 : (s0 : Int) ≤ left
  · skip
    by_cases q1 : (s0 : Int) + (s1 : Int) ≤ left
    · skip
      by_cases q2 : (s0 : Int) + (s1 : Int) + (s2 : Int) ≤ left
      · skip
        by_cases q3 : (s0 : Int) + (s1 : Int) + (s2 : Int) + (s3 : Int) ≤ left
        · rw [szI_yes (by omega), show left - ((s0 + s1 + s2 + s3 : Nat) : Int) = left - (s0 : Int) - (s1 : Int) - (s2 : Int) - (s3 : Int) by omega]
          go_enter Tryz.func7, Tryz.ntmps7
          have Y0 := Z0.out (left) (by omega) (by omega) _ LH.out
          rw [show (SzB (left) s0) = SzB (left) s0 from rfl] at Y0
          have y0 : szI (left) s0 = left - s0 := szI_yes (by omega)
          unfold SzB at Y0
          rw [y0] at Y0
          have Y0 := Lib.hid Y0
          clear y0
          go_wp2_with fail
          refine Y0.out.mono ?_
          rintro e w1 ⟨rfl, b1⟩
          have B1 := Lib.hid (chainX w (LH.out) b1)
          have XN := X.out.later b1
          have x1_0 := XN.cells 0 _ rfl
          have x1_1 := XN.cells 1 _ rfl
          have x1_2 := XN.cells 2 _ rfl
          have x1_3 := XN.cells 3 _ rfl
          have x1_4 := XN.cells 4 _ rfl
          have x1_5 := XN.cells 5 _ rfl
          have x1_6 := XN.cells 6 _ rfl
          have x1_7 := XN.cells 7 _ rfl
          have x1_8 := XN.cells 8 _ rfl
          have x1_9 := XN.cells 9 _ rfl
          have x1_10 := XN.cells 10 _ rfl
          have x1_11 := XN.cells 11 _ rfl
          have X1 := Lib.hid XN
          clear XN
          clear b1 Y0
          have Y1 := Z1.out (left - s0) (by omega) (by omega) _ B1.out
          rw [show (SzB (left - s0) s1) = SzB (left - s0) s1 from rfl] at Y1
          have y1 : szI (left - s0) s1 = left - s0 - s1 := szI_yes (by omega)
          unfold SzB at Y1
          rw [y1] at Y1
          have Y1 := Lib.hid Y1
          clear y1
          go_wp2_with fail
          refine Y1.out.mono ?_
          rintro e w2 ⟨rfl, b2⟩
          have B2 := Lib.hid (chainX w (B1.out) b2)
          have XN := X1.out.later b2
          have x2_0 := XN.cells 0 _ rfl
          have x2_1 := XN.cells 1 _ rfl
          have x2_2 := XN.cells 2 _ rfl
          have x2_3 := XN.cells 3 _ rfl
          have x2_4 := XN.cells 4 _ rfl
          have x2_5 := XN.cells 5 _ rfl
          have x2_6 := XN.cells 6 _ rfl
          have x2_7 := XN.cells 7 _ rfl
          have x2_8 := XN.cells 8 _ rfl
          have x2_9 := XN.cells 9 _ rfl
          have x2_10 := XN.cells 10 _ rfl
          have x2_11 := XN.cells 11 _ rfl
          have X2 := Lib.hid XN
          clear XN
          clear x1_0 x1_1 x1_2 x1_3 x1_4 x1_5 x1_6 x1_7 x1_8 x1_9 x1_10 x1_11
          clear b2 Y1
          have Y2 := Z2.out (left - s0 - s1) (by omega) (by omega) _ B2.out
          rw [show (SzB (left - s0 - s1) s2) = SzB (left - s0 - s1) s2 from rfl] at Y2
          have y2 : szI (left - s0 - s1) s2 = left - s0 - s1 - s2 := szI_yes (by omega)
          unfold SzB at Y2
          rw [y2] at Y2
          have Y2 := Lib.hid Y2
          clear y2
          go_wp2_with fail
          refine Y2.out.mono ?_
          rintro e w3 ⟨rfl, b3⟩
          have B3 := Lib.hid (chainX w (B2.out) b3)
          have XN := X2.out.later b3
          have x3_0 := XN.cells 0 _ rfl
          have x3_1 := XN.cells 1 _ rfl
          have x3_2 := XN.cells 2 _ rfl
          have x3_3 := XN.cells 3 _ rfl
          have x3_4 := XN.cells 4 _ rfl
          have x3_5 := XN.cells 5 _ rfl
          have x3_6 := XN.cells 6 _ rfl
          have x3_7 := XN.cells 7 _ rfl
          have x3_8 := XN.cells 8 _ rfl
          have x3_9 := XN.cells 9 _ rfl
          have x3_10 := XN.cells 10 _ rfl
          have x3_11 := XN.cells 11 _ rfl
          have X3 := Lib.hid XN
          clear XN
          clear x2_0 x2_1 x2_2 x2_3 x2_4 x2_5 x2_6 x2_7 x2_8 x2_9 x2_10 x2_11
          clear b3 Y2
          have Y3 := Z3.out (left - s0 - s1 - s2) (by omega) (by omega) _ B3.out
          rw [show (SzB (left - s0 - s1 - s2) s3) = SzB (left - s0 - s1 - s2) s3 from rfl] at Y3
          have y3 : szI (left - s0 - s1 - s2) s3 = left - s0 - s1 - s2 - s3 := szI_yes (by omega)
          unfold SzB at Y3
          rw [y3] at Y3
          have Y3 := Lib.hid Y3
          clear y3
          go_wp2_with fail
          refine Y3.out.mono ?_
          rintro e w4 ⟨rfl, b4⟩
          have B4 := Lib.hid (chainX w (B3.out) b4)
          have XN := X3.out.later b4
          have X4 := Lib.hid XN
          clear XN
          clear x3_0 x3_1 x3_2 x3_3 x3_4 x3_5 x3_6 x3_7 x3_8 x3_9 x3_10 x3_11
          clear b4 Y3
          go_wp2
          go_ret
          exact ⟨rfl, B4.out⟩
        · rw [szI_no (by omega)]
          go_enter Tryz.func7, Tryz.ntmps7
          have Y0 := Z0.out (left) (by omega) (by omega) _ LH.out
          rw [show (SzB (left) s0) = SzB (left) s0 from rfl] at Y0
          have y0 : szI (left) s0 = left - s0 := szI_yes (by omega)
          unfold SzB at Y0
          rw [y0] at Y0
          have Y0 := Lib.hid Y0
          clear y0
          go_wp2_with fail
          refine Y0.out.mono ?_
          rintro e w1 ⟨rfl, b1⟩
          have B1 := Lib.hid (chainX w (LH.out) b1)
          have XN := X.out.later b1
          have x1_0 := XN.cells 0 _ rfl
          have x1_1 := XN.cells 1 _ rfl
          have x1_2 := XN.cells 2 _ rfl
          have x1_3 := XN.cells 3 _ rfl
          have x1_4 := XN.cells 4 _ rfl
          have x1_5 := XN.cells 5 _ rfl
          have x1_6 := XN.cells 6 _ rfl
          have x1_7 := XN.cells 7 _ rfl
          have x1_8 := XN.cells 8 _ rfl
          have x1_9 := XN.cells 9 _ rfl
          have x1_10 := XN.cells 10 _ rfl
          have x1_11 := XN.cells 11 _ rfl
          have X1 := Lib.hid XN
          clear XN
          clear b1 Y0
          have Y1 := Z1.out (left - s0) (by omega) (by omega) _ B1.out
          rw [show (SzB (left - s0) s1) = SzB (left - s0) s1 from rfl] at Y1
          have y1 : szI (left - s0) s1 = left - s0 - s1 := szI_yes (by omega)
          unfold SzB at Y1
          rw [y1] at Y1
          have Y1 := Lib.hid Y1
          clear y1
          go_wp2_with fail
          refine Y1.out.mono ?_
          rintro e w2 ⟨rfl, b2⟩
          have B2 := Lib.hid (chainX w (B1.out) b2)
          have XN := X1.out.later b2
          have x2_0 := XN.cells 0 _ rfl
          have x2_1 := XN.cells 1 _ rfl
          have x2_2 := XN.cells 2 _ rfl
          have x2_3 := XN.cells 3 _ rfl
          have x2_4 := XN.cells 4 _ rfl
          have x2_5 := XN.cells 5 _ rfl
          have x2_6 := XN.cells 6 _ rfl
          have x2_7 := XN.cells 7 _ rfl
          have x2_8 := XN.cells 8 _ rfl
          have x2_9 := XN.cells 9 _ rfl
          have x2_10 := XN.cells 10 _ rfl
          have x2_11 := XN.cells 11 _ rfl
          have X2 := Lib.hid XN
          clear XN
          clear x1_0 x1_1 x1_2 x1_3 x1_4 x1_5 x1_6 x1_7 x1_8 x1_9 x1_10 x1_11
          clear b2 Y1
          have Y2 := Z2.out (left - s0 - s1) (by omega) (by omega) _ B2.out
          rw [show (SzB (left - s0 - s1) s2) = SzB (left - s0 - s1) s2 from rfl] at Y2
          have y2 : szI (left - s0 - s1) s2 = left - s0 - s1 - s2 := szI_yes (by omega)
          unfold SzB at Y2
          rw [y2] at Y2
          have Y2 := Lib.hid Y2
          clear y2
          go_wp2_with fail
          refine Y2.out.mono ?_
          rintro e w3 ⟨rfl, b3⟩
          have B3 := Lib.hid (chainX w (B2.out) b3)
          have XN := X2.out.later b3
          have x3_0 := XN.cells 0 _ rfl
          have x3_1 := XN.cells 1 _ rfl
          have x3_2 := XN.cells 2 _ rfl
          have x3_3 := XN.cells 3 _ rfl
          have x3_4 := XN.cells 4 _ rfl
          have x3_5 := XN.cells 5 _ rfl
          have x3_6 := XN.cells 6 _ rfl
          have x3_7 := XN.cells 7 _ rfl
          have x3_8 := XN.cells 8 _ rfl
          have x3_9 := XN.cells 9 _ rfl
          have x3_10 := XN.cells 10 _ rfl
          have x3_11 := XN.cells 11 _ rfl
          have X3 := Lib.hid XN
          clear XN
          clear x2_0 x2_1 x2_2 x2_3 x2_4 x2_5 x2_6 x2_7 x2_8 x2_9 x2_10 x2_11
          clear b3 Y2
          have Y3 := Z3.out (left - s0 - s1 - s2) (by omega) (by omega) _ B3.out
          rw [show (SzB (left - s0 - s1 - s2) s3) = SzB (left - s0 - s1 - s2) s3 from rfl] at Y3
          have y3 : szI (left - s0 - s1 - s2) s3 = -1 := szI_no (by omega)
          unfold SzB at Y3
          rw [y3] at Y3
          have Y3 := Lib.hid Y3
          clear y3
          go_wp2_with fail
          refine Y3.out.mono ?_
          rintro e w4 ⟨rfl, b4⟩
          have B4 := Lib.hid (chainX w (B3.out) b4)
          have XN := X3.out.later b4
          have X4 := Lib.hid XN
          clear XN
          clear x3_0 x3_1 x3_2 x3_3 x3_4 x3_5 x3_6 x3_7 x3_8 x3_9 x3_10 x3_11
          clear b4 Y3
          go_wp2
          go_ret
          exact ⟨rfl, B4.out⟩
      · rw [szI_no (by omega)]
        go_enter Tryz.func7, Tryz.ntmps7
        have Y0 := Z0.out (left) (by omega) (by omega) _ LH.out
        rw [show (SzB (left) s0) = SzB (left) s0 from rfl] at Y0
        have y0 : szI (left) s0 = left - s0 := szI_yes (by omega)
        unfold SzB at Y0
        rw [y0] at Y0
        have Y0 := Lib.hid Y0
        clear y0
        go_wp2_with fail
        refine Y0.out.mono ?_
        rintro e w1 ⟨rfl, b1⟩
        have B1 := Lib.hid (chainX w (LH.out) b1)
        have XN := X.out.later b1
        have x1_0 := XN.cells 0 _ rfl
        have x1_1 := XN.cells 1 _ rfl
        have x1_2 := XN.cells 2 _ rfl
        have x1_3 := XN.cells 3 _ rfl
        have x1_4 := XN.cells 4 _ rfl
        have x1_5 := XN.cells 5 _ rfl
        have x1_6 := XN.cells 6 _ rfl
        have x1_7 := XN.cells 7 _ rfl
        have x1_8 := XN.cells 8 _ rfl
        have x1_9 := XN.cells 9 _ rfl
        have x1_10 := XN.cells 10 _ rfl
        have x1_11 := XN.cells 11 _ rfl
        have X1 := Lib.hid XN
        clear XN
        clear b1 Y0
        have Y1 := Z1.out (left - s0) (by omega) (by omega) _ B1.out
        rw [show (SzB (left - s0) s1) = SzB (left - s0) s1 from rfl] at Y1
        have y1 : szI (left - s0) s1 = left - s0 - s1 := szI_yes (by omega)
        unfold SzB at Y1
        rw [y1] at Y1
        have Y1 := Lib.hid Y1
        clear y1
        go_wp2_with fail
        refine Y1.out.mono ?_
        rintro e w2 ⟨rfl, b2⟩
        have B2 := Lib.hid (chainX w (B1.out) b2)
        have XN := X1.out.later b2
        have x2_0 := XN.cells 0 _ rfl
        have x2_1 := XN.cells 1 _ rfl
        have x2_2 := XN.cells 2 _ rfl
        have x2_3 := XN.cells 3 _ rfl
        have x2_4 := XN.cells 4 _ rfl
        have x2_5 := XN.cells 5 _ rfl
        have x2_6 := XN.cells 6 _ rfl
        have x2_7 := XN.cells 7 _ rfl
        have x2_8 := XN.cells 8 _ rfl
        have x2_9 := XN.cells 9 _ rfl
        have x2_10 := XN.cells 10 _ rfl
        have x2_11 := XN.cells 11 _ rfl
        have X2 := Lib.hid XN
        clear XN
        clear x1_0 x1_1 x1_2 x1_3 x1_4 x1_5 x1_6 x1_7 x1_8 x1_9 x1_10 x1_11
        clear b2 Y1
        have Y2 := Z2.out (left - s0 - s1) (by omega) (by omega) _ B2.out
        rw [show (SzB (left - s0 - s1) s2) = SzB (left - s0 - s1) s2 from rfl] at Y2
        have y2 : szI (left - s0 - s1) s2 = -1 := szI_no (by omega)
        unfold SzB at Y2
        rw [y2] at Y2
        have Y2 := Lib.hid Y2
        clear y2
        go_wp2_with fail
        refine Y2.out.mono ?_
        rintro e w3 ⟨rfl, b3⟩
        have B3 := Lib.hid (chainX w (B2.out) b3)
        have XN := X2.out.later b3
        have X3 := Lib.hid XN
        clear XN
        clear x2_0 x2_1 x2_2 x2_3 x2_4 x2_5 x2_6 x2_7 x2_8 x2_9 x2_10 x2_11
        clear b3 Y2
        go_wp2
        go_ret
        exact ⟨rfl, B3.out⟩
    · rw [szI_no (by omega)]
      go_enter Tryz.func7, Tryz.ntmps7
      have Y0 := Z0.out (left) (by omega) (by omega) _ LH.out
      rw [show (SzB (left) s0) = SzB (left) s0 from rfl] at Y0
      have y0 : szI (left) s0 = left - s0 := szI_yes (by omega)
      unfold SzB at Y0
      rw [y0] at Y0
      have Y0 := Lib.hid Y0
      clear y0
      go_wp2_with fail
      refine Y0.out.mono ?_
      rintro e w1 ⟨rfl, b1⟩
      have B1 := Lib.hid (chainX w (LH.out) b1)
      have XN := X.out.later b1
      have x1_0 := XN.cells 0 _ rfl
      have x1_1 := XN.cells 1 _ rfl
      have x1_2 := XN.cells 2 _ rfl
      have x1_3 := XN.cells 3 _ rfl
      have x1_4 := XN.cells 4 _ rfl
      have x1_5 := XN.cells 5 _ rfl
      have x1_6 := XN.cells 6 _ rfl
      have x1_7 := XN.cells 7 _ rfl
      have x1_8 := XN.cells 8 _ rfl
      have x1_9 := XN.cells 9 _ rfl
      have x1_10 := XN.cells 10 _ rfl
      have x1_11 := XN.cells 11 _ rfl
      have X1 := Lib.hid XN
      clear XN
      clear b1 Y0
      have Y1 := Z1.out (left - s0) (by omega) (by omega) _ B1.out
      rw [show (SzB (left - s0) s1) = SzB (left - s0) s1 from rfl] at Y1
      have y1 : szI (left - s0) s1 = -1 := szI_no (by omega)
      unfold SzB at Y1
      rw [y1] at Y1
      have Y1 := Lib.hid Y1
      clear y1
      go_wp2_with fail
      refine Y1.out.mono ?_
      rintro e w2 ⟨rfl, b2⟩
      have B2 := Lib.hid (chainX w (B1.out) b2)
      have XN := X1.out.later b2
      have X2 := Lib.hid XN
      clear XN
      clear x1_0 x1_1 x1_2 x1_3 x1_4 x1_5 x1_6 x1_7 x1_8 x1_9 x1_10 x1_11
      clear b2 Y1
      go_wp2
      go_ret
      exact ⟨rfl, B2.out⟩
  · rw [szI_no (by omega)]
    go_enter Tryz.func7, Tryz.ntmps7
    have Y0 := Z0.out (left) (by omega) (by omega) _ LH.out
    rw [show (SzB (left) s0) = SzB (left) s0 from rfl] at Y0
    have y0 : szI (left) s0 = -1 := szI_no (by omega)
    unfold SzB at Y0
    rw [y0] at Y0
    have Y0 := Lib.hid Y0
    clear y0
    go_wp2_with fail
    refine Y0.out.mono ?_
    rintro e w1 ⟨rfl, b1⟩
    have B1 := Lib.hid (chainX w (LH.out) b1)
    have XN := X.out.later b1
    have X1 := Lib.hid XN
    clear XN
    clear b1 Y0
    go_wp2
    go_ret
    exact ⟨rfl, B1.out⟩

set_option maxRecDepth 100000 in
set_option maxHeartbeats 1000000 in
theorem toPgState {cs : List Value} {fr : Bool} {lo : Nat} (d : DPgState) (w : World) (hs : Rdb.sz d ≤ 2097152) (h : Rdb.rd fr lo w cs d) : Calls Tryz.prog 9 #[.agg cs.toArray] w (StC d w) := by
  obtain ⟨a0_6, c0_6, a0_7, c0_7, a0_8, c0_8, a0_11, c0_11, rfl, f0_0, f0_1, f0_2, f0_3, f0_4, f0_5, f0_6, g0_6, f0_7, g0_7, f0_8, g0_8, f0_9, f0_10, f0_11, g0_11⟩ := shape_PgState h
  have BH := Lib.hid (show Below w.heap.size w (((w.alloc (.cells #[.int .i64 d.pg.pool, .int .i64 d.pg.no, .int .i64 d.seen, .int .i64 d.started, .int .i64 d.tail.epoch, .int .i64 d.tail.seq, .slice a0_6 d.base.length c0_6, .slice a0_7 d.clients.length c0_7, .slice a0_8 d.log.length c0_8, .int .i64 d.firm.epoch, .int .i64 d.firm.seq, .slice a0_11 d.chunks.length c0_11] 31)).alloc (.cells #[.int .i64 0, .int .i64 0, .int .i64 0, .int .i64 0, .int .i64 0, .int .i64 0, .slice none 0 0, .slice none 0 0, .slice none 0 0, .int .i64 0, .int .i64 0, .slice none 0 0] 41)).alloc (.cells #[.int .i64 0, .int .i64 0, .int .i64 0, .int .i64 0, .int .i64 0, .int .i64 0, .slice none 0 0, .slice none 0 0, .slice none 0 0, .int .i64 0, .int .i64 0, .slice none 0 0] 41)) from chain (chain (lay w _) (lay _ _)) (lay _ _))
  have XH := Lib.hid (((BxN.new w #[.int .i64 d.pg.pool, .int .i64 d.pg.no, .int .i64 d.seen, .int .i64 d.started, .int .i64 d.tail.epoch, .int .i64 d.tail.seq, .slice a0_6 d.base.length c0_6, .slice a0_7 d.clients.length c0_7, .slice a0_8 d.log.length c0_8, .int .i64 d.firm.epoch, .int .i64 d.firm.seq, .slice a0_11 d.chunks.length c0_11] 31).later (lay _ (.cells #[.int .i64 0, .int .i64 0, .int .i64 0, .int .i64 0, .int .i64 0, .int .i64 0, .slice none 0 0, .slice none 0 0, .slice none 0 0, .int .i64 0, .int .i64 0, .slice none 0 0] 41))).later (lay _ (.cells #[.int .i64 0, .int .i64 0, .int .i64 0, .int .i64 0, .int .i64 0, .int .i64 0, .slice none 0 0, .slice none 0 0, .slice none 0 0, .int .i64 0, .int .i64 0, .slice none 0 0] 41)))
  have Y0 := (BxN.new (w.alloc (.cells #[.int .i64 d.pg.pool, .int .i64 d.pg.no, .int .i64 d.seen, .int .i64 d.started, .int .i64 d.tail.epoch, .int .i64 d.tail.seq, .slice a0_6 d.base.length c0_6, .slice a0_7 d.clients.length c0_7, .slice a0_8 d.log.length c0_8, .int .i64 d.firm.epoch, .int .i64 d.firm.seq, .slice a0_11 d.chunks.length c0_11] 31)) #[.int .i64 0, .int .i64 0, .int .i64 0, .int .i64 0, .int .i64 0, .int .i64 0, .slice none 0 0, .slice none 0 0, .slice none 0 0, .int .i64 0, .int .i64 0, .slice none 0 0] 41).later (lay _ (.cells #[.int .i64 0, .int .i64 0, .int .i64 0, .int .i64 0, .int .i64 0, .int .i64 0, .slice none 0 0, .slice none 0 0, .slice none 0 0, .int .i64 0, .int .i64 0, .slice none 0 0] 41))
  have Z0 := BxN.new ((w.alloc (.cells #[.int .i64 d.pg.pool, .int .i64 d.pg.no, .int .i64 d.seen, .int .i64 d.started, .int .i64 d.tail.epoch, .int .i64 d.tail.seq, .slice a0_6 d.base.length c0_6, .slice a0_7 d.clients.length c0_7, .slice a0_8 d.log.length c0_8, .int .i64 d.firm.epoch, .int .i64 d.firm.seq, .slice a0_11 d.chunks.length c0_11] 31)).alloc (.cells #[.int .i64 0, .int .i64 0, .int .i64 0, .int .i64 0, .int .i64 0, .int .i64 0, .slice none 0 0, .slice none 0 0, .slice none 0 0, .int .i64 0, .int .i64 0, .slice none 0 0] 41)) #[.int .i64 0, .int .i64 0, .int .i64 0, .int .i64 0, .int .i64 0, .int .i64 0, .slice none 0 0, .slice none 0 0, .slice none 0 0, .int .i64 0, .int .i64 0, .slice none 0 0] 41
  simp only [World.size_alloc] at Y0 Z0
  have YH := Lib.hid Y0
  have ZH := Lib.hid Z0
  clear Y0 Z0
  have SH : w.heap.size + 3 ≤ (((w.alloc (.cells #[.int .i64 d.pg.pool, .int .i64 d.pg.no, .int .i64 d.seen, .int .i64 d.started, .int .i64 d.tail.epoch, .int .i64 d.tail.seq, .slice a0_6 d.base.length c0_6, .slice a0_7 d.clients.length c0_7, .slice a0_8 d.log.length c0_8, .int .i64 d.firm.epoch, .int .i64 d.firm.seq, .slice a0_11 d.chunks.length c0_11] 31)).alloc (.cells #[.int .i64 0, .int .i64 0, .int .i64 0, .int .i64 0, .int .i64 0, .int .i64 0, .slice none 0 0, .slice none 0 0, .slice none 0 0, .int .i64 0, .int .i64 0, .slice none 0 0] 41)).alloc (.cells #[.int .i64 0, .int .i64 0, .int .i64 0, .int .i64 0, .int .i64 0, .int .i64 0, .slice none 0 0, .slice none 0 0, .slice none 0 0, .int .i64 0, .int .i64 0, .slice none 0 0] 41)).heap.size := by simp only [World.size_alloc]; omega
  have SH := Lib.hid SH
  have E : Rdb.sz d = Rdb.sz d.base + Rdb.sz d.clients + Rdb.sz d.log + Rdb.sz d.chunks := rfl
  have C0 := Lib.hid (fun w' (b : Below w.heap.size w w') => toPg (fr := true) (lo := 0) d.pg w' (by show (0 : Nat) ≤ _; omega) (mk_Pg (d := d.pg)  f0_0 f0_1))
  have C1 := Lib.hid (fun w' (b : Below w.heap.size w w') => toVer (fr := true) (lo := 0) d.tail w' (by show (0 : Nat) ≤ _; omega) (mk_Ver (d := d.tail)  f0_4 f0_5))
  have C2 := Lib.hid (fun w' (b : Below w.heap.size w w') => toHeadS a0_6 c0_6 d.base w' (by omega) (f0_6.below b))
  have C3 := Lib.hid (fun w' (b : Below w.heap.size w w') => toLastS a0_7 c0_7 d.clients w' (by omega) (f0_7.below b))
  have C4 := Lib.hid (fun w' (b : Below w.heap.size w w') => toEntryS a0_8 c0_8 d.log w' (by omega) (f0_8.below b))
  have C5 := Lib.hid (fun w' (b : Below w.heap.size w w') => toVer (fr := true) (lo := 0) d.firm w' (by show (0 : Nat) ≤ _; omega) (mk_Ver (d := d.firm)  f0_9 f0_10))
  have C6 := Lib.hid (fun w' (b : Below w.heap.size w w') => toChunkS a0_11 c0_11 d.chunks w' (by omega) (f0_11.below b))
  clear E f0_6 f0_7 f0_8 f0_11
  go_enter Tryz.func9, Tryz.ntmps9
  go_wp2_with fail
  refine (C0.out _ BH.out).mono ?_
  rintro e w1 ⟨cs1, rfl, r1, b1⟩
  obtain ⟨rfl, f1_0, f1_1⟩ := shape_Pg r1
  have XL := XH.out.later b1
  have ZL := ZH.out.later b1
  have YL := YH.out.later b1
  have SL : w.heap.size + 3 ≤ w1.heap.size := Nat.le_trans SH.out b1.size
  have BL := chainX w BH.out b1
  have x1_2_s := XL.cells 2 _ rfl
  have x1_3_s := XL.cells 3 _ rfl
  have z1_0 := ZL.cells 0 _ rfl
  have zf1_0 := ZL.free 0
  have z1_1 := ZL.cells 1 _ rfl
  have zf1_1 := ZL.free 1
  have z1_2 := ZL.cells 2 _ rfl
  have zf1_2 := ZL.free 2
  have z1_3 := ZL.cells 3 _ rfl
  have zf1_3 := ZL.free 3
  have Z1H := Lib.hid ((((ZL.put 0 (by simp) (.int .i64 d.pg.pool)).put 1 (by simp) (.int .i64 d.pg.no)).put 2 (by simp) (.int .i64 d.seen)).put 3 (by simp) (.int .i64 d.started))
  have X1H := Lib.hid ((((XL.far (p := ⟨w.heap.size + 1 + 1, 0, none⟩) (by show w.heap.size + 1 + 1 ≠ w.heap.size; omega) (.int .i64 d.pg.pool)).far (p := ⟨w.heap.size + 1 + 1, 1, none⟩) (by show w.heap.size + 1 + 1 ≠ w.heap.size; omega) (.int .i64 d.pg.no)).far (p := ⟨w.heap.size + 1 + 1, 2, none⟩) (by show w.heap.size + 1 + 1 ≠ w.heap.size; omega) (.int .i64 d.seen)).far (p := ⟨w.heap.size + 1 + 1, 3, none⟩) (by show w.heap.size + 1 + 1 ≠ w.heap.size; omega) (.int .i64 d.started))
  have Y1H := Lib.hid ((((YL.far (p := ⟨w.heap.size + 1 + 1, 0, none⟩) (by show w.heap.size + 1 + 1 ≠ w.heap.size + 1; omega) (.int .i64 d.pg.pool)).far (p := ⟨w.heap.size + 1 + 1, 1, none⟩) (by show w.heap.size + 1 + 1 ≠ w.heap.size + 1; omega) (.int .i64 d.pg.no)).far (p := ⟨w.heap.size + 1 + 1, 2, none⟩) (by show w.heap.size + 1 + 1 ≠ w.heap.size + 1; omega) (.int .i64 d.seen)).far (p := ⟨w.heap.size + 1 + 1, 3, none⟩) (by show w.heap.size + 1 + 1 ≠ w.heap.size + 1; omega) (.int .i64 d.started))
  have B1H := Lib.hid ((((BL.setCell (p := ⟨w.heap.size + 1 + 1, 0, none⟩) (by show _ ≤ w.heap.size + 1 + 1; omega) (.int .i64 d.pg.pool)).setCell (p := ⟨w.heap.size + 1 + 1, 1, none⟩) (by show _ ≤ w.heap.size + 1 + 1; omega) (.int .i64 d.pg.no)).setCell (p := ⟨w.heap.size + 1 + 1, 2, none⟩) (by show _ ≤ w.heap.size + 1 + 1; omega) (.int .i64 d.seen)).setCell (p := ⟨w.heap.size + 1 + 1, 3, none⟩) (by show _ ≤ w.heap.size + 1 + 1; omega) (.int .i64 d.started))
  have S1H := Lib.hid (show w.heap.size + 3 ≤ ((((w1.setCell ⟨w.heap.size + 1 + 1, 0, none⟩ (.int .i64 d.pg.pool)).setCell ⟨w.heap.size + 1 + 1, 1, none⟩ (.int .i64 d.pg.no)).setCell ⟨w.heap.size + 1 + 1, 2, none⟩ (.int .i64 d.seen)).setCell ⟨w.heap.size + 1 + 1, 3, none⟩ (.int .i64 d.started)).heap.size by simpa using SL)
  clear XL ZL YL BL SL b1  XH YH ZH BH SH
  have x1_0 := X1H.out.cells 0 _ rfl
  have x1_1 := X1H.out.cells 1 _ rfl
  have x1_2 := X1H.out.cells 2 _ rfl
  have x1_3 := X1H.out.cells 3 _ rfl
  have x1_4 := X1H.out.cells 4 _ rfl
  have x1_5 := X1H.out.cells 5 _ rfl
  have x1_6 := X1H.out.cells 6 _ rfl
  have x1_7 := X1H.out.cells 7 _ rfl
  have x1_8 := X1H.out.cells 8 _ rfl
  have x1_9 := X1H.out.cells 9 _ rfl
  have x1_10 := X1H.out.cells 10 _ rfl
  have x1_11 := X1H.out.cells 11 _ rfl
  go_wp2_with fail
  refine (C1.out _ B1H.out).mono ?_
  rintro e w2 ⟨cs2, rfl, r2, b2⟩
  obtain ⟨rfl, f2_0, f2_1⟩ := shape_Ver r2
  have XL := X1H.out.later b2
  have ZL := Z1H.out.later b2
  have YL := Y1H.out.later b2
  have SL : w.heap.size + 3 ≤ w2.heap.size := Nat.le_trans S1H.out b2.size
  have BL := chainX w B1H.out b2
  have z2_4 := ZL.cells 4 _ rfl
  have zf2_4 := ZL.free 4
  have z2_5 := ZL.cells 5 _ rfl
  have zf2_5 := ZL.free 5
  have Z2H := Lib.hid ((ZL.put 4 (by simp) (.int .i64 d.tail.epoch)).put 5 (by simp) (.int .i64 d.tail.seq))
  have X2H := Lib.hid ((XL.far (p := ⟨w.heap.size + 1 + 1, 4, none⟩) (by show w.heap.size + 1 + 1 ≠ w.heap.size; omega) (.int .i64 d.tail.epoch)).far (p := ⟨w.heap.size + 1 + 1, 5, none⟩) (by show w.heap.size + 1 + 1 ≠ w.heap.size; omega) (.int .i64 d.tail.seq))
  have Y2H := Lib.hid ((YL.far (p := ⟨w.heap.size + 1 + 1, 4, none⟩) (by show w.heap.size + 1 + 1 ≠ w.heap.size + 1; omega) (.int .i64 d.tail.epoch)).far (p := ⟨w.heap.size + 1 + 1, 5, none⟩) (by show w.heap.size + 1 + 1 ≠ w.heap.size + 1; omega) (.int .i64 d.tail.seq))
  have B2H := Lib.hid ((BL.setCell (p := ⟨w.heap.size + 1 + 1, 4, none⟩) (by show _ ≤ w.heap.size + 1 + 1; omega) (.int .i64 d.tail.epoch)).setCell (p := ⟨w.heap.size + 1 + 1, 5, none⟩) (by show _ ≤ w.heap.size + 1 + 1; omega) (.int .i64 d.tail.seq))
  have S2H := Lib.hid (show w.heap.size + 3 ≤ ((w2.setCell ⟨w.heap.size + 1 + 1, 4, none⟩ (.int .i64 d.tail.epoch)).setCell ⟨w.heap.size + 1 + 1, 5, none⟩ (.int .i64 d.tail.seq)).heap.size by simpa using SL)
  clear XL ZL YL BL SL b2  X1H Y1H Z1H B1H S1H
  have x2_0 := X2H.out.cells 0 _ rfl
  have x2_1 := X2H.out.cells 1 _ rfl
  have x2_2 := X2H.out.cells 2 _ rfl
  have x2_3 := X2H.out.cells 3 _ rfl
  have x2_4 := X2H.out.cells 4 _ rfl
  have x2_5 := X2H.out.cells 5 _ rfl
  have x2_6 := X2H.out.cells 6 _ rfl
  have x2_7 := X2H.out.cells 7 _ rfl
  have x2_8 := X2H.out.cells 8 _ rfl
  have x2_9 := X2H.out.cells 9 _ rfl
  have x2_10 := X2H.out.cells 10 _ rfl
  have x2_11 := X2H.out.cells 11 _ rfl
  go_wp2_with fail
  refine (C2.out _ B2H.out).mono ?_
  rintro e w3 ⟨q3, rfl, r3, -, -, -, b3⟩
  have XL := X2H.out.later b3
  have ZL := Z2H.out.later b3
  have YL := Y2H.out.later b3
  have SL : w.heap.size + 3 ≤ w3.heap.size := Nat.le_trans S2H.out b3.size
  have BL := chainX w B2H.out b3
  have z3_6 := ZL.cells 6 _ rfl
  have zf3_6 := ZL.free 6
  have Z3H := Lib.hid (ZL.put 6 (by simp) (.slice (some ⟨q3, 0, none⟩) d.base.length d.base.length))
  have X3H := Lib.hid (XL.far (p := ⟨w.heap.size + 1 + 1, 6, none⟩) (by show w.heap.size + 1 + 1 ≠ w.heap.size; omega) (.slice (some ⟨q3, 0, none⟩) d.base.length d.base.length))
  have Y3H := Lib.hid (YL.far (p := ⟨w.heap.size + 1 + 1, 6, none⟩) (by show w.heap.size + 1 + 1 ≠ w.heap.size + 1; omega) (.slice (some ⟨q3, 0, none⟩) d.base.length d.base.length))
  have B3H := Lib.hid (BL.setCell (p := ⟨w.heap.size + 1 + 1, 6, none⟩) (by show _ ≤ w.heap.size + 1 + 1; omega) (.slice (some ⟨q3, 0, none⟩) d.base.length d.base.length))
  have R_r3 := Lib.hid (Rows.far (p := ⟨w.heap.size + 1 + 1, 6, none⟩) (v := .slice (some ⟨q3, 0, none⟩) d.base.length d.base.length) (r3.weak S2H.out id) (by show w.heap.size + 1 + 1 < w.heap.size + 3; omega))
  have S3H := Lib.hid (show w.heap.size + 3 ≤ (w3.setCell ⟨w.heap.size + 1 + 1, 6, none⟩ (.slice (some ⟨q3, 0, none⟩) d.base.length d.base.length)).heap.size by simpa using SL)
  clear XL ZL YL BL SL b3 r3 X2H Y2H Z2H B2H S2H
  have x3_0 := X3H.out.cells 0 _ rfl
  have x3_1 := X3H.out.cells 1 _ rfl
  have x3_2 := X3H.out.cells 2 _ rfl
  have x3_3 := X3H.out.cells 3 _ rfl
  have x3_4 := X3H.out.cells 4 _ rfl
  have x3_5 := X3H.out.cells 5 _ rfl
  have x3_6 := X3H.out.cells 6 _ rfl
  have x3_7 := X3H.out.cells 7 _ rfl
  have x3_8 := X3H.out.cells 8 _ rfl
  have x3_9 := X3H.out.cells 9 _ rfl
  have x3_10 := X3H.out.cells 10 _ rfl
  have x3_11 := X3H.out.cells 11 _ rfl
  go_wp2_with fail
  refine (C3.out _ B3H.out).mono ?_
  rintro e w4 ⟨q4, rfl, r4, -, -, -, b4⟩
  have XL := X3H.out.later b4
  have ZL := Z3H.out.later b4
  have YL := Y3H.out.later b4
  have SL : w.heap.size + 3 ≤ w4.heap.size := Nat.le_trans S3H.out b4.size
  have BL := chainX w B3H.out b4
  have z4_7 := ZL.cells 7 _ rfl
  have zf4_7 := ZL.free 7
  have Z4H := Lib.hid (ZL.put 7 (by simp) (.slice (some ⟨q4, 0, none⟩) d.clients.length d.clients.length))
  have X4H := Lib.hid (XL.far (p := ⟨w.heap.size + 1 + 1, 7, none⟩) (by show w.heap.size + 1 + 1 ≠ w.heap.size; omega) (.slice (some ⟨q4, 0, none⟩) d.clients.length d.clients.length))
  have Y4H := Lib.hid (YL.far (p := ⟨w.heap.size + 1 + 1, 7, none⟩) (by show w.heap.size + 1 + 1 ≠ w.heap.size + 1; omega) (.slice (some ⟨q4, 0, none⟩) d.clients.length d.clients.length))
  have B4H := Lib.hid (BL.setCell (p := ⟨w.heap.size + 1 + 1, 7, none⟩) (by show _ ≤ w.heap.size + 1 + 1; omega) (.slice (some ⟨q4, 0, none⟩) d.clients.length d.clients.length))
  have R_r3 := Lib.hid (Rows.far (p := ⟨w.heap.size + 1 + 1, 7, none⟩) (v := .slice (some ⟨q4, 0, none⟩) d.clients.length d.clients.length) (R_r3.out.below b4) (by show w.heap.size + 1 + 1 < w.heap.size + 3; omega))
  have R_r4 := Lib.hid (Rows.far (p := ⟨w.heap.size + 1 + 1, 7, none⟩) (v := .slice (some ⟨q4, 0, none⟩) d.clients.length d.clients.length) (r4.weak S3H.out id) (by show w.heap.size + 1 + 1 < w.heap.size + 3; omega))
  have S4H := Lib.hid (show w.heap.size + 3 ≤ (w4.setCell ⟨w.heap.size + 1 + 1, 7, none⟩ (.slice (some ⟨q4, 0, none⟩) d.clients.length d.clients.length)).heap.size by simpa using SL)
  clear XL ZL YL BL SL b4 r4 X3H Y3H Z3H B3H S3H
  have x4_0 := X4H.out.cells 0 _ rfl
  have x4_1 := X4H.out.cells 1 _ rfl
  have x4_2 := X4H.out.cells 2 _ rfl
  have x4_3 := X4H.out.cells 3 _ rfl
  have x4_4 := X4H.out.cells 4 _ rfl
  have x4_5 := X4H.out.cells 5 _ rfl
  have x4_6 := X4H.out.cells 6 _ rfl
  have x4_7 := X4H.out.cells 7 _ rfl
  have x4_8 := X4H.out.cells 8 _ rfl
  have x4_9 := X4H.out.cells 9 _ rfl
  have x4_10 := X4H.out.cells 10 _ rfl
  have x4_11 := X4H.out.cells 11 _ rfl
  go_wp2_with fail
  refine (C4.out _ B4H.out).mono ?_
  rintro e w5 ⟨q5, rfl, r5, -, -, -, b5⟩
  have XL := X4H.out.later b5
  have ZL := Z4H.out.later b5
  have YL := Y4H.out.later b5
  have SL : w.heap.size + 3 ≤ w5.heap.size := Nat.le_trans S4H.out b5.size
  have BL := chainX w B4H.out b5
  have z5_8 := ZL.cells 8 _ rfl
  have zf5_8 := ZL.free 8
  have Z5H := Lib.hid (ZL.put 8 (by simp) (.slice (some ⟨q5, 0, none⟩) d.log.length d.log.length))
  have X5H := Lib.hid (XL.far (p := ⟨w.heap.size + 1 + 1, 8, none⟩) (by show w.heap.size + 1 + 1 ≠ w.heap.size; omega) (.slice (some ⟨q5, 0, none⟩) d.log.length d.log.length))
  have Y5H := Lib.hid (YL.far (p := ⟨w.heap.size + 1 + 1, 8, none⟩) (by show w.heap.size + 1 + 1 ≠ w.heap.size + 1; omega) (.slice (some ⟨q5, 0, none⟩) d.log.length d.log.length))
  have B5H := Lib.hid (BL.setCell (p := ⟨w.heap.size + 1 + 1, 8, none⟩) (by show _ ≤ w.heap.size + 1 + 1; omega) (.slice (some ⟨q5, 0, none⟩) d.log.length d.log.length))
  have R_r3 := Lib.hid (Rows.far (p := ⟨w.heap.size + 1 + 1, 8, none⟩) (v := .slice (some ⟨q5, 0, none⟩) d.log.length d.log.length) (R_r3.out.below b5) (by show w.heap.size + 1 + 1 < w.heap.size + 3; omega))
  have R_r4 := Lib.hid (Rows.far (p := ⟨w.heap.size + 1 + 1, 8, none⟩) (v := .slice (some ⟨q5, 0, none⟩) d.log.length d.log.length) (R_r4.out.below b5) (by show w.heap.size + 1 + 1 < w.heap.size + 3; omega))
  have R_r5 := Lib.hid (Rows.far (p := ⟨w.heap.size + 1 + 1, 8, none⟩) (v := .slice (some ⟨q5, 0, none⟩) d.log.length d.log.length) (r5.weak S4H.out id) (by show w.heap.size + 1 + 1 < w.heap.size + 3; omega))
  have S5H := Lib.hid (show w.heap.size + 3 ≤ (w5.setCell ⟨w.heap.size + 1 + 1, 8, none⟩ (.slice (some ⟨q5, 0, none⟩) d.log.length d.log.length)).heap.size by simpa using SL)
  clear XL ZL YL BL SL b5 r5 X4H Y4H Z4H B4H S4H
  have x5_0 := X5H.out.cells 0 _ rfl
  have x5_1 := X5H.out.cells 1 _ rfl
  have x5_2 := X5H.out.cells 2 _ rfl
  have x5_3 := X5H.out.cells 3 _ rfl
  have x5_4 := X5H.out.cells 4 _ rfl
  have x5_5 := X5H.out.cells 5 _ rfl
  have x5_6 := X5H.out.cells 6 _ rfl
  have x5_7 := X5H.out.cells 7 _ rfl
  have x5_8 := X5H.out.cells 8 _ rfl
  have x5_9 := X5H.out.cells 9 _ rfl
  have x5_10 := X5H.out.cells 10 _ rfl
  have x5_11 := X5H.out.cells 11 _ rfl
  go_wp2_with fail
  refine (C5.out _ B5H.out).mono ?_
  rintro e w6 ⟨cs6, rfl, r6, b6⟩
  obtain ⟨rfl, f6_0, f6_1⟩ := shape_Ver r6
  have XL := X5H.out.later b6
  have ZL := Z5H.out.later b6
  have YL := Y5H.out.later b6
  have SL : w.heap.size + 3 ≤ w6.heap.size := Nat.le_trans S5H.out b6.size
  have BL := chainX w B5H.out b6
  have z6_9 := ZL.cells 9 _ rfl
  have zf6_9 := ZL.free 9
  have z6_10 := ZL.cells 10 _ rfl
  have zf6_10 := ZL.free 10
  have Z6H := Lib.hid ((ZL.put 9 (by simp) (.int .i64 d.firm.epoch)).put 10 (by simp) (.int .i64 d.firm.seq))
  have X6H := Lib.hid ((XL.far (p := ⟨w.heap.size + 1 + 1, 9, none⟩) (by show w.heap.size + 1 + 1 ≠ w.heap.size; omega) (.int .i64 d.firm.epoch)).far (p := ⟨w.heap.size + 1 + 1, 10, none⟩) (by show w.heap.size + 1 + 1 ≠ w.heap.size; omega) (.int .i64 d.firm.seq))
  have Y6H := Lib.hid ((YL.far (p := ⟨w.heap.size + 1 + 1, 9, none⟩) (by show w.heap.size + 1 + 1 ≠ w.heap.size + 1; omega) (.int .i64 d.firm.epoch)).far (p := ⟨w.heap.size + 1 + 1, 10, none⟩) (by show w.heap.size + 1 + 1 ≠ w.heap.size + 1; omega) (.int .i64 d.firm.seq))
  have B6H := Lib.hid ((BL.setCell (p := ⟨w.heap.size + 1 + 1, 9, none⟩) (by show _ ≤ w.heap.size + 1 + 1; omega) (.int .i64 d.firm.epoch)).setCell (p := ⟨w.heap.size + 1 + 1, 10, none⟩) (by show _ ≤ w.heap.size + 1 + 1; omega) (.int .i64 d.firm.seq))
  have R_r3 := Lib.hid (Rows.far (p := ⟨w.heap.size + 1 + 1, 10, none⟩) (v := .int .i64 d.firm.seq) (Rows.far (p := ⟨w.heap.size + 1 + 1, 9, none⟩) (v := .int .i64 d.firm.epoch) (R_r3.out.below b6) (by show w.heap.size + 1 + 1 < w.heap.size + 3; omega)) (by show w.heap.size + 1 + 1 < w.heap.size + 3; omega))
  have R_r4 := Lib.hid (Rows.far (p := ⟨w.heap.size + 1 + 1, 10, none⟩) (v := .int .i64 d.firm.seq) (Rows.far (p := ⟨w.heap.size + 1 + 1, 9, none⟩) (v := .int .i64 d.firm.epoch) (R_r4.out.below b6) (by show w.heap.size + 1 + 1 < w.heap.size + 3; omega)) (by show w.heap.size + 1 + 1 < w.heap.size + 3; omega))
  have R_r5 := Lib.hid (Rows.far (p := ⟨w.heap.size + 1 + 1, 10, none⟩) (v := .int .i64 d.firm.seq) (Rows.far (p := ⟨w.heap.size + 1 + 1, 9, none⟩) (v := .int .i64 d.firm.epoch) (R_r5.out.below b6) (by show w.heap.size + 1 + 1 < w.heap.size + 3; omega)) (by show w.heap.size + 1 + 1 < w.heap.size + 3; omega))
  have S6H := Lib.hid (show w.heap.size + 3 ≤ ((w6.setCell ⟨w.heap.size + 1 + 1, 9, none⟩ (.int .i64 d.firm.epoch)).setCell ⟨w.heap.size + 1 + 1, 10, none⟩ (.int .i64 d.firm.seq)).heap.size by simpa using SL)
  clear XL ZL YL BL SL b6  X5H Y5H Z5H B5H S5H
  have x6_0 := X6H.out.cells 0 _ rfl
  have x6_1 := X6H.out.cells 1 _ rfl
  have x6_2 := X6H.out.cells 2 _ rfl
  have x6_3 := X6H.out.cells 3 _ rfl
  have x6_4 := X6H.out.cells 4 _ rfl
  have x6_5 := X6H.out.cells 5 _ rfl
  have x6_6 := X6H.out.cells 6 _ rfl
  have x6_7 := X6H.out.cells 7 _ rfl
  have x6_8 := X6H.out.cells 8 _ rfl
  have x6_9 := X6H.out.cells 9 _ rfl
  have x6_10 := X6H.out.cells 10 _ rfl
  have x6_11 := X6H.out.cells 11 _ rfl
  go_wp2_with fail
  refine (C6.out _ B6H.out).mono ?_
  rintro e w7 ⟨q7, rfl, r7, -, -, -, b7⟩
  have XL := X6H.out.later b7
  have ZL := Z6H.out.later b7
  have YL := Y6H.out.later b7
  have SL : w.heap.size + 3 ≤ w7.heap.size := Nat.le_trans S6H.out b7.size
  have BL := chainX w B6H.out b7
  have z7_11 := ZL.cells 11 _ rfl
  have zf7_11 := ZL.free 11
  have Z7H := Lib.hid (ZL.put 11 (by simp) (.slice (some ⟨q7, 0, none⟩) d.chunks.length d.chunks.length))
  have X7H := Lib.hid (XL.far (p := ⟨w.heap.size + 1 + 1, 11, none⟩) (by show w.heap.size + 1 + 1 ≠ w.heap.size; omega) (.slice (some ⟨q7, 0, none⟩) d.chunks.length d.chunks.length))
  have Y7H := Lib.hid (YL.far (p := ⟨w.heap.size + 1 + 1, 11, none⟩) (by show w.heap.size + 1 + 1 ≠ w.heap.size + 1; omega) (.slice (some ⟨q7, 0, none⟩) d.chunks.length d.chunks.length))
  have B7H := Lib.hid (BL.setCell (p := ⟨w.heap.size + 1 + 1, 11, none⟩) (by show _ ≤ w.heap.size + 1 + 1; omega) (.slice (some ⟨q7, 0, none⟩) d.chunks.length d.chunks.length))
  have R_r3 := Lib.hid (Rows.far (p := ⟨w.heap.size + 1 + 1, 11, none⟩) (v := .slice (some ⟨q7, 0, none⟩) d.chunks.length d.chunks.length) (R_r3.out.below b7) (by show w.heap.size + 1 + 1 < w.heap.size + 3; omega))
  have R_r4 := Lib.hid (Rows.far (p := ⟨w.heap.size + 1 + 1, 11, none⟩) (v := .slice (some ⟨q7, 0, none⟩) d.chunks.length d.chunks.length) (R_r4.out.below b7) (by show w.heap.size + 1 + 1 < w.heap.size + 3; omega))
  have R_r5 := Lib.hid (Rows.far (p := ⟨w.heap.size + 1 + 1, 11, none⟩) (v := .slice (some ⟨q7, 0, none⟩) d.chunks.length d.chunks.length) (R_r5.out.below b7) (by show w.heap.size + 1 + 1 < w.heap.size + 3; omega))
  have R_r7 := Lib.hid (Rows.far (p := ⟨w.heap.size + 1 + 1, 11, none⟩) (v := .slice (some ⟨q7, 0, none⟩) d.chunks.length d.chunks.length) (r7.weak S6H.out id) (by show w.heap.size + 1 + 1 < w.heap.size + 3; omega))
  have S7H := Lib.hid (show w.heap.size + 3 ≤ (w7.setCell ⟨w.heap.size + 1 + 1, 11, none⟩ (.slice (some ⟨q7, 0, none⟩) d.chunks.length d.chunks.length)).heap.size by simpa using SL)
  clear XL ZL YL BL SL b7 r7 X6H Y6H Z6H B6H S6H
  have m0 := Z7H.out.cells 0 _ rfl
  have y0 := Y7H.out.cells 0 _ rfl
  have yf0 := Y7H.out.free 0
  have m1 := Z7H.out.cells 1 _ rfl
  have y1 := Y7H.out.cells 1 _ rfl
  have yf1 := Y7H.out.free 1
  have m2 := Z7H.out.cells 2 _ rfl
  have y2 := Y7H.out.cells 2 _ rfl
  have yf2 := Y7H.out.free 2
  have m3 := Z7H.out.cells 3 _ rfl
  have y3 := Y7H.out.cells 3 _ rfl
  have yf3 := Y7H.out.free 3
  have m4 := Z7H.out.cells 4 _ rfl
  have y4 := Y7H.out.cells 4 _ rfl
  have yf4 := Y7H.out.free 4
  have m5 := Z7H.out.cells 5 _ rfl
  have y5 := Y7H.out.cells 5 _ rfl
  have yf5 := Y7H.out.free 5
  have m6 := Z7H.out.cells 6 _ rfl
  have y6 := Y7H.out.cells 6 _ rfl
  have yf6 := Y7H.out.free 6
  have m7 := Z7H.out.cells 7 _ rfl
  have y7 := Y7H.out.cells 7 _ rfl
  have yf7 := Y7H.out.free 7
  have m8 := Z7H.out.cells 8 _ rfl
  have y8 := Y7H.out.cells 8 _ rfl
  have yf8 := Y7H.out.free 8
  have m9 := Z7H.out.cells 9 _ rfl
  have y9 := Y7H.out.cells 9 _ rfl
  have yf9 := Y7H.out.free 9
  have m10 := Z7H.out.cells 10 _ rfl
  have y10 := Y7H.out.cells 10 _ rfl
  have yf10 := Y7H.out.free 10
  have m11 := Z7H.out.cells 11 _ rfl
  have y11 := Y7H.out.cells 11 _ rfl
  have yf11 := Y7H.out.free 11
  have F : StC d w (.returned (.agg #[.int .i64 d.pg.pool, .int .i64 d.pg.no, .int .i64 d.seen, .int .i64 d.started, .int .i64 d.tail.epoch, .int .i64 d.tail.seq, .slice (some ⟨q3, 0, none⟩) d.base.length d.base.length, .slice (some ⟨q4, 0, none⟩) d.clients.length d.clients.length, .slice (some ⟨q5, 0, none⟩) d.log.length d.log.length, .int .i64 d.firm.epoch, .int .i64 d.firm.seq, .slice (some ⟨q7, 0, none⟩) d.chunks.length d.chunks.length])) (((((((((((((w7.setCell ⟨w.heap.size + 1 + 1, 11, none⟩ (.slice (some ⟨q7, 0, none⟩) d.chunks.length d.chunks.length)).setCell ⟨w.heap.size + 1, 0, none⟩ (.int .i64 d.pg.pool)).setCell ⟨w.heap.size + 1, 1, none⟩ (.int .i64 d.pg.no)).setCell ⟨w.heap.size + 1, 2, none⟩ (.int .i64 d.seen)).setCell ⟨w.heap.size + 1, 3, none⟩ (.int .i64 d.started)).setCell ⟨w.heap.size + 1, 4, none⟩ (.int .i64 d.tail.epoch)).setCell ⟨w.heap.size + 1, 5, none⟩ (.int .i64 d.tail.seq)).setCell ⟨w.heap.size + 1, 6, none⟩ (.slice (some ⟨q3, 0, none⟩) d.base.length d.base.length)).setCell ⟨w.heap.size + 1, 7, none⟩ (.slice (some ⟨q4, 0, none⟩) d.clients.length d.clients.length)).setCell ⟨w.heap.size + 1, 8, none⟩ (.slice (some ⟨q5, 0, none⟩) d.log.length d.log.length)).setCell ⟨w.heap.size + 1, 9, none⟩ (.int .i64 d.firm.epoch)).setCell ⟨w.heap.size + 1, 10, none⟩ (.int .i64 d.firm.seq)).setCell ⟨w.heap.size + 1, 11, none⟩ (.slice (some ⟨q7, 0, none⟩) d.chunks.length d.chunks.length)) := ⟨_, rfl, mk_PgState f0_0 f0_1 f0_2 f0_3 f0_4 f0_5 ((Rows.far (p := ⟨w.heap.size + 1, 11, none⟩) (v := .slice (some ⟨q7, 0, none⟩) d.chunks.length d.chunks.length) (Rows.far (p := ⟨w.heap.size + 1, 10, none⟩) (v := .int .i64 d.firm.seq) (Rows.far (p := ⟨w.heap.size + 1, 9, none⟩) (v := .int .i64 d.firm.epoch) (Rows.far (p := ⟨w.heap.size + 1, 8, none⟩) (v := .slice (some ⟨q5, 0, none⟩) d.log.length d.log.length) (Rows.far (p := ⟨w.heap.size + 1, 7, none⟩) (v := .slice (some ⟨q4, 0, none⟩) d.clients.length d.clients.length) (Rows.far (p := ⟨w.heap.size + 1, 6, none⟩) (v := .slice (some ⟨q3, 0, none⟩) d.base.length d.base.length) (Rows.far (p := ⟨w.heap.size + 1, 5, none⟩) (v := .int .i64 d.tail.seq) (Rows.far (p := ⟨w.heap.size + 1, 4, none⟩) (v := .int .i64 d.tail.epoch) (Rows.far (p := ⟨w.heap.size + 1, 3, none⟩) (v := .int .i64 d.started) (Rows.far (p := ⟨w.heap.size + 1, 2, none⟩) (v := .int .i64 d.seen) (Rows.far (p := ⟨w.heap.size + 1, 1, none⟩) (v := .int .i64 d.pg.no) (Rows.far (p := ⟨w.heap.size + 1, 0, none⟩) (v := .int .i64 d.pg.pool) R_r3.out (by show w.heap.size + 1 < w.heap.size + 3; omega)) (by show w.heap.size + 1 < w.heap.size + 3; omega)) (by show w.heap.size + 1 < w.heap.size + 3; omega)) (by show w.heap.size + 1 < w.heap.size + 3; omega)) (by show w.heap.size + 1 < w.heap.size + 3; omega)) (by show w.heap.size + 1 < w.heap.size + 3; omega)) (by show w.heap.size + 1 < w.heap.size + 3; omega)) (by show w.heap.size + 1 < w.heap.size + 3; omega)) (by show w.heap.size + 1 < w.heap.size + 3; omega)) (by show w.heap.size + 1 < w.heap.size + 3; omega)) (by show w.heap.size + 1 < w.heap.size + 3; omega)) (by show w.heap.size + 1 < w.heap.size + 3; omega)).weak (by omega) id) ⟨g0_6.1, Nat.le_refl _⟩ ((Rows.far (p := ⟨w.heap.size + 1, 11, none⟩) (v := .slice (some ⟨q7, 0, none⟩) d.chunks.length d.chunks.length) (Rows.far (p := ⟨w.heap.size + 1, 10, none⟩) (v := .int .i64 d.firm.seq) (Rows.far (p := ⟨w.heap.size + 1, 9, none⟩) (v := .int .i64 d.firm.epoch) (Rows.far (p := ⟨w.heap.size + 1, 8, none⟩) (v := .slice (some ⟨q5, 0, none⟩) d.log.length d.log.length) (Rows.far (p := ⟨w.heap.size + 1, 7, none⟩) (v := .slice (some ⟨q4, 0, none⟩) d.clients.length d.clients.length) (Rows.far (p := ⟨w.heap.size + 1, 6, none⟩) (v := .slice (some ⟨q3, 0, none⟩) d.base.length d.base.length) (Rows.far (p := ⟨w.heap.size + 1, 5, none⟩) (v := .int .i64 d.tail.seq) (Rows.far (p := ⟨w.heap.size + 1, 4, none⟩) (v := .int .i64 d.tail.epoch) (Rows.far (p := ⟨w.heap.size + 1, 3, none⟩) (v := .int .i64 d.started) (Rows.far (p := ⟨w.heap.size + 1, 2, none⟩) (v := .int .i64 d.seen) (Rows.far (p := ⟨w.heap.size + 1, 1, none⟩) (v := .int .i64 d.pg.no) (Rows.far (p := ⟨w.heap.size + 1, 0, none⟩) (v := .int .i64 d.pg.pool) R_r4.out (by show w.heap.size + 1 < w.heap.size + 3; omega)) (by show w.heap.size + 1 < w.heap.size + 3; omega)) (by show w.heap.size + 1 < w.heap.size + 3; omega)) (by show w.heap.size + 1 < w.heap.size + 3; omega)) (by show w.heap.size + 1 < w.heap.size + 3; omega)) (by show w.heap.size + 1 < w.heap.size + 3; omega)) (by show w.heap.size + 1 < w.heap.size + 3; omega)) (by show w.heap.size + 1 < w.heap.size + 3; omega)) (by show w.heap.size + 1 < w.heap.size + 3; omega)) (by show w.heap.size + 1 < w.heap.size + 3; omega)) (by show w.heap.size + 1 < w.heap.size + 3; omega)) (by show w.heap.size + 1 < w.heap.size + 3; omega)).weak (by omega) id) ⟨g0_7.1, Nat.le_refl _⟩ ((Rows.far (p := ⟨w.heap.size + 1, 11, none⟩) (v := .slice (some ⟨q7, 0, none⟩) d.chunks.length d.chunks.length) (Rows.far (p := ⟨w.heap.size + 1, 10, none⟩) (v := .int .i64 d.firm.seq) (Rows.far (p := ⟨w.heap.size + 1, 9, none⟩) (v := .int .i64 d.firm.epoch) (Rows.far (p := ⟨w.heap.size + 1, 8, none⟩) (v := .slice (some ⟨q5, 0, none⟩) d.log.length d.log.length) (Rows.far (p := ⟨w.heap.size + 1, 7, none⟩) (v := .slice (some ⟨q4, 0, none⟩) d.clients.length d.clients.length) (Rows.far (p := ⟨w.heap.size + 1, 6, none⟩) (v := .slice (some ⟨q3, 0, none⟩) d.base.length d.base.length) (Rows.far (p := ⟨w.heap.size + 1, 5, none⟩) (v := .int .i64 d.tail.seq) (Rows.far (p := ⟨w.heap.size + 1, 4, none⟩) (v := .int .i64 d.tail.epoch) (Rows.far (p := ⟨w.heap.size + 1, 3, none⟩) (v := .int .i64 d.started) (Rows.far (p := ⟨w.heap.size + 1, 2, none⟩) (v := .int .i64 d.seen) (Rows.far (p := ⟨w.heap.size + 1, 1, none⟩) (v := .int .i64 d.pg.no) (Rows.far (p := ⟨w.heap.size + 1, 0, none⟩) (v := .int .i64 d.pg.pool) R_r5.out (by show w.heap.size + 1 < w.heap.size + 3; omega)) (by show w.heap.size + 1 < w.heap.size + 3; omega)) (by show w.heap.size + 1 < w.heap.size + 3; omega)) (by show w.heap.size + 1 < w.heap.size + 3; omega)) (by show w.heap.size + 1 < w.heap.size + 3; omega)) (by show w.heap.size + 1 < w.heap.size + 3; omega)) (by show w.heap.size + 1 < w.heap.size + 3; omega)) (by show w.heap.size + 1 < w.heap.size + 3; omega)) (by show w.heap.size + 1 < w.heap.size + 3; omega)) (by show w.heap.size + 1 < w.heap.size + 3; omega)) (by show w.heap.size + 1 < w.heap.size + 3; omega)) (by show w.heap.size + 1 < w.heap.size + 3; omega)).weak (by omega) id) ⟨g0_8.1, Nat.le_refl _⟩ f0_9 f0_10 ((Rows.far (p := ⟨w.heap.size + 1, 11, none⟩) (v := .slice (some ⟨q7, 0, none⟩) d.chunks.length d.chunks.length) (Rows.far (p := ⟨w.heap.size + 1, 10, none⟩) (v := .int .i64 d.firm.seq) (Rows.far (p := ⟨w.heap.size + 1, 9, none⟩) (v := .int .i64 d.firm.epoch) (Rows.far (p := ⟨w.heap.size + 1, 8, none⟩) (v := .slice (some ⟨q5, 0, none⟩) d.log.length d.log.length) (Rows.far (p := ⟨w.heap.size + 1, 7, none⟩) (v := .slice (some ⟨q4, 0, none⟩) d.clients.length d.clients.length) (Rows.far (p := ⟨w.heap.size + 1, 6, none⟩) (v := .slice (some ⟨q3, 0, none⟩) d.base.length d.base.length) (Rows.far (p := ⟨w.heap.size + 1, 5, none⟩) (v := .int .i64 d.tail.seq) (Rows.far (p := ⟨w.heap.size + 1, 4, none⟩) (v := .int .i64 d.tail.epoch) (Rows.far (p := ⟨w.heap.size + 1, 3, none⟩) (v := .int .i64 d.started) (Rows.far (p := ⟨w.heap.size + 1, 2, none⟩) (v := .int .i64 d.seen) (Rows.far (p := ⟨w.heap.size + 1, 1, none⟩) (v := .int .i64 d.pg.no) (Rows.far (p := ⟨w.heap.size + 1, 0, none⟩) (v := .int .i64 d.pg.pool) R_r7.out (by show w.heap.size + 1 < w.heap.size + 3; omega)) (by show w.heap.size + 1 < w.heap.size + 3; omega)) (by show w.heap.size + 1 < w.heap.size + 3; omega)) (by show w.heap.size + 1 < w.heap.size + 3; omega)) (by show w.heap.size + 1 < w.heap.size + 3; omega)) (by show w.heap.size + 1 < w.heap.size + 3; omega)) (by show w.heap.size + 1 < w.heap.size + 3; omega)) (by show w.heap.size + 1 < w.heap.size + 3; omega)) (by show w.heap.size + 1 < w.heap.size + 3; omega)) (by show w.heap.size + 1 < w.heap.size + 3; omega)) (by show w.heap.size + 1 < w.heap.size + 3; omega)) (by show w.heap.size + 1 < w.heap.size + 3; omega)).weak (by omega) id) ⟨g0_11.1, Nat.le_refl _⟩, ((((((((((((B7H.out.setCell (p := ⟨w.heap.size + 1, 0, none⟩) (by show _ ≤ w.heap.size + 1; omega) (.int .i64 d.pg.pool)).setCell (p := ⟨w.heap.size + 1, 1, none⟩) (by show _ ≤ w.heap.size + 1; omega) (.int .i64 d.pg.no)).setCell (p := ⟨w.heap.size + 1, 2, none⟩) (by show _ ≤ w.heap.size + 1; omega) (.int .i64 d.seen)).setCell (p := ⟨w.heap.size + 1, 3, none⟩) (by show _ ≤ w.heap.size + 1; omega) (.int .i64 d.started)).setCell (p := ⟨w.heap.size + 1, 4, none⟩) (by show _ ≤ w.heap.size + 1; omega) (.int .i64 d.tail.epoch)).setCell (p := ⟨w.heap.size + 1, 5, none⟩) (by show _ ≤ w.heap.size + 1; omega) (.int .i64 d.tail.seq)).setCell (p := ⟨w.heap.size + 1, 6, none⟩) (by show _ ≤ w.heap.size + 1; omega) (.slice (some ⟨q3, 0, none⟩) d.base.length d.base.length)).setCell (p := ⟨w.heap.size + 1, 7, none⟩) (by show _ ≤ w.heap.size + 1; omega) (.slice (some ⟨q4, 0, none⟩) d.clients.length d.clients.length)).setCell (p := ⟨w.heap.size + 1, 8, none⟩) (by show _ ≤ w.heap.size + 1; omega) (.slice (some ⟨q5, 0, none⟩) d.log.length d.log.length)).setCell (p := ⟨w.heap.size + 1, 9, none⟩) (by show _ ≤ w.heap.size + 1; omega) (.int .i64 d.firm.epoch)).setCell (p := ⟨w.heap.size + 1, 10, none⟩) (by show _ ≤ w.heap.size + 1; omega) (.int .i64 d.firm.seq)).setCell (p := ⟨w.heap.size + 1, 11, none⟩) (by show _ ≤ w.heap.size + 1; omega) (.slice (some ⟨q7, 0, none⟩) d.chunks.length d.chunks.length))⟩
  have F := Lib.hid F
  clear X7H Z7H Y7H B7H R_r3 R_r4 R_r5 R_r7
  go_wp2
  exact bodyPost_ret (v := .agg #[.int .i64 d.pg.pool, .int .i64 d.pg.no, .int .i64 d.seen, .int .i64 d.started, .int .i64 d.tail.epoch, .int .i64 d.tail.seq, .slice (some ⟨q3, 0, none⟩) d.base.length d.base.length, .slice (some ⟨q4, 0, none⟩) d.clients.length d.clients.length, .slice (some ⟨q5, 0, none⟩) d.log.length d.log.length, .int .i64 d.firm.epoch, .int .i64 d.firm.seq, .slice (some ⟨q7, 0, none⟩) d.chunks.length d.chunks.length]) (by simp [results, Tryz.results9, go_sem, *]) rfl F.out

set_option maxRecDepth 100000 in
set_option maxHeartbeats 1000000 in
theorem eqPgState {cs ds : List Value} {fr fr2 : Bool} {lo lo2 : Nat} (d : DPgState) (w : World) (hs : Rdb.sz d ≤ 2097152) (h : Rdb.rd fr lo w cs d) (k : Rdb.rd fr2 lo2 w ds d) : Calls Tryz.prog 11 #[.agg cs.toArray, .agg ds.toArray] w (TrueW w) := by
  obtain ⟨a0_6, c0_6, a0_7, c0_7, a0_8, c0_8, a0_11, c0_11, rfl, f0_0, f0_1, f0_2, f0_3, f0_4, f0_5, f0_6, g0_6, f0_7, g0_7, f0_8, g0_8, f0_9, f0_10, f0_11, g0_11⟩ := shape_PgState h
  obtain ⟨a1_6, c1_6, a1_7, c1_7, a1_8, c1_8, a1_11, c1_11, rfl, f1_0, f1_1, f1_2, f1_3, f1_4, f1_5, f1_6, g1_6, f1_7, g1_7, f1_8, g1_8, f1_9, f1_10, f1_11, g1_11⟩ := shape_PgState k
  have BH := Lib.hid (chain (lay w (.cells #[.int .i64 d.pg.pool, .int .i64 d.pg.no, .int .i64 d.seen, .int .i64 d.started, .int .i64 d.tail.epoch, .int .i64 d.tail.seq, .slice a0_6 d.base.length c0_6, .slice a0_7 d.clients.length c0_7, .slice a0_8 d.log.length c0_8, .int .i64 d.firm.epoch, .int .i64 d.firm.seq, .slice a0_11 d.chunks.length c0_11] 41)) (lay _ (.cells #[.int .i64 d.pg.pool, .int .i64 d.pg.no, .int .i64 d.seen, .int .i64 d.started, .int .i64 d.tail.epoch, .int .i64 d.tail.seq, .slice a1_6 d.base.length c1_6, .slice a1_7 d.clients.length c1_7, .slice a1_8 d.log.length c1_8, .int .i64 d.firm.epoch, .int .i64 d.firm.seq, .slice a1_11 d.chunks.length c1_11] 41)))
  have XH := Lib.hid ((BxN.new w #[.int .i64 d.pg.pool, .int .i64 d.pg.no, .int .i64 d.seen, .int .i64 d.started, .int .i64 d.tail.epoch, .int .i64 d.tail.seq, .slice a0_6 d.base.length c0_6, .slice a0_7 d.clients.length c0_7, .slice a0_8 d.log.length c0_8, .int .i64 d.firm.epoch, .int .i64 d.firm.seq, .slice a0_11 d.chunks.length c0_11] 41).later (lay _ (.cells #[.int .i64 d.pg.pool, .int .i64 d.pg.no, .int .i64 d.seen, .int .i64 d.started, .int .i64 d.tail.epoch, .int .i64 d.tail.seq, .slice a1_6 d.base.length c1_6, .slice a1_7 d.clients.length c1_7, .slice a1_8 d.log.length c1_8, .int .i64 d.firm.epoch, .int .i64 d.firm.seq, .slice a1_11 d.chunks.length c1_11] 41)))
  have Y0 := BxN.new (w.alloc (.cells #[.int .i64 d.pg.pool, .int .i64 d.pg.no, .int .i64 d.seen, .int .i64 d.started, .int .i64 d.tail.epoch, .int .i64 d.tail.seq, .slice a0_6 d.base.length c0_6, .slice a0_7 d.clients.length c0_7, .slice a0_8 d.log.length c0_8, .int .i64 d.firm.epoch, .int .i64 d.firm.seq, .slice a0_11 d.chunks.length c0_11] 41)) #[.int .i64 d.pg.pool, .int .i64 d.pg.no, .int .i64 d.seen, .int .i64 d.started, .int .i64 d.tail.epoch, .int .i64 d.tail.seq, .slice a1_6 d.base.length c1_6, .slice a1_7 d.clients.length c1_7, .slice a1_8 d.log.length c1_8, .int .i64 d.firm.epoch, .int .i64 d.firm.seq, .slice a1_11 d.chunks.length c1_11] 41
  rw [World.size_alloc] at Y0
  have YH := Lib.hid Y0
  clear Y0
  have E : Rdb.sz d = Rdb.sz d.base + Rdb.sz d.clients + Rdb.sz d.log + Rdb.sz d.chunks := rfl
  have C0 := Lib.hid (fun w' (b : Below w.heap.size w w') => eqPg (fr := true) (lo := 0) (fr2 := true) (lo2 := 0) d.pg w' (by show (0 : Nat) ≤ _; omega) (mk_Pg (d := d.pg)  f0_0 f0_1) (mk_Pg (d := d.pg)  f1_0 f1_1))
  have C1 := Lib.hid (fun w' (b : Below w.heap.size w w') => eqVer (fr := true) (lo := 0) (fr2 := true) (lo2 := 0) d.tail w' (by show (0 : Nat) ≤ _; omega) (mk_Ver (d := d.tail)  f0_4 f0_5) (mk_Ver (d := d.tail)  f1_4 f1_5))
  have C2 := Lib.hid (fun w' (b : Below w.heap.size w w') => eqHeadS a0_6 a1_6 c0_6 c1_6 d.base w' (by omega) (f0_6.below b) (f1_6.below b))
  have C3 := Lib.hid (fun w' (b : Below w.heap.size w w') => eqLastS a0_7 a1_7 c0_7 c1_7 d.clients w' (by omega) (f0_7.below b) (f1_7.below b))
  have C4 := Lib.hid (fun w' (b : Below w.heap.size w w') => eqEntryS a0_8 a1_8 c0_8 c1_8 d.log w' (by omega) (f0_8.below b) (f1_8.below b))
  have C5 := Lib.hid (fun w' (b : Below w.heap.size w w') => eqVer (fr := true) (lo := 0) (fr2 := true) (lo2 := 0) d.firm w' (by show (0 : Nat) ≤ _; omega) (mk_Ver (d := d.firm)  f0_9 f0_10) (mk_Ver (d := d.firm)  f1_9 f1_10))
  have C6 := Lib.hid (fun w' (b : Below w.heap.size w w') => eqChunkS a0_11 a1_11 c0_11 c1_11 d.chunks w' (by omega) (f0_11.below b) (f1_11.below b))
  clear E f0_6 f1_6 f0_7 f1_7 f0_8 f1_8 f0_11 f1_11
  go_enter Tryz.func11, Tryz.ntmps11
  go_wp2_with fail
  refine (C0.out _ BH.out).mono ?_
  rintro e w1 ⟨rfl, b1⟩
  have B1H := Lib.hid (chainX w BH.out b1)
  have XL := XH.out.later b1
  have YL := YH.out.later b1
  have x1_0 := XL.cells 0 _ rfl
  have y1_0 := YL.cells 0 _ rfl
  have x1_1 := XL.cells 1 _ rfl
  have y1_1 := YL.cells 1 _ rfl
  have x1_2 := XL.cells 2 _ rfl
  have y1_2 := YL.cells 2 _ rfl
  have x1_3 := XL.cells 3 _ rfl
  have y1_3 := YL.cells 3 _ rfl
  have x1_4 := XL.cells 4 _ rfl
  have y1_4 := YL.cells 4 _ rfl
  have x1_5 := XL.cells 5 _ rfl
  have y1_5 := YL.cells 5 _ rfl
  have x1_6 := XL.cells 6 _ rfl
  have y1_6 := YL.cells 6 _ rfl
  have x1_7 := XL.cells 7 _ rfl
  have y1_7 := YL.cells 7 _ rfl
  have x1_8 := XL.cells 8 _ rfl
  have y1_8 := YL.cells 8 _ rfl
  have x1_9 := XL.cells 9 _ rfl
  have y1_9 := YL.cells 9 _ rfl
  have x1_10 := XL.cells 10 _ rfl
  have y1_10 := YL.cells 10 _ rfl
  have x1_11 := XL.cells 11 _ rfl
  have y1_11 := YL.cells 11 _ rfl
  have X1H := Lib.hid XL
  have Y1H := Lib.hid YL
  clear XL YL b1 XH YH
  go_wp2_with fail
  refine (C1.out _ B1H.out).mono ?_
  rintro e w2 ⟨rfl, b2⟩
  have B2H := Lib.hid (chainX w B1H.out b2)
  have XL := X1H.out.later b2
  have YL := Y1H.out.later b2
  have x2_0 := XL.cells 0 _ rfl
  have y2_0 := YL.cells 0 _ rfl
  have x2_1 := XL.cells 1 _ rfl
  have y2_1 := YL.cells 1 _ rfl
  have x2_2 := XL.cells 2 _ rfl
  have y2_2 := YL.cells 2 _ rfl
  have x2_3 := XL.cells 3 _ rfl
  have y2_3 := YL.cells 3 _ rfl
  have x2_4 := XL.cells 4 _ rfl
  have y2_4 := YL.cells 4 _ rfl
  have x2_5 := XL.cells 5 _ rfl
  have y2_5 := YL.cells 5 _ rfl
  have x2_6 := XL.cells 6 _ rfl
  have y2_6 := YL.cells 6 _ rfl
  have x2_7 := XL.cells 7 _ rfl
  have y2_7 := YL.cells 7 _ rfl
  have x2_8 := XL.cells 8 _ rfl
  have y2_8 := YL.cells 8 _ rfl
  have x2_9 := XL.cells 9 _ rfl
  have y2_9 := YL.cells 9 _ rfl
  have x2_10 := XL.cells 10 _ rfl
  have y2_10 := YL.cells 10 _ rfl
  have x2_11 := XL.cells 11 _ rfl
  have y2_11 := YL.cells 11 _ rfl
  have X2H := Lib.hid XL
  have Y2H := Lib.hid YL
  clear XL YL b2 X1H Y1H
  clear x1_0 y1_0 x1_1 y1_1 x1_2 y1_2 x1_3 y1_3 x1_4 y1_4 x1_5 y1_5 x1_6 y1_6 x1_7 y1_7 x1_8 y1_8 x1_9 y1_9 x1_10 y1_10 x1_11 y1_11
  go_wp2_with fail
  refine (C2.out _ B2H.out).mono ?_
  rintro e w3 ⟨rfl, b3⟩
  have B3H := Lib.hid (chainX w B2H.out b3)
  have XL := X2H.out.later b3
  have YL := Y2H.out.later b3
  have x3_0 := XL.cells 0 _ rfl
  have y3_0 := YL.cells 0 _ rfl
  have x3_1 := XL.cells 1 _ rfl
  have y3_1 := YL.cells 1 _ rfl
  have x3_2 := XL.cells 2 _ rfl
  have y3_2 := YL.cells 2 _ rfl
  have x3_3 := XL.cells 3 _ rfl
  have y3_3 := YL.cells 3 _ rfl
  have x3_4 := XL.cells 4 _ rfl
  have y3_4 := YL.cells 4 _ rfl
  have x3_5 := XL.cells 5 _ rfl
  have y3_5 := YL.cells 5 _ rfl
  have x3_6 := XL.cells 6 _ rfl
  have y3_6 := YL.cells 6 _ rfl
  have x3_7 := XL.cells 7 _ rfl
  have y3_7 := YL.cells 7 _ rfl
  have x3_8 := XL.cells 8 _ rfl
  have y3_8 := YL.cells 8 _ rfl
  have x3_9 := XL.cells 9 _ rfl
  have y3_9 := YL.cells 9 _ rfl
  have x3_10 := XL.cells 10 _ rfl
  have y3_10 := YL.cells 10 _ rfl
  have x3_11 := XL.cells 11 _ rfl
  have y3_11 := YL.cells 11 _ rfl
  have X3H := Lib.hid XL
  have Y3H := Lib.hid YL
  clear XL YL b3 X2H Y2H
  clear x2_0 y2_0 x2_1 y2_1 x2_2 y2_2 x2_3 y2_3 x2_4 y2_4 x2_5 y2_5 x2_6 y2_6 x2_7 y2_7 x2_8 y2_8 x2_9 y2_9 x2_10 y2_10 x2_11 y2_11
  go_wp2_with fail
  refine (C3.out _ B3H.out).mono ?_
  rintro e w4 ⟨rfl, b4⟩
  have B4H := Lib.hid (chainX w B3H.out b4)
  have XL := X3H.out.later b4
  have YL := Y3H.out.later b4
  have x4_0 := XL.cells 0 _ rfl
  have y4_0 := YL.cells 0 _ rfl
  have x4_1 := XL.cells 1 _ rfl
  have y4_1 := YL.cells 1 _ rfl
  have x4_2 := XL.cells 2 _ rfl
  have y4_2 := YL.cells 2 _ rfl
  have x4_3 := XL.cells 3 _ rfl
  have y4_3 := YL.cells 3 _ rfl
  have x4_4 := XL.cells 4 _ rfl
  have y4_4 := YL.cells 4 _ rfl
  have x4_5 := XL.cells 5 _ rfl
  have y4_5 := YL.cells 5 _ rfl
  have x4_6 := XL.cells 6 _ rfl
  have y4_6 := YL.cells 6 _ rfl
  have x4_7 := XL.cells 7 _ rfl
  have y4_7 := YL.cells 7 _ rfl
  have x4_8 := XL.cells 8 _ rfl
  have y4_8 := YL.cells 8 _ rfl
  have x4_9 := XL.cells 9 _ rfl
  have y4_9 := YL.cells 9 _ rfl
  have x4_10 := XL.cells 10 _ rfl
  have y4_10 := YL.cells 10 _ rfl
  have x4_11 := XL.cells 11 _ rfl
  have y4_11 := YL.cells 11 _ rfl
  have X4H := Lib.hid XL
  have Y4H := Lib.hid YL
  clear XL YL b4 X3H Y3H
  clear x3_0 y3_0 x3_1 y3_1 x3_2 y3_2 x3_3 y3_3 x3_4 y3_4 x3_5 y3_5 x3_6 y3_6 x3_7 y3_7 x3_8 y3_8 x3_9 y3_9 x3_10 y3_10 x3_11 y3_11
  go_wp2_with fail
  refine (C4.out _ B4H.out).mono ?_
  rintro e w5 ⟨rfl, b5⟩
  have B5H := Lib.hid (chainX w B4H.out b5)
  have XL := X4H.out.later b5
  have YL := Y4H.out.later b5
  have x5_0 := XL.cells 0 _ rfl
  have y5_0 := YL.cells 0 _ rfl
  have x5_1 := XL.cells 1 _ rfl
  have y5_1 := YL.cells 1 _ rfl
  have x5_2 := XL.cells 2 _ rfl
  have y5_2 := YL.cells 2 _ rfl
  have x5_3 := XL.cells 3 _ rfl
  have y5_3 := YL.cells 3 _ rfl
  have x5_4 := XL.cells 4 _ rfl
  have y5_4 := YL.cells 4 _ rfl
  have x5_5 := XL.cells 5 _ rfl
  have y5_5 := YL.cells 5 _ rfl
  have x5_6 := XL.cells 6 _ rfl
  have y5_6 := YL.cells 6 _ rfl
  have x5_7 := XL.cells 7 _ rfl
  have y5_7 := YL.cells 7 _ rfl
  have x5_8 := XL.cells 8 _ rfl
  have y5_8 := YL.cells 8 _ rfl
  have x5_9 := XL.cells 9 _ rfl
  have y5_9 := YL.cells 9 _ rfl
  have x5_10 := XL.cells 10 _ rfl
  have y5_10 := YL.cells 10 _ rfl
  have x5_11 := XL.cells 11 _ rfl
  have y5_11 := YL.cells 11 _ rfl
  have X5H := Lib.hid XL
  have Y5H := Lib.hid YL
  clear XL YL b5 X4H Y4H
  clear x4_0 y4_0 x4_1 y4_1 x4_2 y4_2 x4_3 y4_3 x4_4 y4_4 x4_5 y4_5 x4_6 y4_6 x4_7 y4_7 x4_8 y4_8 x4_9 y4_9 x4_10 y4_10 x4_11 y4_11
  go_wp2_with fail
  refine (C5.out _ B5H.out).mono ?_
  rintro e w6 ⟨rfl, b6⟩
  have B6H := Lib.hid (chainX w B5H.out b6)
  have XL := X5H.out.later b6
  have YL := Y5H.out.later b6
  have x6_0 := XL.cells 0 _ rfl
  have y6_0 := YL.cells 0 _ rfl
  have x6_1 := XL.cells 1 _ rfl
  have y6_1 := YL.cells 1 _ rfl
  have x6_2 := XL.cells 2 _ rfl
  have y6_2 := YL.cells 2 _ rfl
  have x6_3 := XL.cells 3 _ rfl
  have y6_3 := YL.cells 3 _ rfl
  have x6_4 := XL.cells 4 _ rfl
  have y6_4 := YL.cells 4 _ rfl
  have x6_5 := XL.cells 5 _ rfl
  have y6_5 := YL.cells 5 _ rfl
  have x6_6 := XL.cells 6 _ rfl
  have y6_6 := YL.cells 6 _ rfl
  have x6_7 := XL.cells 7 _ rfl
  have y6_7 := YL.cells 7 _ rfl
  have x6_8 := XL.cells 8 _ rfl
  have y6_8 := YL.cells 8 _ rfl
  have x6_9 := XL.cells 9 _ rfl
  have y6_9 := YL.cells 9 _ rfl
  have x6_10 := XL.cells 10 _ rfl
  have y6_10 := YL.cells 10 _ rfl
  have x6_11 := XL.cells 11 _ rfl
  have y6_11 := YL.cells 11 _ rfl
  have X6H := Lib.hid XL
  have Y6H := Lib.hid YL
  clear XL YL b6 X5H Y5H
  clear x5_0 y5_0 x5_1 y5_1 x5_2 y5_2 x5_3 y5_3 x5_4 y5_4 x5_5 y5_5 x5_6 y5_6 x5_7 y5_7 x5_8 y5_8 x5_9 y5_9 x5_10 y5_10 x5_11 y5_11
  go_wp2_with fail
  refine (C6.out _ B6H.out).mono ?_
  rintro e w7 ⟨rfl, b7⟩
  have B7H := Lib.hid (chainX w B6H.out b7)
  have XL := X6H.out.later b7
  have YL := Y6H.out.later b7
  have x7_0 := XL.cells 0 _ rfl
  have y7_0 := YL.cells 0 _ rfl
  have x7_1 := XL.cells 1 _ rfl
  have y7_1 := YL.cells 1 _ rfl
  have x7_2 := XL.cells 2 _ rfl
  have y7_2 := YL.cells 2 _ rfl
  have x7_3 := XL.cells 3 _ rfl
  have y7_3 := YL.cells 3 _ rfl
  have x7_4 := XL.cells 4 _ rfl
  have y7_4 := YL.cells 4 _ rfl
  have x7_5 := XL.cells 5 _ rfl
  have y7_5 := YL.cells 5 _ rfl
  have x7_6 := XL.cells 6 _ rfl
  have y7_6 := YL.cells 6 _ rfl
  have x7_7 := XL.cells 7 _ rfl
  have y7_7 := YL.cells 7 _ rfl
  have x7_8 := XL.cells 8 _ rfl
  have y7_8 := YL.cells 8 _ rfl
  have x7_9 := XL.cells 9 _ rfl
  have y7_9 := YL.cells 9 _ rfl
  have x7_10 := XL.cells 10 _ rfl
  have y7_10 := YL.cells 10 _ rfl
  have x7_11 := XL.cells 11 _ rfl
  have y7_11 := YL.cells 11 _ rfl
  have X7H := Lib.hid XL
  have Y7H := Lib.hid YL
  clear XL YL b7 X6H Y6H
  clear x6_0 y6_0 x6_1 y6_1 x6_2 y6_2 x6_3 y6_3 x6_4 y6_4 x6_5 y6_5 x6_6 y6_6 x6_7 y6_7 x6_8 y6_8 x6_9 y6_9 x6_10 y6_10 x6_11 y6_11
  go_wp2
  go_ret
  exact ⟨rfl, B7H.out⟩


set_option maxRecDepth 100000 in
set_option maxHeartbeats 1000000 in
theorem szPgStateS (a : Option Addr) (cap : Nat) (l : List DPgState) (left : Int) (l0 : 0 ≤ left) (l1 : left ≤ 2097152) (w : World) {fr : Bool} {lo : Nat} (hl : l.length ≤ 9223372036854775807) (hc : Rows fr lo w a l) :
    Calls Tryz.prog 57 #[.slice a l.length cap, .int .i64 left] w (SzB left (Rdb.sz l) w) := by
  have T0 := Lib.hid (tot_zero l)
  have TA := Lib.hid (tot_all l)
  have TM := Lib.hid (fun k => tot_le l k)
  have HL := Lib.hid (fun k (h : k < l.length) => get_lt h)
  have TN := Lib.hid (sz_len l)
  obtain ⟨n, hn⟩ : ∃ n, n = l.length := ⟨_, rfl⟩
  rw [← hn] at T0 TA HL TN hl ⊢
  clear hn
  unfold SzB
  by_cases h0 : (n : Int) ≤ left
  · go_enter Tryz.func57, Tryz.ntmps57
    go_wp2
    go_loopw [1, 5] (fun x i wr => ∃ k : Nat, k ≤ n ∧ i = .int .i64 k ∧ (tot l k : Int) ≤ left ∧ x = .int .i64 (left - tot l k) ∧ Below w.heap.size w wr) (fun _ i _ => n - (intOf i).toNat)
    case atStart => exact ⟨0, by omega, rfl, by rw [T0.out]; exact h0, by rw [T0.out], Below.refl _ _⟩
    case round =>
      obtain ⟨k, hk, rfl, hle, rfl, hw⟩ := hrel
      have HW := Lib.hid hw
      by_cases hlt : k < n
      · obtain ⟨x, hx⟩ := HL.out k hlt
        obtain ⟨b, off, cs, rfl, -, hB, hr, hcc⟩ := (hc.below hw).at' hx
        have TS := Lib.hid (tot_succ hx)
        have TMk := Lib.hid (TM.out (k + 1))
        have Z := szPgState x (left - tot l k) (by omega) (by omega) wr hr
        obtain ⟨a0_6, c0_6, a0_7, c0_7, a0_8, c0_8, a0_11, c0_11, rfl, f0_0, f0_1, f0_2, f0_3, f0_4, f0_5, f0_6, g0_6, f0_7, g0_7, f0_8, g0_8, f0_9, f0_10, f0_11, g0_11⟩ := shape_PgState hr
        have c0 : wr.cell? ⟨b, off + k * 12, none⟩ = some (.int .i64 x.pg.pool) := hcc 0 _ rfl
        have c1 : wr.cell? ⟨b, off + k * 12 + 1, none⟩ = some (.int .i64 x.pg.no) := hcc 1 _ rfl
        have c2 : wr.cell? ⟨b, off + k * 12 + 2, none⟩ = some (.int .i64 x.seen) := hcc 2 _ rfl
        have c3 : wr.cell? ⟨b, off + k * 12 + 3, none⟩ = some (.int .i64 x.started) := hcc 3 _ rfl
        have c4 : wr.cell? ⟨b, off + k * 12 + 4, none⟩ = some (.int .i64 x.tail.epoch) := hcc 4 _ rfl
        have c5 : wr.cell? ⟨b, off + k * 12 + 5, none⟩ = some (.int .i64 x.tail.seq) := hcc 5 _ rfl
        have c6 : wr.cell? ⟨b, off + k * 12 + 6, none⟩ = some (.slice a0_6 x.base.length c0_6) := hcc 6 _ rfl
        have c7 : wr.cell? ⟨b, off + k * 12 + 7, none⟩ = some (.slice a0_7 x.clients.length c0_7) := hcc 7 _ rfl
        have c8 : wr.cell? ⟨b, off + k * 12 + 8, none⟩ = some (.slice a0_8 x.log.length c0_8) := hcc 8 _ rfl
        have c9 : wr.cell? ⟨b, off + k * 12 + 9, none⟩ = some (.int .i64 x.firm.epoch) := hcc 9 _ rfl
        have c10 : wr.cell? ⟨b, off + k * 12 + 10, none⟩ = some (.int .i64 x.firm.seq) := hcc 10 _ rfl
        have c11 : wr.cell? ⟨b, off + k * 12 + 11, none⟩ = some (.slice a0_11 x.chunks.length c0_11) := hcc 11 _ rfl
        have C0 := Lib.hid hc
        clear hc hcc hr hw hx f0_6 f0_7 f0_8 f0_11
        unfold SzB at Z
        by_cases hq : ((tot l k + Rdb.sz x : Nat) : Int) ≤ left
        · rw [szI_yes (by omega), show left - (tot l k : Int) - ((Rdb.sz x : Nat) : Int) = left - ((tot l k + Rdb.sz x : Nat) : Int) by omega] at Z
          have Z := Lib.hid Z
          generalize Rdb.sz x = s at *
          go_wp2_with fail
          refine Z.out.mono ?_
          rintro e w2 ⟨rfl, b2⟩
          have B2 := Lib.hid (chainX w HW.out b2)
          clear b2
          go_wp2
          go_roundw
          case rel => exact ⟨k + 1, by omega, by go_num, by rw [TS.out]; exact hq, by rw [TS.out]; go_num, B2.out⟩
          case measure => simp [intOf]; omega
        · rw [szI_no (by omega)] at Z
          have Z := Lib.hid Z
          have R : szI left (Rdb.sz l) = -1 := szI_no (by have := TMk.out; have := TS.out; omega)
          have R := Lib.hid R
          go_wp2_with fail
          refine Z.out.mono ?_
          rintro e w2 ⟨rfl, b2⟩
          have B2 := Lib.hid (chainX w HW.out b2)
          clear b2
          go_wp2
          go_ret
          exact ⟨by rw [R.out]; rfl, B2.out⟩
      · obtain rfl : k = n := by omega
        have R : szI left (Rdb.sz l) = left - tot l k := by rw [← TA.out]; exact szI_yes hle
        have R := Lib.hid R
        clear hc hw
        go_wp2
        go_ret
        exact ⟨by rw [R.out]; rfl, HW.out⟩
  · have R : szI left (Rdb.sz l) = -1 := szI_no (by have := TN.out; omega)
    rw [R]
    clear R hc
    go_enter Tryz.func57, Tryz.ntmps57
    go_wp2
    go_ret
    exact ⟨rfl, Below.refl _ _⟩

theorem infoPgState : (Tryz.prog.info? 41).map (fun i => (i.zero, i.size, i.bytes)) = some (some (.agg #[.int .i64 0, .int .i64 0, .int .i64 0, .int .i64 0, .int .i64 0, .int .i64 0, .slice none 0 0, .slice none 0 0, .slice none 0 0, .int .i64 0, .int .i64 0, .slice none 0 0]), 12, 160) := by kernel_rfl

set_option maxRecDepth 100000 in
set_option maxHeartbeats 1000000 in
theorem toPgStateS (a : Option Addr) (cap : Nat) (l : List DPgState) (w : World) (hs : Rdb.sz l ≤ 2097152) {fr : Bool} {lo : Nat} (hc : Rows fr lo w a l) :
    Calls Tryz.prog 59 #[.slice a l.length cap] w (SlC l w) := by
  have HL := Lib.hid (fun k (h : k < l.length) => get_lt h)
  have hl : l.length ≤ 2097152 := Nat.le_trans (sz_len l) hs
  have SM := Lib.hid (fun k x (h : l[k]? = some x) => Nat.le_trans (sz_mem h) hs)
  obtain ⟨n, hn⟩ : ∃ n, n = l.length := ⟨_, rfl⟩
  have FIN : ∀ e w', (e = .returned (.slice (some ⟨w.heap.size, 0, none⟩) n n) ∧ RndL w w' w.heap.size n n l) → SlC l w e w' := by
    rintro e w' ⟨h, R⟩; rw [hn] at h; exact ⟨_, h, R.done hn, R.new, R.lt, R.free, R.below⟩
  rw [← hn] at hl HL ⊢
  have HF := Lib.hid FIN
  clear hn FIN hs
  obtain ⟨i0, hi, hz0, hz1, hz2⟩ := info_parts infoPgState
  go_enter Tryz.func59, Tryz.ntmps59
  go_wp2_with (at_make; refine wpList_make_full _ rfl _ _ 59 rfl w.heap.size 41 i0 (.agg #[.int .i64 0, .int .i64 0, .int .i64 0, .int .i64 0, .int .i64 0, .int .i64 0, .slice none 0 0, .slice none 0 0, .slice none 0 0, .int .i64 0, .int .i64 0, .slice none 0 0]) 12 Tryz.underlying59 hi hz0 hz1 .i64 .i64 n n n rfl rfl rfl rfl (by rw [hz2]; omega) (by unfold maxLen; omega) (Nat.le_refl _) ?_; intro w1 hown1 hgrow1)
  have R1 : RndL w w1 w.heap.size n 0 l := RndL.made hown1 l ((Below.refl _ _).grown hgrow1 (Nat.le_refl _) (by intro k hk; cases hk))
  clear hown1 hgrow1
  go_loopw [4] (fun i wr => ∃ k : Nat, k ≤ n ∧ i = .int .i64 k ∧ RndL w wr w.heap.size n k l) (fun i _ => n - (intOf i).toNat)
  case atStart => exact ⟨0, by omega, rfl, R1⟩
  case round =>
    obtain ⟨k, hk, rfl, R⟩ := hrel
    clear R1
    by_cases hlt : k < n
    · obtain ⟨x, hx⟩ := HL.out k hlt
      obtain ⟨b, off, cs, rfl, -, hB, hr, hcc⟩ := (hc.below R.below).at' hx
      have T := toPgState x wr (SM.out _ _ hx) hr
      obtain ⟨a0_6, c0_6, a0_7, c0_7, a0_8, c0_8, a0_11, c0_11, rfl, f0_0, f0_1, f0_2, f0_3, f0_4, f0_5, f0_6, g0_6, f0_7, g0_7, f0_8, g0_8, f0_9, f0_10, f0_11, g0_11⟩ := shape_PgState hr
      have c0 : wr.cell? ⟨b, off + k * 12, none⟩ = some (.int .i64 x.pg.pool) := hcc 0 _ rfl
      have c1 : wr.cell? ⟨b, off + k * 12 + 1, none⟩ = some (.int .i64 x.pg.no) := hcc 1 _ rfl
      have c2 : wr.cell? ⟨b, off + k * 12 + 2, none⟩ = some (.int .i64 x.seen) := hcc 2 _ rfl
      have c3 : wr.cell? ⟨b, off + k * 12 + 3, none⟩ = some (.int .i64 x.started) := hcc 3 _ rfl
      have c4 : wr.cell? ⟨b, off + k * 12 + 4, none⟩ = some (.int .i64 x.tail.epoch) := hcc 4 _ rfl
      have c5 : wr.cell? ⟨b, off + k * 12 + 5, none⟩ = some (.int .i64 x.tail.seq) := hcc 5 _ rfl
      have c6 : wr.cell? ⟨b, off + k * 12 + 6, none⟩ = some (.slice a0_6 x.base.length c0_6) := hcc 6 _ rfl
      have c7 : wr.cell? ⟨b, off + k * 12 + 7, none⟩ = some (.slice a0_7 x.clients.length c0_7) := hcc 7 _ rfl
      have c8 : wr.cell? ⟨b, off + k * 12 + 8, none⟩ = some (.slice a0_8 x.log.length c0_8) := hcc 8 _ rfl
      have c9 : wr.cell? ⟨b, off + k * 12 + 9, none⟩ = some (.int .i64 x.firm.epoch) := hcc 9 _ rfl
      have c10 : wr.cell? ⟨b, off + k * 12 + 10, none⟩ = some (.int .i64 x.firm.seq) := hcc 10 _ rfl
      have c11 : wr.cell? ⟨b, off + k * 12 + 11, none⟩ = some (.slice a0_11 x.chunks.length c0_11) := hcc 11 _ rfl
      have T := Lib.hid T
      have RH := Lib.hid R
      have HX := Lib.hid hx
      clear R hx hcc hr hc f0_6 f0_7 f0_8 f0_11
      go_wp2_with fail
      refine T.out.mono ?_
      rintro e w2 ⟨cs2, rfl, r2, b2⟩
      have R2 := RH.out.later b2
      have PUT := R2.put hlt HX.out (Rdb.weak (lo' := w.heap.size + 1) r2 (by have := RH.out.lt; omega) id)
      obtain ⟨a1_6, c1_6, a1_7, c1_7, a1_8, c1_8, a1_11, c1_11, rfl, f1_0, f1_1, f1_2, f1_3, f1_4, f1_5, f1_6, g1_6, f1_7, g1_7, f1_8, g1_8, f1_9, f1_10, f1_11, g1_11⟩ := shape_PgState r2
      obtain ⟨u0, d0⟩ := R2.there (k * 12) (by show _ < n * 12; omega)
      have z0 := R2.free (k * 12)
      obtain ⟨u1, d1⟩ := R2.there (k * 12 + 1) (by show _ < n * 12; omega)
      have z1 := R2.free (k * 12 + 1)
      obtain ⟨u2, d2⟩ := R2.there (k * 12 + 2) (by show _ < n * 12; omega)
      have z2 := R2.free (k * 12 + 2)
      obtain ⟨u3, d3⟩ := R2.there (k * 12 + 3) (by show _ < n * 12; omega)
      have z3 := R2.free (k * 12 + 3)
      obtain ⟨u4, d4⟩ := R2.there (k * 12 + 4) (by show _ < n * 12; omega)
      have z4 := R2.free (k * 12 + 4)
      obtain ⟨u5, d5⟩ := R2.there (k * 12 + 5) (by show _ < n * 12; omega)
      have z5 := R2.free (k * 12 + 5)
      obtain ⟨u6, d6⟩ := R2.there (k * 12 + 6) (by show _ < n * 12; omega)
      have z6 := R2.free (k * 12 + 6)
      obtain ⟨u7, d7⟩ := R2.there (k * 12 + 7) (by show _ < n * 12; omega)
      have z7 := R2.free (k * 12 + 7)
      obtain ⟨u8, d8⟩ := R2.there (k * 12 + 8) (by show _ < n * 12; omega)
      have z8 := R2.free (k * 12 + 8)
      obtain ⟨u9, d9⟩ := R2.there (k * 12 + 9) (by show _ < n * 12; omega)
      have z9 := R2.free (k * 12 + 9)
      obtain ⟨u10, d10⟩ := R2.there (k * 12 + 10) (by show _ < n * 12; omega)
      have z10 := R2.free (k * 12 + 10)
      obtain ⟨u11, d11⟩ := R2.there (k * 12 + 11) (by show _ < n * 12; omega)
      have z11 := R2.free (k * 12 + 11)
      have R3 : RndL w (((((((((((((w2).setCell ⟨w.heap.size, k * 12, none⟩ (.int .i64 x.pg.pool)).setCell ⟨w.heap.size, k * 12 + 1, none⟩ (.int .i64 x.pg.no)).setCell ⟨w.heap.size, k * 12 + 2, none⟩ (.int .i64 x.seen)).setCell ⟨w.heap.size, k * 12 + 3, none⟩ (.int .i64 x.started)).setCell ⟨w.heap.size, k * 12 + 4, none⟩ (.int .i64 x.tail.epoch)).setCell ⟨w.heap.size, k * 12 + 5, none⟩ (.int .i64 x.tail.seq)).setCell ⟨w.heap.size, k * 12 + 6, none⟩ (.slice a1_6 x.base.length c1_6)).setCell ⟨w.heap.size, k * 12 + 7, none⟩ (.slice a1_7 x.clients.length c1_7)).setCell ⟨w.heap.size, k * 12 + 8, none⟩ (.slice a1_8 x.log.length c1_8)).setCell ⟨w.heap.size, k * 12 + 9, none⟩ (.int .i64 x.firm.epoch)).setCell ⟨w.heap.size, k * 12 + 10, none⟩ (.int .i64 x.firm.seq)).setCell ⟨w.heap.size, k * 12 + 11, none⟩ (.slice a1_11 x.chunks.length c1_11)) w.heap.size n (k + 1) l := PUT
      have R3 := Lib.hid R3
      clear R2 RH b2 r2 PUT c0 c1 c2 c3 c4 c5 c6 c7 c8 c9 c10 c11 f1_6 f1_7 f1_8 f1_11
      go_wp2
      go_roundw
      case rel => exact ⟨k + 1, by omega, by go_num, R3.out⟩
      case measure => simp [intOf]; omega
    · obtain rfl : k = n := by omega
      have F := Lib.hid (HF.out _ _ ⟨rfl, R⟩)
      clear R hc
      go_wp2
      go_ret
      exact F.out

set_option maxRecDepth 100000 in
set_option maxHeartbeats 1000000 in
theorem eqPgStateS (a b : Option Addr) (cap1 cap2 : Nat) (l : List DPgState) (w : World) (hs : Rdb.sz l ≤ 2097152) {fr fr2 : Bool} {lo lo2 : Nat} (ha : Rows fr lo w a l) (hb : Rows fr2 lo2 w b l) :
    Calls Tryz.prog 61 #[.slice a l.length cap1, .slice b l.length cap2] w (TrueW w) := by
  have HL := Lib.hid (fun k (h : k < l.length) => get_lt h)
  have hl : l.length ≤ 2097152 := Nat.le_trans (sz_len l) hs
  have SM := Lib.hid (fun k x (h : l[k]? = some x) => Nat.le_trans (sz_mem h) hs)
  obtain ⟨n, hn⟩ : ∃ n, n = l.length := ⟨_, rfl⟩
  rw [← hn] at hl HL ⊢
  clear hn hs
  go_enter Tryz.func61, Tryz.ntmps61
  go_wp2
  go_loopw [5] (fun i wr => ∃ k : Nat, k ≤ n ∧ i = .int .i64 k ∧ Below w.heap.size w wr) (fun i _ => n - (intOf i).toNat)
  case atStart => exact ⟨0, by omega, rfl, Below.refl _ _⟩
  case round =>
    obtain ⟨k, hk, rfl, hw⟩ := hrel
    by_cases hlt : k < n
    · obtain ⟨x, hx⟩ := HL.out k hlt
      obtain ⟨b1, o1, cs1, rfl, -, hB1, hr1, hc1⟩ := (ha.below hw).at' hx
      obtain ⟨b2, o2, cs2, rfl, -, hB2, hr2, hc2⟩ := (hb.below hw).at' hx
      have T := fun w' (y : Below wr.heap.size wr w') => eqPgState x w' (SM.out _ _ hx) (Rdb.below hr1 y) (Rdb.below hr2 y)
      obtain ⟨a0_6, c0_6, a0_7, c0_7, a0_8, c0_8, a0_11, c0_11, rfl, f0_0, f0_1, f0_2, f0_3, f0_4, f0_5, f0_6, g0_6, f0_7, g0_7, f0_8, g0_8, f0_9, f0_10, f0_11, g0_11⟩ := shape_PgState hr1
      obtain ⟨a1_6, c1_6, a1_7, c1_7, a1_8, c1_8, a1_11, c1_11, rfl, f1_0, f1_1, f1_2, f1_3, f1_4, f1_5, f1_6, g1_6, f1_7, g1_7, f1_8, g1_8, f1_9, f1_10, f1_11, g1_11⟩ := shape_PgState hr2
      have c0 : wr.cell? ⟨b1, o1 + k * 12, none⟩ = some (.int .i64 x.pg.pool) := hc1 0 _ rfl
      have d0 : wr.cell? ⟨b2, o2 + k * 12, none⟩ = some (.int .i64 x.pg.pool) := hc2 0 _ rfl
      have c1 : wr.cell? ⟨b1, o1 + k * 12 + 1, none⟩ = some (.int .i64 x.pg.no) := hc1 1 _ rfl
      have d1 : wr.cell? ⟨b2, o2 + k * 12 + 1, none⟩ = some (.int .i64 x.pg.no) := hc2 1 _ rfl
      have c2 : wr.cell? ⟨b1, o1 + k * 12 + 2, none⟩ = some (.int .i64 x.seen) := hc1 2 _ rfl
      have d2 : wr.cell? ⟨b2, o2 + k * 12 + 2, none⟩ = some (.int .i64 x.seen) := hc2 2 _ rfl
      have c3 : wr.cell? ⟨b1, o1 + k * 12 + 3, none⟩ = some (.int .i64 x.started) := hc1 3 _ rfl
      have d3 : wr.cell? ⟨b2, o2 + k * 12 + 3, none⟩ = some (.int .i64 x.started) := hc2 3 _ rfl
      have c4 : wr.cell? ⟨b1, o1 + k * 12 + 4, none⟩ = some (.int .i64 x.tail.epoch) := hc1 4 _ rfl
      have d4 : wr.cell? ⟨b2, o2 + k * 12 + 4, none⟩ = some (.int .i64 x.tail.epoch) := hc2 4 _ rfl
      have c5 : wr.cell? ⟨b1, o1 + k * 12 + 5, none⟩ = some (.int .i64 x.tail.seq) := hc1 5 _ rfl
      have d5 : wr.cell? ⟨b2, o2 + k * 12 + 5, none⟩ = some (.int .i64 x.tail.seq) := hc2 5 _ rfl
      have c6 : wr.cell? ⟨b1, o1 + k * 12 + 6, none⟩ = some (.slice a0_6 x.base.length c0_6) := hc1 6 _ rfl
      have d6 : wr.cell? ⟨b2, o2 + k * 12 + 6, none⟩ = some (.slice a1_6 x.base.length c1_6) := hc2 6 _ rfl
      have c7 : wr.cell? ⟨b1, o1 + k * 12 + 7, none⟩ = some (.slice a0_7 x.clients.length c0_7) := hc1 7 _ rfl
      have d7 : wr.cell? ⟨b2, o2 + k * 12 + 7, none⟩ = some (.slice a1_7 x.clients.length c1_7) := hc2 7 _ rfl
      have c8 : wr.cell? ⟨b1, o1 + k * 12 + 8, none⟩ = some (.slice a0_8 x.log.length c0_8) := hc1 8 _ rfl
      have d8 : wr.cell? ⟨b2, o2 + k * 12 + 8, none⟩ = some (.slice a1_8 x.log.length c1_8) := hc2 8 _ rfl
      have c9 : wr.cell? ⟨b1, o1 + k * 12 + 9, none⟩ = some (.int .i64 x.firm.epoch) := hc1 9 _ rfl
      have d9 : wr.cell? ⟨b2, o2 + k * 12 + 9, none⟩ = some (.int .i64 x.firm.epoch) := hc2 9 _ rfl
      have c10 : wr.cell? ⟨b1, o1 + k * 12 + 10, none⟩ = some (.int .i64 x.firm.seq) := hc1 10 _ rfl
      have d10 : wr.cell? ⟨b2, o2 + k * 12 + 10, none⟩ = some (.int .i64 x.firm.seq) := hc2 10 _ rfl
      have c11 : wr.cell? ⟨b1, o1 + k * 12 + 11, none⟩ = some (.slice a0_11 x.chunks.length c0_11) := hc1 11 _ rfl
      have d11 : wr.cell? ⟨b2, o2 + k * 12 + 11, none⟩ = some (.slice a1_11 x.chunks.length c1_11) := hc2 11 _ rfl
      have T := Lib.hid T
      have HW := Lib.hid hw
      clear hw hx hc1 hc2 hr1 hr2 ha hb f0_6 f1_6 f0_7 f1_7 f0_8 f1_8 f0_11 f1_11
      go_wp2
      go_region_with (go_at_call 11; refine (T.out _ (undrewX (Below.refl _ _))).mono ?_; rintro e w2 ⟨rfl, b2⟩; have B2 := Lib.hid (HW.out.trans ((undrewX b2).mono HW.out.size)))
      all_goals
        go_wp2
        go_roundw
        case rel => exact ⟨k + 1, by omega, by go_num, B2.out⟩
        case measure => simp [intOf]; omega
    · obtain rfl : k = n := by omega
      have HW := Lib.hid hw
      clear hw ha hb
      go_wp2
      go_ret
      exact ⟨rfl, HW.out⟩

end Go.Proofs.YtbckdfoapmjilaaGreatDoor.Rd
