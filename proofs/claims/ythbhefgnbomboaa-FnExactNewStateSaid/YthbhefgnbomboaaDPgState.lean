/-
  Data of the type PgState: its reading, and the laws' helpers on it (written by tools/gen/data.py).
-/
import Derived.Test.YthbhefgnbomboaaDPg
import Derived.Test.YthbhefgnbomboaaDVer
import Derived.Test.YthbhefgnbomboaaDHead
import Derived.Test.YthbhefgnbomboaaDLast
import Derived.Test.YthbhefgnbomboaaDEntry
import Derived.Test.YthbhefgnbomboaaDChunk
namespace Go.Proofs.Ythbhefgnbomboaa.Rd
open Go.RowKit Go.ChangeShapes Go.WideShapes
open Go.Proofs.Ythbhefgnbomboaa.Sg (BxN)
set_option linter.unusedVariables false
set_option linter.unusedSimpArgs false

/-- PgState. -/
structure DPgState where
  pg : DPg
  seen : Int
  started : Int
  tail : DVer
  base : (List DHead)
  clients : (List DLast)
  log : (List DEntry)
  firm : DVer
  chunks : (List DChunk)
instance : Inhabited DPgState := ⟨⟨default, 0, 0, default, [], [], [], default, []⟩⟩
instance : Rdb DPgState where
  size := 12
  sz := fun d => Rdb.sz d.base + Rdb.sz d.clients + Rdb.sz d.log + Rdb.sz d.chunks
  rd := fun fr lo w cs d => cs.length = 12 ∧ Rdb.rd fr lo w ((cs.drop 0).take 2) d.pg ∧ Rdb.rd fr lo w ((cs.drop 2).take 1) d.seen ∧ Rdb.rd fr lo w ((cs.drop 3).take 1) d.started ∧ Rdb.rd fr lo w ((cs.drop 4).take 2) d.tail ∧ Rdb.rd fr lo w ((cs.drop 6).take 1) d.base ∧ Rdb.rd fr lo w ((cs.drop 7).take 1) d.clients ∧ Rdb.rd fr lo w ((cs.drop 8).take 1) d.log ∧ Rdb.rd fr lo w ((cs.drop 9).take 2) d.firm ∧ Rdb.rd fr lo w ((cs.drop 11).take 1) d.chunks
  len := fun h => h.1
  below := fun ⟨e, h0, h1, h2, h3, h4, h5, h6, h7, h8⟩ b => ⟨e, Rdb.below h0 b, Rdb.below h1 b, Rdb.below h2 b, Rdb.below h3 b, Rdb.below h4 b, Rdb.below h5 b, Rdb.below h6 b, Rdb.below h7 b, Rdb.below h8 b⟩
  far := fun ⟨e, h0, h1, h2, h3, h4, h5, h6, h7, h8⟩ b => ⟨e, Rdb.far h0 b, Rdb.far h1 b, Rdb.far h2 b, Rdb.far h3 b, Rdb.far h4 b, Rdb.far h5 b, Rdb.far h6 b, Rdb.far h7 b, Rdb.far h8 b⟩
  weak := fun ⟨e, h0, h1, h2, h3, h4, h5, h6, h7, h8⟩ b c => ⟨e, Rdb.weak h0 b c, Rdb.weak h1 b c, Rdb.weak h2 b c, Rdb.weak h3 b c, Rdb.weak h4 b c, Rdb.weak h5 b c, Rdb.weak h6 b c, Rdb.weak h7 b c, Rdb.weak h8 b c⟩
instance : Mkb DPgState where
  swap := by
    rintro fr lo w cs d c v v' ⟨e, h0, h1, h2, h3, h4, h5, h6, h7, h8⟩ hv s
    obtain ⟨d0, z0, r0⟩ := Mkb.field h0 hv s
    obtain ⟨d1, z1, r1⟩ := Mkb.field h1 hv s
    obtain ⟨d2, z2, r2⟩ := Mkb.field h2 hv s
    obtain ⟨d3, z3, r3⟩ := Mkb.field h3 hv s
    obtain ⟨d4, z4, r4⟩ := Mkb.field h4 hv s
    obtain ⟨d5, z5, r5⟩ := Mkb.field h5 hv s
    obtain ⟨d6, z6, r6⟩ := Mkb.field h6 hv s
    obtain ⟨d7, z7, r7⟩ := Mkb.field h7 hv s
    obtain ⟨d8, z8, r8⟩ := Mkb.field h8 hv s
    exact ⟨⟨d0, d1, d2, d3, d4, d5, d6, d7, d8⟩, (by show Rdb.sz d4 + Rdb.sz d5 + Rdb.sz d6 + Rdb.sz d8 = Rdb.sz d.base + Rdb.sz d.clients + Rdb.sz d.log + Rdb.sz d.chunks; omega), by rw [List.length_set]; exact e, r0, r1, r2, r3, r4, r5, r6, r7, r8⟩
  stir := by
    rintro fr lo w cs d p v v' ⟨e, h0, h1, h2, h3, h4, h5, h6, h7, h8⟩ hp s
    obtain ⟨d0, z0, r0⟩ := Mkb.stir h0 hp s
    obtain ⟨d1, z1, r1⟩ := Mkb.stir h1 hp s
    obtain ⟨d2, z2, r2⟩ := Mkb.stir h2 hp s
    obtain ⟨d3, z3, r3⟩ := Mkb.stir h3 hp s
    obtain ⟨d4, z4, r4⟩ := Mkb.stir h4 hp s
    obtain ⟨d5, z5, r5⟩ := Mkb.stir h5 hp s
    obtain ⟨d6, z6, r6⟩ := Mkb.stir h6 hp s
    obtain ⟨d7, z7, r7⟩ := Mkb.stir h7 hp s
    obtain ⟨d8, z8, r8⟩ := Mkb.stir h8 hp s
    exact ⟨⟨d0, d1, d2, d3, d4, d5, d6, d7, d8⟩, (by show Rdb.sz d4 + Rdb.sz d5 + Rdb.sz d6 + Rdb.sz d8 = Rdb.sz d.base + Rdb.sz d.clients + Rdb.sz d.log + Rdb.sz d.chunks; omega), e, r0, r1, r2, r3, r4, r5, r6, r7, r8⟩
  move := fun ⟨e, h0, h1, h2, h3, h4, h5, h6, h7, h8⟩ sz hm => ⟨e, Mkb.move h0 sz hm, Mkb.move h1 sz hm, Mkb.move h2 sz hm, Mkb.move h3 sz hm, Mkb.move h4 sz hm, Mkb.move h5 sz hm, Mkb.move h6 sz hm, Mkb.move h7 sz hm, Mkb.move h8 sz hm⟩
theorem shape_PgState {fr : Bool} {lo : Nat} {w : World} {cs : List Value} {d : DPgState} (h : Rdb.rd fr lo w cs d) : ∃ (a6 : Option Addr) (c6 : Nat) (a7 : Option Addr) (c7 : Nat) (a8 : Option Addr) (c8 : Nat) (a11 : Option Addr) (c11 : Nat), cs = [.int .i64 d.pg.pool, .int .i64 d.pg.no, .int .i64 d.seen, .int .i64 d.started, .int .i64 d.tail.epoch, .int .i64 d.tail.seq, .slice a6 d.base.length c6, .slice a7 d.clients.length c7, .slice a8 d.log.length c8, .int .i64 d.firm.epoch, .int .i64 d.firm.seq, .slice a11 d.chunks.length c11] ∧ (Lit.int .i64 d.pg.pool).wf = true ∧ (Lit.int .i64 d.pg.no).wf = true ∧ (Lit.int .i64 d.seen).wf = true ∧ (Lit.int .i64 d.started).wf = true ∧ (Lit.int .i64 d.tail.epoch).wf = true ∧ (Lit.int .i64 d.tail.seq).wf = true ∧ Rows fr lo w a6 d.base ∧ (d.base.length ≤ 9223372036854775807 ∧ d.base.length ≤ c6) ∧ Rows fr lo w a7 d.clients ∧ (d.clients.length ≤ 9223372036854775807 ∧ d.clients.length ≤ c7) ∧ Rows fr lo w a8 d.log ∧ (d.log.length ≤ 9223372036854775807 ∧ d.log.length ≤ c8) ∧ (Lit.int .i64 d.firm.epoch).wf = true ∧ (Lit.int .i64 d.firm.seq).wf = true ∧ Rows fr lo w a11 d.chunks ∧ (d.chunks.length ≤ 9223372036854775807 ∧ d.chunks.length ≤ c11) := by
  obtain ⟨e, h0, h1, h2, h3, h4, h5, h6, h7, h8⟩ := h
  match cs, e with
  | [x0, x1, x2, x3, x4, x5, x6, x7, x8, x9, x10, x11], _ =>
    replace h0 : Rdb.rd fr lo w [x0, x1] d.pg := h0
    obtain ⟨q0, f0, f1⟩ := shape_Pg h0
    simp only [List.cons.injEq, and_true] at q0
    obtain ⟨rfl, rfl⟩ := q0
    replace h1 : Rdb.rd fr lo w [x2] d.seen := h1
    obtain ⟨e2, f2⟩ := h1
    obtain rfl : x2 = .int .i64 d.seen := by simpa using e2
    replace h2 : Rdb.rd fr lo w [x3] d.started := h2
    obtain ⟨e3, f3⟩ := h2
    obtain rfl : x3 = .int .i64 d.started := by simpa using e3
    replace h3 : Rdb.rd fr lo w [x4, x5] d.tail := h3
    obtain ⟨q4, f4, f5⟩ := shape_Ver h3
    simp only [List.cons.injEq, and_true] at q4
    obtain ⟨rfl, rfl⟩ := q4
    replace h4 : Rdb.rd fr lo w [x6] d.base := h4
    obtain ⟨g6, a6, c6, ⟨e6, z6⟩, f6⟩ := h4
    obtain rfl : x6 = .slice a6 d.base.length c6 := by simpa using e6
    replace h5 : Rdb.rd fr lo w [x7] d.clients := h5
    obtain ⟨g7, a7, c7, ⟨e7, z7⟩, f7⟩ := h5
    obtain rfl : x7 = .slice a7 d.clients.length c7 := by simpa using e7
    replace h6 : Rdb.rd fr lo w [x8] d.log := h6
    obtain ⟨g8, a8, c8, ⟨e8, z8⟩, f8⟩ := h6
    obtain rfl : x8 = .slice a8 d.log.length c8 := by simpa using e8
    replace h7 : Rdb.rd fr lo w [x9, x10] d.firm := h7
    obtain ⟨q9, f9, f10⟩ := shape_Ver h7
    simp only [List.cons.injEq, and_true] at q9
    obtain ⟨rfl, rfl⟩ := q9
    replace h8 : Rdb.rd fr lo w [x11] d.chunks := h8
    obtain ⟨g11, a11, c11, ⟨e11, z11⟩, f11⟩ := h8
    obtain rfl : x11 = .slice a11 d.chunks.length c11 := by simpa using e11
    exact ⟨a6, c6, a7, c7, a8, c8, a11, c11, rfl, f0, f1, f2, f3, f4, f5, f6, ⟨g6, z6⟩, f7, ⟨g7, z7⟩, f8, ⟨g8, z8⟩, f9, f10, f11, ⟨g11, z11⟩⟩
theorem mk_PgState {fr : Bool} {lo : Nat} {w : World} {d : DPgState} {a6 : Option Addr} {c6 : Nat} {a7 : Option Addr} {c7 : Nat} {a8 : Option Addr} {c8 : Nat} {a11 : Option Addr} {c11 : Nat} (f0 : (Lit.int .i64 d.pg.pool).wf = true) (f1 : (Lit.int .i64 d.pg.no).wf = true) (f2 : (Lit.int .i64 d.seen).wf = true) (f3 : (Lit.int .i64 d.started).wf = true) (f4 : (Lit.int .i64 d.tail.epoch).wf = true) (f5 : (Lit.int .i64 d.tail.seq).wf = true) (f6 : Rows fr lo w a6 d.base) (f7 : (d.base.length ≤ 9223372036854775807 ∧ d.base.length ≤ c6)) (f8 : Rows fr lo w a7 d.clients) (f9 : (d.clients.length ≤ 9223372036854775807 ∧ d.clients.length ≤ c7)) (f10 : Rows fr lo w a8 d.log) (f11 : (d.log.length ≤ 9223372036854775807 ∧ d.log.length ≤ c8)) (f12 : (Lit.int .i64 d.firm.epoch).wf = true) (f13 : (Lit.int .i64 d.firm.seq).wf = true) (f14 : Rows fr lo w a11 d.chunks) (f15 : (d.chunks.length ≤ 9223372036854775807 ∧ d.chunks.length ≤ c11)) : Rdb.rd fr lo w [.int .i64 d.pg.pool, .int .i64 d.pg.no, .int .i64 d.seen, .int .i64 d.started, .int .i64 d.tail.epoch, .int .i64 d.tail.seq, .slice a6 d.base.length c6, .slice a7 d.clients.length c7, .slice a8 d.log.length c8, .int .i64 d.firm.epoch, .int .i64 d.firm.seq, .slice a11 d.chunks.length c11] d :=
  ⟨rfl, ⟨rfl, ⟨rfl, f0⟩, ⟨rfl, f1⟩⟩, ⟨rfl, f2⟩, ⟨rfl, f3⟩, ⟨rfl, ⟨rfl, f4⟩, ⟨rfl, f5⟩⟩, ⟨f7.1, _, _, ⟨rfl, f7.2⟩, f6⟩, ⟨f9.1, _, _, ⟨rfl, f9.2⟩, f8⟩, ⟨f11.1, _, _, ⟨rfl, f11.2⟩, f10⟩, ⟨rfl, ⟨rfl, f12⟩, ⟨rfl, f13⟩⟩, ⟨f15.1, _, _, ⟨rfl, f15.2⟩, f14⟩⟩
theorem opens_PgState {P : Program} {t : TypeId} {f0 f1 f2 f3 f4 f5 f6 f7 f8 : Field} (hu : P.underlying t = some (.struct #[f0, f1, f2, f3, f4, f5, f6, f7, f8])) (hC : P.cellsOf t = 12) (off : f0.offset = 0 ∧ f1.offset = 2 ∧ f2.offset = 3 ∧ f3.offset = 4 ∧ f4.offset = 6 ∧ f5.offset = 7 ∧ f6.offset = 8 ∧ f7.offset = 9 ∧ f8.offset = 11) (h0 : Opens P f0.type DPg) (h1 : Opens P f1.type Int) (h2 : Opens P f2.type Int) (h3 : Opens P f3.type DVer) (h4 : Opens P f4.type (List DHead)) (h5 : Opens P f5.type (List DLast)) (h6 : Opens P f6.type (List DEntry)) (h7 : Opens P f7.type DVer) (h8 : Opens P f8.type (List DChunk)) : Opens P t DPgState := by
  obtain ⟨o0, o1, o2, o3, o4, o5, o6, o7, o8⟩ := off
  refine ⟨hC, fun enc w base spare held fuel cs x h => ?_⟩
  obtain ⟨xs, n, _, _, hl, hlen, hg⟩ := DataW.trod_struct hu h
  match xs, hlen with
  | [y0, y1, y2, y3, y4, y5, y6, y7, y8], _ =>
    have t0 := hg 0 f0 rfl
    rw [o0, h0.1] at t0
    obtain ⟨d0, r0⟩ := h0.2 _ _ _ _ _ _ _ y0 t0
    have t1 := hg 1 f1 rfl
    rw [o1, h1.1] at t1
    obtain ⟨d1, r1⟩ := h1.2 _ _ _ _ _ _ _ y1 t1
    have t2 := hg 2 f2 rfl
    rw [o2, h2.1] at t2
    obtain ⟨d2, r2⟩ := h2.2 _ _ _ _ _ _ _ y2 t2
    have t3 := hg 3 f3 rfl
    rw [o3, h3.1] at t3
    obtain ⟨d3, r3⟩ := h3.2 _ _ _ _ _ _ _ y3 t3
    have t4 := hg 4 f4 rfl
    rw [o4, h4.1] at t4
    obtain ⟨d4, r4⟩ := h4.2 _ _ _ _ _ _ _ y4 t4
    have t5 := hg 5 f5 rfl
    rw [o5, h5.1] at t5
    obtain ⟨d5, r5⟩ := h5.2 _ _ _ _ _ _ _ y5 t5
    have t6 := hg 6 f6 rfl
    rw [o6, h6.1] at t6
    obtain ⟨d6, r6⟩ := h6.2 _ _ _ _ _ _ _ y6 t6
    have t7 := hg 7 f7 rfl
    rw [o7, h7.1] at t7
    obtain ⟨d7, r7⟩ := h7.2 _ _ _ _ _ _ _ y7 t7
    have t8 := hg 8 f8 rfl
    rw [o8, h8.1] at t8
    obtain ⟨d8, r8⟩ := h8.2 _ _ _ _ _ _ _ y8 t8
    exact ⟨⟨d0, d1, d2, d3, d4, d5, d6, d7, d8⟩, hl.trans hC, r0, r1, r2, r3, r4, r5, r6, r7, r8⟩

set_option maxRecDepth 100000 in
set_option maxHeartbeats 1000000 in
theorem eqPgState {cs ds : List Value} {fr fr2 : Bool} {lo lo2 : Nat} (d : DPgState) (w : World) (hs : Rdb.sz d ≤ 2097152) (h : Rdb.rd fr lo w cs d) (k : Rdb.rd fr2 lo2 w ds d) : Calls Try.prog 29 #[.agg cs.toArray, .agg ds.toArray] w (TrueW w) := by
  obtain ⟨a0_6, c0_6, a0_7, c0_7, a0_8, c0_8, a0_11, c0_11, rfl, f0_0, f0_1, f0_2, f0_3, f0_4, f0_5, f0_6, g0_6, f0_7, g0_7, f0_8, g0_8, f0_9, f0_10, f0_11, g0_11⟩ := shape_PgState h
  obtain ⟨a1_6, c1_6, a1_7, c1_7, a1_8, c1_8, a1_11, c1_11, rfl, f1_0, f1_1, f1_2, f1_3, f1_4, f1_5, f1_6, g1_6, f1_7, g1_7, f1_8, g1_8, f1_9, f1_10, f1_11, g1_11⟩ := shape_PgState k
  have BH := Lib.hid (chain (lay w (.cells #[.int .i64 d.pg.pool, .int .i64 d.pg.no, .int .i64 d.seen, .int .i64 d.started, .int .i64 d.tail.epoch, .int .i64 d.tail.seq, .slice a0_6 d.base.length c0_6, .slice a0_7 d.clients.length c0_7, .slice a0_8 d.log.length c0_8, .int .i64 d.firm.epoch, .int .i64 d.firm.seq, .slice a0_11 d.chunks.length c0_11] 57)) (lay _ (.cells #[.int .i64 d.pg.pool, .int .i64 d.pg.no, .int .i64 d.seen, .int .i64 d.started, .int .i64 d.tail.epoch, .int .i64 d.tail.seq, .slice a1_6 d.base.length c1_6, .slice a1_7 d.clients.length c1_7, .slice a1_8 d.log.length c1_8, .int .i64 d.firm.epoch, .int .i64 d.firm.seq, .slice a1_11 d.chunks.length c1_11] 57)))
  have XH := Lib.hid ((BxN.new w #[.int .i64 d.pg.pool, .int .i64 d.pg.no, .int .i64 d.seen, .int .i64 d.started, .int .i64 d.tail.epoch, .int .i64 d.tail.seq, .slice a0_6 d.base.length c0_6, .slice a0_7 d.clients.length c0_7, .slice a0_8 d.log.length c0_8, .int .i64 d.firm.epoch, .int .i64 d.firm.seq, .slice a0_11 d.chunks.length c0_11] 57).later (lay _ (.cells #[.int .i64 d.pg.pool, .int .i64 d.pg.no, .int .i64 d.seen, .int .i64 d.started, .int .i64 d.tail.epoch, .int .i64 d.tail.seq, .slice a1_6 d.base.length c1_6, .slice a1_7 d.clients.length c1_7, .slice a1_8 d.log.length c1_8, .int .i64 d.firm.epoch, .int .i64 d.firm.seq, .slice a1_11 d.chunks.length c1_11] 57)))
  have Y0 := BxN.new (w.alloc (.cells #[.int .i64 d.pg.pool, .int .i64 d.pg.no, .int .i64 d.seen, .int .i64 d.started, .int .i64 d.tail.epoch, .int .i64 d.tail.seq, .slice a0_6 d.base.length c0_6, .slice a0_7 d.clients.length c0_7, .slice a0_8 d.log.length c0_8, .int .i64 d.firm.epoch, .int .i64 d.firm.seq, .slice a0_11 d.chunks.length c0_11] 57)) #[.int .i64 d.pg.pool, .int .i64 d.pg.no, .int .i64 d.seen, .int .i64 d.started, .int .i64 d.tail.epoch, .int .i64 d.tail.seq, .slice a1_6 d.base.length c1_6, .slice a1_7 d.clients.length c1_7, .slice a1_8 d.log.length c1_8, .int .i64 d.firm.epoch, .int .i64 d.firm.seq, .slice a1_11 d.chunks.length c1_11] 57
  rw [World.size_alloc] at Y0
  have YH := Lib.hid Y0
  clear Y0
  have E : Rdb.sz d = Rdb.sz d.base + Rdb.sz d.clients + Rdb.sz d.log + Rdb.sz d.chunks := rfl
  have C0 := Lib.hid (fun w' (b : Below w.heap.size w w') => eqPg (fr := true) (lo := 0) (fr2 := true) (lo2 := 0) d.pg w' (by show (0 : Nat) ≤ _; omega) (mk_Pg (d := d.pg)  f0_0 f0_1) (mk_Pg (d := d.pg)  f1_0 f1_1))
  have C1 := Lib.hid (fun w' (b : Below w.heap.size w w') => eqVer (fr := true) (lo := 0) (fr2 := true) (lo2 := 0) d.tail w' (by show (0 : Nat) ≤ _; omega) (mk_Ver (d := d.tail)  f0_4 f0_5) (mk_Ver (d := d.tail)  f1_4 f1_5))
  have C2 := Lib.hid (fun w' (b : Below w.heap.size w w') => eqHeadS a0_6 a1_6 c0_6 c1_6 d.base w' (by omega) (f0_6.below b) (f1_6.below b))
  have C3 := Lib.hid (fun w' (b : Below w.heap.size w w') => eqLastS a0_7 a1_7 c0_7 c1_7 d.clients w' (by omega) (f0_7.below b) (f1_7.below b))
  have C4 := Lib.hid (fun w' (b : Below w.heap.size w w') => eqEntryS a0_8 a1_8 c0_8 c1_8 d.log w' (by omega) (f0_8.below b) (f1_8.below b))
  have C5 := Lib.hid (fun w' (b : Below w.heap.size w w') => eqVer (fr := true) (lo := 0) (fr2 := true) (lo2 := 0) d.firm w' (by show (0 : Nat) ≤ _; omega) (mk_Ver (d := d.firm)  f0_9 f0_10) (mk_Ver (d := d.firm)  f1_9 f1_10))
  have C6 := Lib.hid (fun w' (b : Below w.heap.size w w') => eqChunkS a0_11 a1_11 c0_11 c1_11 d.chunks w' (by omega) (f0_11.below b) (f1_11.below b))
  clear E f0_6 f1_6 f0_7 f1_7 f0_8 f1_8 f0_11 f1_11
  go_enter Try.func29, Try.ntmps29
  go_wp2_with fail
  refine (C0.out _ BH.out).mono ?_
  rintro e w1 ⟨rfl, b1⟩
  have B1H := Lib.hid (chainX w BH.out b1)
  have XL := XH.out.later b1
  have YL := YH.out.later b1
  have x1_0 := XL.cells 0 _ rfl
  have y1_0 := YL.cells 0 _ rfl
  have x1_1 := XL.cells 1 _ rfl
  have y1_1 := YL.cells 1 _ rfl
  have x1_2 := XL.cells 2 _ rfl
  have y1_2 := YL.cells 2 _ rfl
  have x1_3 := XL.cells 3 _ rfl
  have y1_3 := YL.cells 3 _ rfl
  have x1_4 := XL.cells 4 _ rfl
  have y1_4 := YL.cells 4 _ rfl
  have x1_5 := XL.cells 5 _ rfl
  have y1_5 := YL.cells 5 _ rfl
  have x1_6 := XL.cells 6 _ rfl
  have y1_6 := YL.cells 6 _ rfl
  have x1_7 := XL.cells 7 _ rfl
  have y1_7 := YL.cells 7 _ rfl
  have x1_8 := XL.cells 8 _ rfl
  have y1_8 := YL.cells 8 _ rfl
  have x1_9 := XL.cells 9 _ rfl
  have y1_9 := YL.cells 9 _ rfl
  have x1_10 := XL.cells 10 _ rfl
  have y1_10 := YL.cells 10 _ rfl
  have x1_11 := XL.cells 11 _ rfl
  have y1_11 := YL.cells 11 _ rfl
  have X1H := Lib.hid XL
  have Y1H := Lib.hid YL
  clear XL YL b1 XH YH
  go_wp2_with fail
  refine (C1.out _ B1H.out).mono ?_
  rintro e w2 ⟨rfl, b2⟩
  have B2H := Lib.hid (chainX w B1H.out b2)
  have XL := X1H.out.later b2
  have YL := Y1H.out.later b2
  have x2_0 := XL.cells 0 _ rfl
  have y2_0 := YL.cells 0 _ rfl
  have x2_1 := XL.cells 1 _ rfl
  have y2_1 := YL.cells 1 _ rfl
  have x2_2 := XL.cells 2 _ rfl
  have y2_2 := YL.cells 2 _ rfl
  have x2_3 := XL.cells 3 _ rfl
  have y2_3 := YL.cells 3 _ rfl
  have x2_4 := XL.cells 4 _ rfl
  have y2_4 := YL.cells 4 _ rfl
  have x2_5 := XL.cells 5 _ rfl
  have y2_5 := YL.cells 5 _ rfl
  have x2_6 := XL.cells 6 _ rfl
  have y2_6 := YL.cells 6 _ rfl
  have x2_7 := XL.cells 7 _ rfl
  have y2_7 := YL.cells 7 _ rfl
  have x2_8 := XL.cells 8 _ rfl
  have y2_8 := YL.cells 8 _ rfl
  have x2_9 := XL.cells 9 _ rfl
  have y2_9 := YL.cells 9 _ rfl
  have x2_10 := XL.cells 10 _ rfl
  have y2_10 := YL.cells 10 _ rfl
  have x2_11 := XL.cells 11 _ rfl
  have y2_11 := YL.cells 11 _ rfl
  have X2H := Lib.hid XL
  have Y2H := Lib.hid YL
  clear XL YL b2 X1H Y1H
  clear x1_0 y1_0 x1_1 y1_1 x1_2 y1_2 x1_3 y1_3 x1_4 y1_4 x1_5 y1_5 x1_6 y1_6 x1_7 y1_7 x1_8 y1_8 x1_9 y1_9 x1_10 y1_10 x1_11 y1_11
  go_wp2_with fail
  refine (C2.out _ B2H.out).mono ?_
  rintro e w3 ⟨rfl, b3⟩
  have B3H := Lib.hid (chainX w B2H.out b3)
  have XL := X2H.out.later b3
  have YL := Y2H.out.later b3
  have x3_0 := XL.cells 0 _ rfl
  have y3_0 := YL.cells 0 _ rfl
  have x3_1 := XL.cells 1 _ rfl
  have y3_1 := YL.cells 1 _ rfl
  have x3_2 := XL.cells 2 _ rfl
  have y3_2 := YL.cells 2 _ rfl
  have x3_3 := XL.cells 3 _ rfl
  have y3_3 := YL.cells 3 _ rfl
  have x3_4 := XL.cells 4 _ rfl
  have y3_4 := YL.cells 4 _ rfl
  have x3_5 := XL.cells 5 _ rfl
  have y3_5 := YL.cells 5 _ rfl
  have x3_6 := XL.cells 6 _ rfl
  have y3_6 := YL.cells 6 _ rfl
  have x3_7 := XL.cells 7 _ rfl
  have y3_7 := YL.cells 7 _ rfl
  have x3_8 := XL.cells 8 _ rfl
  have y3_8 := YL.cells 8 _ rfl
  have x3_9 := XL.cells 9 _ rfl
  have y3_9 := YL.cells 9 _ rfl
  have x3_10 := XL.cells 10 _ rfl
  have y3_10 := YL.cells 10 _ rfl
  have x3_11 := XL.cells 11 _ rfl
  have y3_11 := YL.cells 11 _ rfl
  have X3H := Lib.hid XL
  have Y3H := Lib.hid YL
  clear XL YL b3 X2H Y2H
  clear x2_0 y2_0 x2_1 y2_1 x2_2 y2_2 x2_3 y2_3 x2_4 y2_4 x2_5 y2_5 x2_6 y2_6 x2_7 y2_7 x2_8 y2_8 x2_9 y2_9 x2_10 y2_10 x2_11 y2_11
  go_wp2_with fail
  refine (C3.out _ B3H.out).mono ?_
  rintro e w4 ⟨rfl, b4⟩
  have B4H := Lib.hid (chainX w B3H.out b4)
  have XL := X3H.out.later b4
  have YL := Y3H.out.later b4
  have x4_0 := XL.cells 0 _ rfl
  have y4_0 := YL.cells 0 _ rfl
  have x4_1 := XL.cells 1 _ rfl
  have y4_1 := YL.cells 1 _ rfl
  have x4_2 := XL.cells 2 _ rfl
  have y4_2 := YL.cells 2 _ rfl
  have x4_3 := XL.cells 3 _ rfl
  have y4_3 := YL.cells 3 _ rfl
  have x4_4 := XL.cells 4 _ rfl
  have y4_4 := YL.cells 4 _ rfl
  have x4_5 := XL.cells 5 _ rfl
  have y4_5 := YL.cells 5 _ rfl
  have x4_6 := XL.cells 6 _ rfl
  have y4_6 := YL.cells 6 _ rfl
  have x4_7 := XL.cells 7 _ rfl
  have y4_7 := YL.cells 7 _ rfl
  have x4_8 := XL.cells 8 _ rfl
  have y4_8 := YL.cells 8 _ rfl
  have x4_9 := XL.cells 9 _ rfl
  have y4_9 := YL.cells 9 _ rfl
  have x4_10 := XL.cells 10 _ rfl
  have y4_10 := YL.cells 10 _ rfl
  have x4_11 := XL.cells 11 _ rfl
  have y4_11 := YL.cells 11 _ rfl
  have X4H := Lib.hid XL
  have Y4H := Lib.hid YL
  clear XL YL b4 X3H Y3H
  clear x3_0 y3_0 x3_1 y3_1 x3_2 y3_2 x3_3 y3_3 x3_4 y3_4 x3_5 y3_5 x3_6 y3_6 x3_7 y3_7 x3_8 y3_8 x3_9 y3_9 x3_10 y3_10 x3_11 y3_11
  go_wp2_with fail
  refine (C4.out _ B4H.out).mono ?_
  rintro e w5 ⟨rfl, b5⟩
  have B5H := Lib.hid (chainX w B4H.out b5)
  have XL := X4H.out.later b5
  have YL := Y4H.out.later b5
  have x5_0 := XL.cells 0 _ rfl
  have y5_0 := YL.cells 0 _ rfl
  have x5_1 := XL.cells 1 _ rfl
  have y5_1 := YL.cells 1 _ rfl
  have x5_2 := XL.cells 2 _ rfl
  have y5_2 := YL.cells 2 _ rfl
  have x5_3 := XL.cells 3 _ rfl
  have y5_3 := YL.cells 3 _ rfl
  have x5_4 := XL.cells 4 _ rfl
  have y5_4 := YL.cells 4 _ rfl
  have x5_5 := XL.cells 5 _ rfl
  have y5_5 := YL.cells 5 _ rfl
  have x5_6 := XL.cells 6 _ rfl
  have y5_6 := YL.cells 6 _ rfl
  have x5_7 := XL.cells 7 _ rfl
  have y5_7 := YL.cells 7 _ rfl
  have x5_8 := XL.cells 8 _ rfl
  have y5_8 := YL.cells 8 _ rfl
  have x5_9 := XL.cells 9 _ rfl
  have y5_9 := YL.cells 9 _ rfl
  have x5_10 := XL.cells 10 _ rfl
  have y5_10 := YL.cells 10 _ rfl
  have x5_11 := XL.cells 11 _ rfl
  have y5_11 := YL.cells 11 _ rfl
  have X5H := Lib.hid XL
  have Y5H := Lib.hid YL
  clear XL YL b5 X4H Y4H
  clear x4_0 y4_0 x4_1 y4_1 x4_2 y4_2 x4_3 y4_3 x4_4 y4_4 x4_5 y4_5 x4_6 y4_6 x4_7 y4_7 x4_8 y4_8 x4_9 y4_9 x4_10 y4_10 x4_11 y4_11
  go_wp2_with fail
  refine (C5.out _ B5H.out).mono ?_
  rintro e w6 ⟨rfl, b6⟩
  have B6H := Lib.hid (chainX w B5H.out b6)
  have XL := X5H.out.later b6
  have YL := Y5H.out.later b6
  have x6_0 := XL.cells 0 _ rfl
  have y6_0 := YL.cells 0 _ rfl
  have x6_1 := XL.cells 1 _ rfl
  have y6_1 := YL.cells 1 _ rfl
  have x6_2 := XL.cells 2 _ rfl
  have y6_2 := YL.cells 2 _ rfl
  have x6_3 := XL.cells 3 _ rfl
  have y6_3 := YL.cells 3 _ rfl
  have x6_4 := XL.cells 4 _ rfl
  have y6_4 := YL.cells 4 _ rfl
  have x6_5 := XL.cells 5 _ rfl
  have y6_5 := YL.cells 5 _ rfl
  have x6_6 := XL.cells 6 _ rfl
  have y6_6 := YL.cells 6 _ rfl
  have x6_7 := XL.cells 7 _ rfl
  have y6_7 := YL.cells 7 _ rfl
  have x6_8 := XL.cells 8 _ rfl
  have y6_8 := YL.cells 8 _ rfl
  have x6_9 := XL.cells 9 _ rfl
  have y6_9 := YL.cells 9 _ rfl
  have x6_10 := XL.cells 10 _ rfl
  have y6_10 := YL.cells 10 _ rfl
  have x6_11 := XL.cells 11 _ rfl
  have y6_11 := YL.cells 11 _ rfl
  have X6H := Lib.hid XL
  have Y6H := Lib.hid YL
  clear XL YL b6 X5H Y5H
  clear x5_0 y5_0 x5_1 y5_1 x5_2 y5_2 x5_3 y5_3 x5_4 y5_4 x5_5 y5_5 x5_6 y5_6 x5_7 y5_7 x5_8 y5_8 x5_9 y5_9 x5_10 y5_10 x5_11 y5_11
  go_wp2_with fail
  refine (C6.out _ B6H.out).mono ?_
  rintro e w7 ⟨rfl, b7⟩
  have B7H := Lib.hid (chainX w B6H.out b7)
  have XL := X6H.out.later b7
  have YL := Y6H.out.later b7
  have x7_0 := XL.cells 0 _ rfl
  have y7_0 := YL.cells 0 _ rfl
  have x7_1 := XL.cells 1 _ rfl
  have y7_1 := YL.cells 1 _ rfl
  have x7_2 := XL.cells 2 _ rfl
  have y7_2 := YL.cells 2 _ rfl
  have x7_3 := XL.cells 3 _ rfl
  have y7_3 := YL.cells 3 _ rfl
  have x7_4 := XL.cells 4 _ rfl
  have y7_4 := YL.cells 4 _ rfl
  have x7_5 := XL.cells 5 _ rfl
  have y7_5 := YL.cells 5 _ rfl
  have x7_6 := XL.cells 6 _ rfl
  have y7_6 := YL.cells 6 _ rfl
  have x7_7 := XL.cells 7 _ rfl
  have y7_7 := YL.cells 7 _ rfl
  have x7_8 := XL.cells 8 _ rfl
  have y7_8 := YL.cells 8 _ rfl
  have x7_9 := XL.cells 9 _ rfl
  have y7_9 := YL.cells 9 _ rfl
  have x7_10 := XL.cells 10 _ rfl
  have y7_10 := YL.cells 10 _ rfl
  have x7_11 := XL.cells 11 _ rfl
  have y7_11 := YL.cells 11 _ rfl
  have X7H := Lib.hid XL
  have Y7H := Lib.hid YL
  clear XL YL b7 X6H Y6H
  clear x6_0 y6_0 x6_1 y6_1 x6_2 y6_2 x6_3 y6_3 x6_4 y6_4 x6_5 y6_5 x6_6 y6_6 x6_7 y6_7 x6_8 y6_8 x6_9 y6_9 x6_10 y6_10 x6_11 y6_11
  go_wp2
  go_ret
  exact ⟨rfl, B7H.out⟩


theorem infoPgState : (Try.prog.info? 57).map (fun i => (i.zero, i.size, i.bytes)) = some (some (.agg #[.int .i64 0, .int .i64 0, .int .i64 0, .int .i64 0, .int .i64 0, .int .i64 0, .slice none 0 0, .slice none 0 0, .slice none 0 0, .int .i64 0, .int .i64 0, .slice none 0 0]), 12, 160) := by kernel_rfl

end Go.Proofs.Ythbhefgnbomboaa.Rd
