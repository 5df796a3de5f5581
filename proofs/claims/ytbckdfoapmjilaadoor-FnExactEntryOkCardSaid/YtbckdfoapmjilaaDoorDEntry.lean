/-
  Data of the type Entry: its reading, and the laws' helpers on it (written by tools/gen/data.py).
-/
import Derived.Test.YtbckdfoapmjilaaDoorDVer
import Derived.Test.YtbckdfoapmjilaaDoorDReq
namespace Go.Proofs.YtbckdfoapmjilaaDoor.Rd
open Go.RowKit Go.ChangeShapes Go.WideShapes
open Go.Proofs.YtbckdfoapmjilaaDoor.Sg (BxN)
set_option linter.unusedVariables false
set_option linter.unusedSimpArgs false

/-- Entry. -/
structure DEntry where
  ver : DVer
  prior : DVer
  name : ByteArray
  gone : Bool
  size : Int
  sum : Int
  req : DReq
instance : Inhabited DEntry := ⟨⟨default, default, ByteArray.empty, false, 0, 0, default⟩⟩
instance : Rdb DEntry where
  size := 10
  sz := fun d => Rdb.sz d.name
  rd := fun fr lo w cs d => cs.length = 10 ∧ Rdb.rd fr lo w ((cs.drop 0).take 2) d.ver ∧ Rdb.rd fr lo w ((cs.drop 2).take 2) d.prior ∧ Rdb.rd fr lo w ((cs.drop 4).take 1) d.name ∧ Rdb.rd fr lo w ((cs.drop 5).take 1) d.gone ∧ Rdb.rd fr lo w ((cs.drop 6).take 1) d.size ∧ Rdb.rd fr lo w ((cs.drop 7).take 1) d.sum ∧ Rdb.rd fr lo w ((cs.drop 8).take 2) d.req
  len := fun h => h.1
  below := fun ⟨e, h0, h1, h2, h3, h4, h5, h6⟩ b => ⟨e, Rdb.below h0 b, Rdb.below h1 b, Rdb.below h2 b, Rdb.below h3 b, Rdb.below h4 b, Rdb.below h5 b, Rdb.below h6 b⟩
  far := fun ⟨e, h0, h1, h2, h3, h4, h5, h6⟩ b => ⟨e, Rdb.far h0 b, Rdb.far h1 b, Rdb.far h2 b, Rdb.far h3 b, Rdb.far h4 b, Rdb.far h5 b, Rdb.far h6 b⟩
  weak := fun ⟨e, h0, h1, h2, h3, h4, h5, h6⟩ b c => ⟨e, Rdb.weak h0 b c, Rdb.weak h1 b c, Rdb.weak h2 b c, Rdb.weak h3 b c, Rdb.weak h4 b c, Rdb.weak h5 b c, Rdb.weak h6 b c⟩
instance : Mkb DEntry where
  swap := by
    rintro fr lo w cs d c v v' ⟨e, h0, h1, h2, h3, h4, h5, h6⟩ hv s
    obtain ⟨d0, z0, r0⟩ := Mkb.field h0 hv s
    obtain ⟨d1, z1, r1⟩ := Mkb.field h1 hv s
    obtain ⟨d2, z2, r2⟩ := Mkb.field h2 hv s
    obtain ⟨d3, z3, r3⟩ := Mkb.field h3 hv s
    obtain ⟨d4, z4, r4⟩ := Mkb.field h4 hv s
    obtain ⟨d5, z5, r5⟩ := Mkb.field h5 hv s
    obtain ⟨d6, z6, r6⟩ := Mkb.field h6 hv s
    exact ⟨⟨d0, d1, d2, d3, d4, d5, d6⟩, (by show Rdb.sz d2 = Rdb.sz d.name; omega), by rw [List.length_set]; exact e, r0, r1, r2, r3, r4, r5, r6⟩
  stir := by
    rintro fr lo w cs d p v v' ⟨e, h0, h1, h2, h3, h4, h5, h6⟩ hp s
    obtain ⟨d0, z0, r0⟩ := Mkb.stir h0 hp s
    obtain ⟨d1, z1, r1⟩ := Mkb.stir h1 hp s
    obtain ⟨d2, z2, r2⟩ := Mkb.stir h2 hp s
    obtain ⟨d3, z3, r3⟩ := Mkb.stir h3 hp s
    obtain ⟨d4, z4, r4⟩ := Mkb.stir h4 hp s
    obtain ⟨d5, z5, r5⟩ := Mkb.stir h5 hp s
    obtain ⟨d6, z6, r6⟩ := Mkb.stir h6 hp s
    exact ⟨⟨d0, d1, d2, d3, d4, d5, d6⟩, (by show Rdb.sz d2 = Rdb.sz d.name; omega), e, r0, r1, r2, r3, r4, r5, r6⟩
  move := fun ⟨e, h0, h1, h2, h3, h4, h5, h6⟩ sz hm => ⟨e, Mkb.move h0 sz hm, Mkb.move h1 sz hm, Mkb.move h2 sz hm, Mkb.move h3 sz hm, Mkb.move h4 sz hm, Mkb.move h5 sz hm, Mkb.move h6 sz hm⟩
theorem shape_Entry {fr : Bool} {lo : Nat} {w : World} {cs : List Value} {d : DEntry} (h : Rdb.rd fr lo w cs d) : cs = [.int .i64 d.ver.epoch, .int .i64 d.ver.seq, .int .i64 d.prior.epoch, .int .i64 d.prior.seq, .string d.name, .bool d.gone, .int .i64 d.size, .int .i64 d.sum, .int .i64 d.req.client, .int .i64 d.req.no] ∧ (Lit.int .i64 d.ver.epoch).wf = true ∧ (Lit.int .i64 d.ver.seq).wf = true ∧ (Lit.int .i64 d.prior.epoch).wf = true ∧ (Lit.int .i64 d.prior.seq).wf = true ∧ d.name.size ≤ 9223372036854775807 ∧ (Lit.int .i64 d.size).wf = true ∧ (Lit.int .i64 d.sum).wf = true ∧ (Lit.int .i64 d.req.client).wf = true ∧ (Lit.int .i64 d.req.no).wf = true := by
  obtain ⟨e, h0, h1, h2, h3, h4, h5, h6⟩ := h
  match cs, e with
  | [x0, x1, x2, x3, x4, x5, x6, x7, x8, x9], _ =>
    replace h0 : Rdb.rd fr lo w [x0, x1] d.ver := h0
    obtain ⟨q0, f0, f1⟩ := shape_Ver h0
    simp only [List.cons.injEq, and_true] at q0
    obtain ⟨rfl, rfl⟩ := q0
    replace h1 : Rdb.rd fr lo w [x2, x3] d.prior := h1
    obtain ⟨q2, f2, f3⟩ := shape_Ver h1
    simp only [List.cons.injEq, and_true] at q2
    obtain ⟨rfl, rfl⟩ := q2
    replace h2 : Rdb.rd fr lo w [x4] d.name := h2
    obtain ⟨e4, f4⟩ := h2
    obtain rfl : x4 = .string d.name := by simpa using e4
    replace h3 : Rdb.rd fr lo w [x5] d.gone := h3
    replace h3 : [x5] = [.bool d.gone] := h3
    obtain rfl : x5 = .bool d.gone := by simpa using h3
    replace h4 : Rdb.rd fr lo w [x6] d.size := h4
    obtain ⟨e6, f6⟩ := h4
    obtain rfl : x6 = .int .i64 d.size := by simpa using e6
    replace h5 : Rdb.rd fr lo w [x7] d.sum := h5
    obtain ⟨e7, f7⟩ := h5
    obtain rfl : x7 = .int .i64 d.sum := by simpa using e7
    replace h6 : Rdb.rd fr lo w [x8, x9] d.req := h6
    obtain ⟨q8, f8, f9⟩ := shape_Req h6
    simp only [List.cons.injEq, and_true] at q8
    obtain ⟨rfl, rfl⟩ := q8
    exact ⟨rfl, f0, f1, f2, f3, f4, f6, f7, f8, f9⟩
theorem mk_Entry {fr : Bool} {lo : Nat} {w : World} {d : DEntry}  (f0 : (Lit.int .i64 d.ver.epoch).wf = true) (f1 : (Lit.int .i64 d.ver.seq).wf = true) (f2 : (Lit.int .i64 d.prior.epoch).wf = true) (f3 : (Lit.int .i64 d.prior.seq).wf = true) (f4 : d.name.size ≤ 9223372036854775807) (f5 : (Lit.int .i64 d.size).wf = true) (f6 : (Lit.int .i64 d.sum).wf = true) (f7 : (Lit.int .i64 d.req.client).wf = true) (f8 : (Lit.int .i64 d.req.no).wf = true) : Rdb.rd fr lo w [.int .i64 d.ver.epoch, .int .i64 d.ver.seq, .int .i64 d.prior.epoch, .int .i64 d.prior.seq, .string d.name, .bool d.gone, .int .i64 d.size, .int .i64 d.sum, .int .i64 d.req.client, .int .i64 d.req.no] d :=
  ⟨rfl, ⟨rfl, ⟨rfl, f0⟩, ⟨rfl, f1⟩⟩, ⟨rfl, ⟨rfl, f2⟩, ⟨rfl, f3⟩⟩, ⟨rfl, f4⟩, rfl, ⟨rfl, f5⟩, ⟨rfl, f6⟩, ⟨rfl, ⟨rfl, f7⟩, ⟨rfl, f8⟩⟩⟩
theorem opens_Entry {P : Program} {t : TypeId} {f0 f1 f2 f3 f4 f5 f6 : Field} (hu : P.underlying t = some (.struct #[f0, f1, f2, f3, f4, f5, f6])) (hC : P.cellsOf t = 10) (off : f0.offset = 0 ∧ f1.offset = 2 ∧ f2.offset = 4 ∧ f3.offset = 5 ∧ f4.offset = 6 ∧ f5.offset = 7 ∧ f6.offset = 8) (h0 : Opens P f0.type DVer) (h1 : Opens P f1.type DVer) (h2 : Opens P f2.type ByteArray) (h3 : Opens P f3.type Bool) (h4 : Opens P f4.type Int) (h5 : Opens P f5.type Int) (h6 : Opens P f6.type DReq) : Opens P t DEntry := by
  obtain ⟨o0, o1, o2, o3, o4, o5, o6⟩ := off
  refine ⟨hC, fun enc w base spare held fuel cs x h => ?_⟩
  obtain ⟨xs, n, _, _, hl, hlen, hg⟩ := DataW.trod_struct hu h
  match xs, hlen with
  | [y0, y1, y2, y3, y4, y5, y6], _ =>
    have t0 := hg 0 f0 rfl
    rw [o0, h0.1] at t0
    obtain ⟨d0, r0⟩ := h0.2 _ _ _ _ _ _ _ y0 t0
    have t1 := hg 1 f1 rfl
    rw [o1, h1.1] at t1
    obtain ⟨d1, r1⟩ := h1.2 _ _ _ _ _ _ _ y1 t1
    have t2 := hg 2 f2 rfl
    rw [o2, h2.1] at t2
    obtain ⟨d2, r2⟩ := h2.2 _ _ _ _ _ _ _ y2 t2
    have t3 := hg 3 f3 rfl
    rw [o3, h3.1] at t3
    obtain ⟨d3, r3⟩ := h3.2 _ _ _ _ _ _ _ y3 t3
    have t4 := hg 4 f4 rfl
    rw [o4, h4.1] at t4
    obtain ⟨d4, r4⟩ := h4.2 _ _ _ _ _ _ _ y4 t4
    have t5 := hg 5 f5 rfl
    rw [o5, h5.1] at t5
    obtain ⟨d5, r5⟩ := h5.2 _ _ _ _ _ _ _ y5 t5
    have t6 := hg 6 f6 rfl
    rw [o6, h6.1] at t6
    obtain ⟨d6, r6⟩ := h6.2 _ _ _ _ _ _ _ y6 t6
    exact ⟨⟨d0, d1, d2, d3, d4, d5, d6⟩, hl.trans hC, r0, r1, r2, r3, r4, r5, r6⟩

set_option maxRecDepth 100000 in
set_option maxHeartbeats 1000000 in
theorem szEntry {cs : List Value} {fr : Bool} {lo : Nat} (d : DEntry) (left : Int) (l0 : 0 ≤ left) (l1 : left ≤ 2097152) (w : World) (h : Rdb.rd fr lo w cs d) : Calls Tryd.prog 5 #[.agg cs.toArray, .int .i64 left] w (SzB left (Rdb.sz d) w) := by
  obtain ⟨rfl, f0_0, f0_1, f0_2, f0_3, f0_4, f0_6, f0_7, f0_8, f0_9⟩ := shape_Entry h
  have E : Rdb.sz d = d.name.size := rfl
  rw [E]
  clear E
  unfold SzB
  generalize d.name = s at *
  by_cases q : (s.size : Int) ≤ left
  · rw [szI_yes (by omega)]
    go_enter Tryd.func5, Tryd.ntmps5
    go_wp2
    go_ret
    refine ⟨rfl, ?_⟩
    repeat (first | exact Below.refl _ _ | refine Below.alloc ?_ (by simp <;> omega) _)
  · rw [szI_no (by omega)]
    go_enter Tryd.func5, Tryd.ntmps5
    go_wp2
    go_ret
    refine ⟨rfl, ?_⟩
    repeat (first | exact Below.refl _ _ | refine Below.alloc ?_ (by simp <;> omega) _)

set_option maxRecDepth 100000 in
set_option maxHeartbeats 1000000 in
theorem toEntry {cs : List Value} {fr : Bool} {lo : Nat} (d : DEntry) (w : World) (hs : Rdb.sz d ≤ 2097152) (h : Rdb.rd fr lo w cs d) : Calls Tryd.prog 7 #[.agg cs.toArray] w (StC d w) := by
  obtain ⟨rfl, f0_0, f0_1, f0_2, f0_3, f0_4, f0_6, f0_7, f0_8, f0_9⟩ := shape_Entry h
  go_enter Tryd.func7, Tryd.ntmps7
  go_wp2
  refine bodyPost_ret (v := .agg #[.int .i64 d.ver.epoch, .int .i64 d.ver.seq, .int .i64 d.prior.epoch, .int .i64 d.prior.seq, .string d.name, .bool d.gone, .int .i64 d.size, .int .i64 d.sum, .int .i64 d.req.client, .int .i64 d.req.no]) (by simp [results, Tryd.results7, go_sem]) rfl ⟨_, rfl, mk_Entry f0_0 f0_1 f0_2 f0_3 f0_4 f0_6 f0_7 f0_8 f0_9, ?_⟩
  repeat (first | exact Below.refl _ _ | refine Below.alloc ?_ (by simp <;> omega) _)

theorem infoEntry : (Tryd.prog.info? 33).map (fun i => (i.zero, i.size, i.bytes)) = some (some (.agg #[.int .i64 0, .int .i64 0, .int .i64 0, .int .i64 0, .string ByteArray.empty, .bool false, .int .i64 0, .int .i64 0, .int .i64 0, .int .i64 0]), 10, 88) := by kernel_rfl

end Go.Proofs.YtbckdfoapmjilaaDoor.Rd
