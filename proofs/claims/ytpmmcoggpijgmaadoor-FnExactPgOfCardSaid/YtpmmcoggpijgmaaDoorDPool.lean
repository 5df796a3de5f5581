/-
  Data of the type Pool: its reading, and the laws' helpers on it (written by tools/gen/data.py).
-/
import Derived.Test.YtpmmcoggpijgmaaDoorDCode
namespace Go.Proofs.YtpmmcoggpijgmaaDoor.Rd
open Go.RowKit Go.ChangeShapes Go.WideShapes
open Go.Proofs.YtpmmcoggpijgmaaDoor.Sg (BxN)
set_option linter.unusedVariables false
set_option linter.unusedSimpArgs false

/-- Pool. -/
structure DPool where
  id : Int
  code : DCode
  min : Int
  pgs : Int
  rule : Int
instance : Inhabited DPool := ⟨⟨0, default, 0, 0, 0⟩⟩
instance : Rdb DPool where
  size := 6
  sz := fun d => 0
  rd := fun fr lo w cs d => cs.length = 6 ∧ Rdb.rd fr lo w ((cs.drop 0).take 1) d.id ∧ Rdb.rd fr lo w ((cs.drop 1).take 2) d.code ∧ Rdb.rd fr lo w ((cs.drop 3).take 1) d.min ∧ Rdb.rd fr lo w ((cs.drop 4).take 1) d.pgs ∧ Rdb.rd fr lo w ((cs.drop 5).take 1) d.rule
  len := fun h => h.1
  below := fun ⟨e, h0, h1, h2, h3, h4⟩ b => ⟨e, Rdb.below h0 b, Rdb.below h1 b, Rdb.below h2 b, Rdb.below h3 b, Rdb.below h4 b⟩
  far := fun ⟨e, h0, h1, h2, h3, h4⟩ b => ⟨e, Rdb.far h0 b, Rdb.far h1 b, Rdb.far h2 b, Rdb.far h3 b, Rdb.far h4 b⟩
  weak := fun ⟨e, h0, h1, h2, h3, h4⟩ b c => ⟨e, Rdb.weak h0 b c, Rdb.weak h1 b c, Rdb.weak h2 b c, Rdb.weak h3 b c, Rdb.weak h4 b c⟩
instance : Mkb DPool where
  swap := by
    rintro fr lo w cs d c v v' ⟨e, h0, h1, h2, h3, h4⟩ hv s
    obtain ⟨d0, z0, r0⟩ := Mkb.field h0 hv s
    obtain ⟨d1, z1, r1⟩ := Mkb.field h1 hv s
    obtain ⟨d2, z2, r2⟩ := Mkb.field h2 hv s
    obtain ⟨d3, z3, r3⟩ := Mkb.field h3 hv s
    obtain ⟨d4, z4, r4⟩ := Mkb.field h4 hv s
    exact ⟨⟨d0, d1, d2, d3, d4⟩, rfl, by rw [List.length_set]; exact e, r0, r1, r2, r3, r4⟩
  stir := by
    rintro fr lo w cs d p v v' ⟨e, h0, h1, h2, h3, h4⟩ hp s
    obtain ⟨d0, z0, r0⟩ := Mkb.stir h0 hp s
    obtain ⟨d1, z1, r1⟩ := Mkb.stir h1 hp s
    obtain ⟨d2, z2, r2⟩ := Mkb.stir h2 hp s
    obtain ⟨d3, z3, r3⟩ := Mkb.stir h3 hp s
    obtain ⟨d4, z4, r4⟩ := Mkb.stir h4 hp s
    exact ⟨⟨d0, d1, d2, d3, d4⟩, rfl, e, r0, r1, r2, r3, r4⟩
  move := fun ⟨e, h0, h1, h2, h3, h4⟩ sz hm => ⟨e, Mkb.move h0 sz hm, Mkb.move h1 sz hm, Mkb.move h2 sz hm, Mkb.move h3 sz hm, Mkb.move h4 sz hm⟩
theorem shape_Pool {fr : Bool} {lo : Nat} {w : World} {cs : List Value} {d : DPool} (h : Rdb.rd fr lo w cs d) : cs = [.int .i64 d.id, .int .i64 d.code.k, .int .i64 d.code.m, .int .i64 d.min, .int .i64 d.pgs, .int .i64 d.rule] ∧ (Lit.int .i64 d.id).wf = true ∧ (Lit.int .i64 d.code.k).wf = true ∧ (Lit.int .i64 d.code.m).wf = true ∧ (Lit.int .i64 d.min).wf = true ∧ (Lit.int .i64 d.pgs).wf = true ∧ (Lit.int .i64 d.rule).wf = true := by
  obtain ⟨e, h0, h1, h2, h3, h4⟩ := h
  match cs, e with
  | [x0, x1, x2, x3, x4, x5], _ =>
    replace h0 : Rdb.rd fr lo w [x0] d.id := h0
    obtain ⟨e0, f0⟩ := h0
    obtain rfl : x0 = .int .i64 d.id := by simpa using e0
    replace h1 : Rdb.rd fr lo w [x1, x2] d.code := h1
    obtain ⟨q1, f1, f2⟩ := shape_Code h1
    simp only [List.cons.injEq, and_true] at q1
    obtain ⟨rfl, rfl⟩ := q1
    replace h2 : Rdb.rd fr lo w [x3] d.min := h2
    obtain ⟨e3, f3⟩ := h2
    obtain rfl : x3 = .int .i64 d.min := by simpa using e3
    replace h3 : Rdb.rd fr lo w [x4] d.pgs := h3
    obtain ⟨e4, f4⟩ := h3
    obtain rfl : x4 = .int .i64 d.pgs := by simpa using e4
    replace h4 : Rdb.rd fr lo w [x5] d.rule := h4
    obtain ⟨e5, f5⟩ := h4
    obtain rfl : x5 = .int .i64 d.rule := by simpa using e5
    exact ⟨rfl, f0, f1, f2, f3, f4, f5⟩
theorem mk_Pool {fr : Bool} {lo : Nat} {w : World} {d : DPool}  (f0 : (Lit.int .i64 d.id).wf = true) (f1 : (Lit.int .i64 d.code.k).wf = true) (f2 : (Lit.int .i64 d.code.m).wf = true) (f3 : (Lit.int .i64 d.min).wf = true) (f4 : (Lit.int .i64 d.pgs).wf = true) (f5 : (Lit.int .i64 d.rule).wf = true) : Rdb.rd fr lo w [.int .i64 d.id, .int .i64 d.code.k, .int .i64 d.code.m, .int .i64 d.min, .int .i64 d.pgs, .int .i64 d.rule] d :=
  ⟨rfl, ⟨rfl, f0⟩, ⟨rfl, ⟨rfl, f1⟩, ⟨rfl, f2⟩⟩, ⟨rfl, f3⟩, ⟨rfl, f4⟩, ⟨rfl, f5⟩⟩
theorem opens_Pool {P : Program} {t : TypeId} {f0 f1 f2 f3 f4 : Field} (hu : P.underlying t = some (.struct #[f0, f1, f2, f3, f4])) (hC : P.cellsOf t = 6) (off : f0.offset = 0 ∧ f1.offset = 1 ∧ f2.offset = 3 ∧ f3.offset = 4 ∧ f4.offset = 5) (h0 : Opens P f0.type Int) (h1 : Opens P f1.type DCode) (h2 : Opens P f2.type Int) (h3 : Opens P f3.type Int) (h4 : Opens P f4.type Int) : Opens P t DPool := by
  obtain ⟨o0, o1, o2, o3, o4⟩ := off
  refine ⟨hC, fun enc w base spare held fuel cs x h => ?_⟩
  obtain ⟨xs, n, _, _, hl, hlen, hg⟩ := DataW.trod_struct hu h
  match xs, hlen with
  | [y0, y1, y2, y3, y4], _ =>
    have t0 := hg 0 f0 rfl
    rw [o0, h0.1] at t0
    obtain ⟨d0, r0⟩ := h0.2 _ _ _ _ _ _ _ y0 t0
    have t1 := hg 1 f1 rfl
    rw [o1, h1.1] at t1
    obtain ⟨d1, r1⟩ := h1.2 _ _ _ _ _ _ _ y1 t1
    have t2 := hg 2 f2 rfl
    rw [o2, h2.1] at t2
    obtain ⟨d2, r2⟩ := h2.2 _ _ _ _ _ _ _ y2 t2
    have t3 := hg 3 f3 rfl
    rw [o3, h3.1] at t3
    obtain ⟨d3, r3⟩ := h3.2 _ _ _ _ _ _ _ y3 t3
    have t4 := hg 4 f4 rfl
    rw [o4, h4.1] at t4
    obtain ⟨d4, r4⟩ := h4.2 _ _ _ _ _ _ _ y4 t4
    exact ⟨⟨d0, d1, d2, d3, d4⟩, hl.trans hC, r0, r1, r2, r3, r4⟩

set_option maxRecDepth 100000 in
set_option maxHeartbeats 1000000 in
theorem toPool {cs : List Value} {fr : Bool} {lo : Nat} (d : DPool) (w : World) (hs : Rdb.sz d ≤ 2097152) (h : Rdb.rd fr lo w cs d) : Calls Tryd.prog 5 #[.agg cs.toArray] w (StC d w) := by
  obtain ⟨rfl, f0_0, f0_1, f0_2, f0_3, f0_4, f0_5⟩ := shape_Pool h
  go_enter Tryd.func5, Tryd.ntmps5
  go_wp2
  refine bodyPost_ret (v := .agg #[.int .i64 d.id, .int .i64 d.code.k, .int .i64 d.code.m, .int .i64 d.min, .int .i64 d.pgs, .int .i64 d.rule]) (by simp [results, Tryd.results5, go_sem]) rfl ⟨_, rfl, mk_Pool f0_0 f0_1 f0_2 f0_3 f0_4 f0_5, ?_⟩
  repeat (first | exact Below.refl _ _ | refine Below.alloc ?_ (by simp <;> omega) _)

theorem infoPool : (Tryd.prog.info? 32).map (fun i => (i.zero, i.size, i.bytes)) = some (some (.agg #[.int .i64 0, .int .i64 0, .int .i64 0, .int .i64 0, .int .i64 0, .int .i64 0]), 6, 48) := by kernel_rfl

end Go.Proofs.YtpmmcoggpijgmaaDoor.Rd
