/-
  Data of the type Inc: its reading, and the laws' helpers on it (written by tools/gen/data.py).
-/
import Derived.Test.YteogbfmghbaelaaRdI
namespace Go.Proofs.Yteogbfmghbaelaa.Rd
open Go.RowKit Go.ChangeShapes Go.WideShapes
open Go.Proofs.Yteogbfmghbaelaa.Sg (BxN)
set_option linter.unusedVariables false
set_option linter.unusedSimpArgs false

/-- Inc. -/
structure DInc where
  epoch : Int
  kind : Int
  a : Int
  b : Int
instance : Inhabited DInc := ⟨⟨0, 0, 0, 0⟩⟩
instance : Rdb DInc where
  size := 4
  sz := fun d => 0
  rd := fun fr lo w cs d => cs.length = 4 ∧ Rdb.rd fr lo w ((cs.drop 0).take 1) d.epoch ∧ Rdb.rd fr lo w ((cs.drop 1).take 1) d.kind ∧ Rdb.rd fr lo w ((cs.drop 2).take 1) d.a ∧ Rdb.rd fr lo w ((cs.drop 3).take 1) d.b
  len := fun h => h.1
  below := fun ⟨e, h0, h1, h2, h3⟩ b => ⟨e, Rdb.below h0 b, Rdb.below h1 b, Rdb.below h2 b, Rdb.below h3 b⟩
  far := fun ⟨e, h0, h1, h2, h3⟩ b => ⟨e, Rdb.far h0 b, Rdb.far h1 b, Rdb.far h2 b, Rdb.far h3 b⟩
  weak := fun ⟨e, h0, h1, h2, h3⟩ b c => ⟨e, Rdb.weak h0 b c, Rdb.weak h1 b c, Rdb.weak h2 b c, Rdb.weak h3 b c⟩
theorem shape_Inc {fr : Bool} {lo : Nat} {w : World} {cs : List Value} {d : DInc} (h : Rdb.rd fr lo w cs d) : cs = [.int .i64 d.epoch, .int .i64 d.kind, .int .i64 d.a, .int .i64 d.b] ∧ (Lit.int .i64 d.epoch).wf = true ∧ (Lit.int .i64 d.kind).wf = true ∧ (Lit.int .i64 d.a).wf = true ∧ (Lit.int .i64 d.b).wf = true := by
  obtain ⟨e, h0, h1, h2, h3⟩ := h
  match cs, e with
  | [x0, x1, x2, x3], _ =>
    replace h0 : Rdb.rd fr lo w [x0] d.epoch := h0
    obtain ⟨e0, f0⟩ := h0
    obtain rfl : x0 = .int .i64 d.epoch := by simpa using e0
    replace h1 : Rdb.rd fr lo w [x1] d.kind := h1
    obtain ⟨e1, f1⟩ := h1
    obtain rfl : x1 = .int .i64 d.kind := by simpa using e1
    replace h2 : Rdb.rd fr lo w [x2] d.a := h2
    obtain ⟨e2, f2⟩ := h2
    obtain rfl : x2 = .int .i64 d.a := by simpa using e2
    replace h3 : Rdb.rd fr lo w [x3] d.b := h3
    obtain ⟨e3, f3⟩ := h3
    obtain rfl : x3 = .int .i64 d.b := by simpa using e3
    exact ⟨rfl, f0, f1, f2, f3⟩
theorem mk_Inc {fr : Bool} {lo : Nat} {w : World} {d : DInc}  (f0 : (Lit.int .i64 d.epoch).wf = true) (f1 : (Lit.int .i64 d.kind).wf = true) (f2 : (Lit.int .i64 d.a).wf = true) (f3 : (Lit.int .i64 d.b).wf = true) : Rdb.rd fr lo w [.int .i64 d.epoch, .int .i64 d.kind, .int .i64 d.a, .int .i64 d.b] d :=
  ⟨rfl, ⟨rfl, f0⟩, ⟨rfl, f1⟩, ⟨rfl, f2⟩, ⟨rfl, f3⟩⟩
theorem opens_Inc {P : Program} {t : TypeId} {f0 f1 f2 f3 : Field} (hu : P.underlying t = some (.struct #[f0, f1, f2, f3])) (hC : P.cellsOf t = 4) (off : f0.offset = 0 ∧ f1.offset = 1 ∧ f2.offset = 2 ∧ f3.offset = 3) (h0 : Opens P f0.type Int) (h1 : Opens P f1.type Int) (h2 : Opens P f2.type Int) (h3 : Opens P f3.type Int) : Opens P t DInc := by
  obtain ⟨o0, o1, o2, o3⟩ := off
  refine ⟨hC, fun enc w base spare held fuel cs x h => ?_⟩
  obtain ⟨xs, n, _, _, hl, hlen, hg⟩ := DataW.trod_struct hu h
  match xs, hlen with
  | [y0, y1, y2, y3], _ =>
    have t0 := hg 0 f0 rfl
    rw [o0, h0.1] at t0
    obtain ⟨d0, r0⟩ := h0.2 _ _ _ _ _ _ _ y0 t0
    have t1 := hg 1 f1 rfl
    rw [o1, h1.1] at t1
    obtain ⟨d1, r1⟩ := h1.2 _ _ _ _ _ _ _ y1 t1
    have t2 := hg 2 f2 rfl
    rw [o2, h2.1] at t2
    obtain ⟨d2, r2⟩ := h2.2 _ _ _ _ _ _ _ y2 t2
    have t3 := hg 3 f3 rfl
    rw [o3, h3.1] at t3
    obtain ⟨d3, r3⟩ := h3.2 _ _ _ _ _ _ _ y3 t3
    exact ⟨⟨d0, d1, d2, d3⟩, hl.trans hC, r0, r1, r2, r3⟩

set_option maxRecDepth 100000 in
set_option maxHeartbeats 1000000 in
theorem toInc {cs : List Value} {fr : Bool} {lo : Nat} (d : DInc) (w : World) (hs : Rdb.sz d ≤ 2097152) (h : Rdb.rd fr lo w cs d) : Calls Try.prog 12 #[.agg cs.toArray] w (StC d w) := by
  obtain ⟨rfl, f0_0, f0_1, f0_2, f0_3⟩ := shape_Inc h
  go_enter Try.func12, Try.ntmps12
  go_wp2
  refine bodyPost_ret (v := .agg #[.int .i64 d.epoch, .int .i64 d.kind, .int .i64 d.a, .int .i64 d.b]) (by simp [results, Try.results12, go_sem]) rfl ⟨_, rfl, mk_Inc f0_0 f0_1 f0_2 f0_3, ?_⟩
  repeat (first | exact Below.refl _ _ | refine Below.alloc ?_ (by simp <;> omega) _)

theorem infoInc : (Try.prog.info? 25).map (fun i => (i.zero, i.size, i.bytes)) = some (some (.agg #[.int .i64 0, .int .i64 0, .int .i64 0, .int .i64 0]), 4, 32) := by kernel_rfl

end Go.Proofs.Yteogbfmghbaelaa.Rd
