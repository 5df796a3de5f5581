/-
  Data of the type Op: its reading, and the laws' helpers on it (written by tools/gen/data.py).
-/
import Derived.Test.YtbnjgehgaellmaaDoorDStr
namespace Go.Proofs.YtbnjgehgaellmaaDoor.Rd
open Go.RowKit Go.ChangeShapes Go.WideShapes
open Go.Proofs.YtbnjgehgaellmaaDoor.Sg (BxN)
set_option linter.unusedVariables false
set_option linter.unusedSimpArgs false

/-- Op. -/
structure DOp where
  kind : Int
  atF : Int
  bytes : ByteArray
instance : Inhabited DOp := ⟨⟨0, 0, ByteArray.empty⟩⟩
instance : Rdb DOp where
  size := 3
  sz := fun d => Rdb.sz d.bytes
  rd := fun fr lo w cs d => cs.length = 3 ∧ Rdb.rd fr lo w ((cs.drop 0).take 1) d.kind ∧ Rdb.rd fr lo w ((cs.drop 1).take 1) d.atF ∧ Rdb.rd fr lo w ((cs.drop 2).take 1) d.bytes
  len := fun h => h.1
  below := fun ⟨e, h0, h1, h2⟩ b => ⟨e, Rdb.below h0 b, Rdb.below h1 b, Rdb.below h2 b⟩
  far := fun ⟨e, h0, h1, h2⟩ b => ⟨e, Rdb.far h0 b, Rdb.far h1 b, Rdb.far h2 b⟩
  weak := fun ⟨e, h0, h1, h2⟩ b c => ⟨e, Rdb.weak h0 b c, Rdb.weak h1 b c, Rdb.weak h2 b c⟩
instance : Mkb DOp where
  swap := by
    rintro fr lo w cs d c v v' ⟨e, h0, h1, h2⟩ hv s
    obtain ⟨d0, z0, r0⟩ := Mkb.field h0 hv s
    obtain ⟨d1, z1, r1⟩ := Mkb.field h1 hv s
    obtain ⟨d2, z2, r2⟩ := Mkb.field h2 hv s
    exact ⟨⟨d0, d1, d2⟩, (by show Rdb.sz d2 = Rdb.sz d.bytes; omega), by rw [List.length_set]; exact e, r0, r1, r2⟩
  stir := by
    rintro fr lo w cs d p v v' ⟨e, h0, h1, h2⟩ hp s
    obtain ⟨d0, z0, r0⟩ := Mkb.stir h0 hp s
    obtain ⟨d1, z1, r1⟩ := Mkb.stir h1 hp s
    obtain ⟨d2, z2, r2⟩ := Mkb.stir h2 hp s
    exact ⟨⟨d0, d1, d2⟩, (by show Rdb.sz d2 = Rdb.sz d.bytes; omega), e, r0, r1, r2⟩
  move := fun ⟨e, h0, h1, h2⟩ sz hm => ⟨e, Mkb.move h0 sz hm, Mkb.move h1 sz hm, Mkb.move h2 sz hm⟩
theorem shape_Op {fr : Bool} {lo : Nat} {w : World} {cs : List Value} {d : DOp} (h : Rdb.rd fr lo w cs d) : cs = [.int .i64 d.kind, .int .i64 d.atF, .string d.bytes] ∧ (Lit.int .i64 d.kind).wf = true ∧ (Lit.int .i64 d.atF).wf = true ∧ d.bytes.size ≤ 9223372036854775807 := by
  obtain ⟨e, h0, h1, h2⟩ := h
  match cs, e with
  | [x0, x1, x2], _ =>
    replace h0 : Rdb.rd fr lo w [x0] d.kind := h0
    obtain ⟨e0, f0⟩ := h0
    obtain rfl : x0 = .int .i64 d.kind := by simpa using e0
    replace h1 : Rdb.rd fr lo w [x1] d.atF := h1
    obtain ⟨e1, f1⟩ := h1
    obtain rfl : x1 = .int .i64 d.atF := by simpa using e1
    replace h2 : Rdb.rd fr lo w [x2] d.bytes := h2
    obtain ⟨e2, f2⟩ := h2
    obtain rfl : x2 = .string d.bytes := by simpa using e2
    exact ⟨rfl, f0, f1, f2⟩
theorem mk_Op {fr : Bool} {lo : Nat} {w : World} {d : DOp}  (f0 : (Lit.int .i64 d.kind).wf = true) (f1 : (Lit.int .i64 d.atF).wf = true) (f2 : d.bytes.size ≤ 9223372036854775807) : Rdb.rd fr lo w [.int .i64 d.kind, .int .i64 d.atF, .string d.bytes] d :=
  ⟨rfl, ⟨rfl, f0⟩, ⟨rfl, f1⟩, ⟨rfl, f2⟩⟩
theorem opens_Op {P : Program} {t : TypeId} {f0 f1 f2 : Field} (hu : P.underlying t = some (.struct #[f0, f1, f2])) (hC : P.cellsOf t = 3) (off : f0.offset = 0 ∧ f1.offset = 1 ∧ f2.offset = 2) (h0 : Opens P f0.type Int) (h1 : Opens P f1.type Int) (h2 : Opens P f2.type ByteArray) : Opens P t DOp := by
  obtain ⟨o0, o1, o2⟩ := off
  refine ⟨hC, fun enc w base spare held fuel cs x h => ?_⟩
  obtain ⟨xs, n, _, _, hl, hlen, hg⟩ := DataW.trod_struct hu h
  match xs, hlen with
  | [y0, y1, y2], _ =>
    have t0 := hg 0 f0 rfl
    rw [o0, h0.1] at t0
    obtain ⟨d0, r0⟩ := h0.2 _ _ _ _ _ _ _ y0 t0
    have t1 := hg 1 f1 rfl
    rw [o1, h1.1] at t1
    obtain ⟨d1, r1⟩ := h1.2 _ _ _ _ _ _ _ y1 t1
    have t2 := hg 2 f2 rfl
    rw [o2, h2.1] at t2
    obtain ⟨d2, r2⟩ := h2.2 _ _ _ _ _ _ _ y2 t2
    exact ⟨⟨d0, d1, d2⟩, hl.trans hC, r0, r1, r2⟩

set_option maxRecDepth 100000 in
set_option maxHeartbeats 1000000 in
theorem eqOp {cs ds : List Value} {fr fr2 : Bool} {lo lo2 : Nat} (d : DOp) (w : World) (hs : Rdb.sz d ≤ 2097152) (h : Rdb.rd fr lo w cs d) (k : Rdb.rd fr2 lo2 w ds d) : Calls Tryd.prog 6 #[.agg cs.toArray, .agg ds.toArray] w (TrueW w) := by
  obtain ⟨rfl, f0_0, f0_1, f0_2⟩ := shape_Op h
  obtain ⟨rfl, f1_0, f1_1, f1_2⟩ := shape_Op k
  go_enter Tryd.func6, Tryd.ntmps6
  go_wp2
  go_ret
  refine ⟨rfl, ?_⟩
  repeat (first | exact Below.refl _ _ | refine Below.alloc ?_ (by simp <;> omega) _)


theorem infoOp : (Tryd.prog.info? 23).map (fun i => (i.zero, i.size, i.bytes)) = some (some (.agg #[.int .i64 0, .int .i64 0, .string ByteArray.empty]), 3, 32) := by kernel_rfl

end Go.Proofs.YtbnjgehgaellmaaDoor.Rd
