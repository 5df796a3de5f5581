/-
  Data of the type Req: its reading, and the laws' helpers on it (written by tools/gen/data.py).
-/
import Derived.Test.YtbckdfoapmjilaaGreatDoorRdI
namespace Go.Proofs.YtbckdfoapmjilaaGreatDoor.Rd
open Go.RowKit Go.ChangeShapes Go.WideShapes
open Go.Proofs.YtbckdfoapmjilaaGreatDoor.Sg (BxN)
set_option linter.unusedVariables false
set_option linter.unusedSimpArgs false

/-- Req. -/
structure DReq where
  client : Int
  no : Int
instance : Inhabited DReq := ⟨⟨0, 0⟩⟩
instance : Rdb DReq where
  size := 2
  sz := fun d => 0
  rd := fun fr lo w cs d => cs.length = 2 ∧ Rdb.rd fr lo w ((cs.drop 0).take 1) d.client ∧ Rdb.rd fr lo w ((cs.drop 1).take 1) d.no
  len := fun h => h.1
  below := fun ⟨e, h0, h1⟩ b => ⟨e, Rdb.below h0 b, Rdb.below h1 b⟩
  far := fun ⟨e, h0, h1⟩ b => ⟨e, Rdb.far h0 b, Rdb.far h1 b⟩
  weak := fun ⟨e, h0, h1⟩ b c => ⟨e, Rdb.weak h0 b c, Rdb.weak h1 b c⟩
instance : Mkb DReq where
  swap := by
    rintro fr lo w cs d c v v' ⟨e, h0, h1⟩ hv s
    obtain ⟨d0, z0, r0⟩ := Mkb.field h0 hv s
    obtain ⟨d1, z1, r1⟩ := Mkb.field h1 hv s
    exact ⟨⟨d0, d1⟩, rfl, by rw [List.length_set]; exact e, r0, r1⟩
  stir := by
    rintro fr lo w cs d p v v' ⟨e, h0, h1⟩ hp s
    obtain ⟨d0, z0, r0⟩ := Mkb.stir h0 hp s
    obtain ⟨d1, z1, r1⟩ := Mkb.stir h1 hp s
    exact ⟨⟨d0, d1⟩, rfl, e, r0, r1⟩
  move := fun ⟨e, h0, h1⟩ sz hm => ⟨e, Mkb.move h0 sz hm, Mkb.move h1 sz hm⟩
theorem shape_Req {fr : Bool} {lo : Nat} {w : World} {cs : List Value} {d : DReq} (h : Rdb.rd fr lo w cs d) : cs = [.int .i64 d.client, .int .i64 d.no] ∧ (Lit.int .i64 d.client).wf = true ∧ (Lit.int .i64 d.no).wf = true := by
  obtain ⟨e, h0, h1⟩ := h
  match cs, e with
  | [x0, x1], _ =>
    replace h0 : Rdb.rd fr lo w [x0] d.client := h0
    obtain ⟨e0, f0⟩ := h0
    obtain rfl : x0 = .int .i64 d.client := by simpa using e0
    replace h1 : Rdb.rd fr lo w [x1] d.no := h1
    obtain ⟨e1, f1⟩ := h1
    obtain rfl : x1 = .int .i64 d.no := by simpa using e1
    exact ⟨rfl, f0, f1⟩
theorem mk_Req {fr : Bool} {lo : Nat} {w : World} {d : DReq}  (f0 : (Lit.int .i64 d.client).wf = true) (f1 : (Lit.int .i64 d.no).wf = true) : Rdb.rd fr lo w [.int .i64 d.client, .int .i64 d.no] d :=
  ⟨rfl, ⟨rfl, f0⟩, ⟨rfl, f1⟩⟩
theorem opens_Req {P : Program} {t : TypeId} {f0 f1 : Field} (hu : P.underlying t = some (.struct #[f0, f1])) (hC : P.cellsOf t = 2) (off : f0.offset = 0 ∧ f1.offset = 1) (h0 : Opens P f0.type Int) (h1 : Opens P f1.type Int) : Opens P t DReq := by
  obtain ⟨o0, o1⟩ := off
  refine ⟨hC, fun enc w base spare held fuel cs x h => ?_⟩
  obtain ⟨xs, n, _, _, hl, hlen, hg⟩ := DataW.trod_struct hu h
  match xs, hlen with
  | [y0, y1], _ =>
    have t0 := hg 0 f0 rfl
    rw [o0, h0.1] at t0
    obtain ⟨d0, r0⟩ := h0.2 _ _ _ _ _ _ _ y0 t0
    have t1 := hg 1 f1 rfl
    rw [o1, h1.1] at t1
    obtain ⟨d1, r1⟩ := h1.2 _ _ _ _ _ _ _ y1 t1
    exact ⟨⟨d0, d1⟩, hl.trans hC, r0, r1⟩

set_option maxRecDepth 100000 in
set_option maxHeartbeats 1000000 in
theorem toReq {cs : List Value} {fr : Bool} {lo : Nat} (d : DReq) (w : World) (hs : Rdb.sz d ≤ 2097152) (h : Rdb.rd fr lo w cs d) : Calls Tryz.prog 110 #[.agg cs.toArray] w (StC d w) := by
  obtain ⟨rfl, f0_0, f0_1⟩ := shape_Req h
  go_enter Tryz.func110, Tryz.ntmps110
  go_wp2
  refine bodyPost_ret (v := .agg #[.int .i64 d.client, .int .i64 d.no]) (by simp [results, Tryz.results110, go_sem]) rfl ⟨_, rfl, mk_Req f0_0 f0_1, ?_⟩
  repeat (first | exact Below.refl _ _ | refine Below.alloc ?_ (by simp <;> omega) _)

set_option maxRecDepth 100000 in
set_option maxHeartbeats 1000000 in
theorem eqReq {cs ds : List Value} {fr fr2 : Bool} {lo lo2 : Nat} (d : DReq) (w : World) (hs : Rdb.sz d ≤ 2097152) (h : Rdb.rd fr lo w cs d) (k : Rdb.rd fr2 lo2 w ds d) : Calls Tryz.prog 125 #[.agg cs.toArray, .agg ds.toArray] w (TrueW w) := by
  obtain ⟨rfl, f0_0, f0_1⟩ := shape_Req h
  obtain ⟨rfl, f1_0, f1_1⟩ := shape_Req k
  go_enter Tryz.func125, Tryz.ntmps125
  go_wp2
  go_ret
  refine ⟨rfl, ?_⟩
  repeat (first | exact Below.refl _ _ | refine Below.alloc ?_ (by simp <;> omega) _)


theorem infoReq : (Tryz.prog.info? 112).map (fun i => (i.zero, i.size, i.bytes)) = some (some (.agg #[.int .i64 0, .int .i64 0]), 2, 16) := by kernel_rfl

end Go.Proofs.YtbckdfoapmjilaaGreatDoor.Rd
