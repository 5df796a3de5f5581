/-
  Data of the type Chunk: its reading, and the laws' helpers on it (written by tools/gen/data.py).
-/
import Derived.Test.YtbckdfoapmjilaaDoorDVer
namespace Go.Proofs.YtbckdfoapmjilaaDoor.Rd
open Go.RowKit Go.ChangeShapes Go.WideShapes
open Go.Proofs.YtbckdfoapmjilaaDoor.Sg (BxN)
set_option linter.unusedVariables false
set_option linter.unusedSimpArgs false

/-- Chunk. -/
structure DChunk where
  name : ByteArray
  ver : DVer
  pos : Int
  sum : Int
  bytes : ByteArray
instance : Inhabited DChunk := ⟨⟨ByteArray.empty, default, 0, 0, ByteArray.empty⟩⟩
instance : Rdb DChunk where
  size := 6
  sz := fun d => Rdb.sz d.name + Rdb.sz d.bytes
  rd := fun fr lo w cs d => cs.length = 6 ∧ Rdb.rd fr lo w ((cs.drop 0).take 1) d.name ∧ Rdb.rd fr lo w ((cs.drop 1).take 2) d.ver ∧ Rdb.rd fr lo w ((cs.drop 3).take 1) d.pos ∧ Rdb.rd fr lo w ((cs.drop 4).take 1) d.sum ∧ Rdb.rd fr lo w ((cs.drop 5).take 1) d.bytes
  len := fun h => h.1
  below := fun ⟨e, h0, h1, h2, h3, h4⟩ b => ⟨e, Rdb.below h0 b, Rdb.below h1 b, Rdb.below h2 b, Rdb.below h3 b, Rdb.below h4 b⟩
  far := fun ⟨e, h0, h1, h2, h3, h4⟩ b => ⟨e, Rdb.far h0 b, Rdb.far h1 b, Rdb.far h2 b, Rdb.far h3 b, Rdb.far h4 b⟩
  weak := fun ⟨e, h0, h1, h2, h3, h4⟩ b c => ⟨e, Rdb.weak h0 b c, Rdb.weak h1 b c, Rdb.weak h2 b c, Rdb.weak h3 b c, Rdb.weak h4 b c⟩
instance : Mkb DChunk where
  swap := by
    rintro fr lo w cs d c v v' ⟨e, h0, h1, h2, h3, h4⟩ hv s
    obtain ⟨d0, z0, r0⟩ := Mkb.field h0 hv s
    obtain ⟨d1, z1, r1⟩ := Mkb.field h1 hv s
    obtain ⟨d2, z2, r2⟩ := Mkb.field h2 hv s
    obtain ⟨d3, z3, r3⟩ := Mkb.field h3 hv s
    obtain ⟨d4, z4, r4⟩ := Mkb.field h4 hv s
    exact ⟨⟨d0, d1, d2, d3, d4⟩, (by show Rdb.sz d0 + Rdb.sz d4 = Rdb.sz d.name + Rdb.sz d.bytes; omega), by rw [List.length_set]; exact e, r0, r1, r2, r3, r4⟩
  stir := by
    rintro fr lo w cs d p v v' ⟨e, h0, h1, h2, h3, h4⟩ hp s
    obtain ⟨d0, z0, r0⟩ := Mkb.stir h0 hp s
    obtain ⟨d1, z1, r1⟩ := Mkb.stir h1 hp s
    obtain ⟨d2, z2, r2⟩ := Mkb.stir h2 hp s
    obtain ⟨d3, z3, r3⟩ := Mkb.stir h3 hp s
    obtain ⟨d4, z4, r4⟩ := Mkb.stir h4 hp s
    exact ⟨⟨d0, d1, d2, d3, d4⟩, (by show Rdb.sz d0 + Rdb.sz d4 = Rdb.sz d.name + Rdb.sz d.bytes; omega), e, r0, r1, r2, r3, r4⟩
  move := fun ⟨e, h0, h1, h2, h3, h4⟩ sz hm => ⟨e, Mkb.move h0 sz hm, Mkb.move h1 sz hm, Mkb.move h2 sz hm, Mkb.move h3 sz hm, Mkb.move h4 sz hm⟩
theorem shape_Chunk {fr : Bool} {lo : Nat} {w : World} {cs : List Value} {d : DChunk} (h : Rdb.rd fr lo w cs d) : cs = [.string d.name, .int .i64 d.ver.epoch, .int .i64 d.ver.seq, .int .i64 d.pos, .int .i64 d.sum, .string d.bytes] ∧ d.name.size ≤ 9223372036854775807 ∧ (Lit.int .i64 d.ver.epoch).wf = true ∧ (Lit.int .i64 d.ver.seq).wf = true ∧ (Lit.int .i64 d.pos).wf = true ∧ (Lit.int .i64 d.sum).wf = true ∧ d.bytes.size ≤ 9223372036854775807 := by
  obtain ⟨e, h0, h1, h2, h3, h4⟩ := h
  match cs, e with
  | [x0, x1, x2, x3, x4, x5], _ =>
    replace h0 : Rdb.rd fr lo w [x0] d.name := h0
    obtain ⟨e0, f0⟩ := h0
    obtain rfl : x0 = .string d.name := by simpa using e0
    replace h1 : Rdb.rd fr lo w [x1, x2] d.ver := h1
    obtain ⟨q1, f1, f2⟩ := shape_Ver h1
    simp only [List.cons.injEq, and_true] at q1
    obtain ⟨rfl, rfl⟩ := q1
    replace h2 : Rdb.rd fr lo w [x3] d.pos := h2
    obtain ⟨e3, f3⟩ := h2
    obtain rfl : x3 = .int .i64 d.pos := by simpa using e3
    replace h3 : Rdb.rd fr lo w [x4] d.sum := h3
    obtain ⟨e4, f4⟩ := h3
    obtain rfl : x4 = .int .i64 d.sum := by simpa using e4
    replace h4 : Rdb.rd fr lo w [x5] d.bytes := h4
    obtain ⟨e5, f5⟩ := h4
    obtain rfl : x5 = .string d.bytes := by simpa using e5
    exact ⟨rfl, f0, f1, f2, f3, f4, f5⟩
theorem mk_Chunk {fr : Bool} {lo : Nat} {w : World} {d : DChunk}  (f0 : d.name.size ≤ 9223372036854775807) (f1 : (Lit.int .i64 d.ver.epoch).wf = true) (f2 : (Lit.int .i64 d.ver.seq).wf = true) (f3 : (Lit.int .i64 d.pos).wf = true) (f4 : (Lit.int .i64 d.sum).wf = true) (f5 : d.bytes.size ≤ 9223372036854775807) : Rdb.rd fr lo w [.string d.name, .int .i64 d.ver.epoch, .int .i64 d.ver.seq, .int .i64 d.pos, .int .i64 d.sum, .string d.bytes] d :=
  ⟨rfl, ⟨rfl, f0⟩, ⟨rfl, ⟨rfl, f1⟩, ⟨rfl, f2⟩⟩, ⟨rfl, f3⟩, ⟨rfl, f4⟩, ⟨rfl, f5⟩⟩
theorem opens_Chunk {P : Program} {t : TypeId} {f0 f1 f2 f3 f4 : Field} (hu : P.underlying t = some (.struct #[f0, f1, f2, f3, f4])) (hC : P.cellsOf t = 6) (off : f0.offset = 0 ∧ f1.offset = 1 ∧ f2.offset = 3 ∧ f3.offset = 4 ∧ f4.offset = 5) (h0 : Opens P f0.type ByteArray) (h1 : Opens P f1.type DVer) (h2 : Opens P f2.type Int) (h3 : Opens P f3.type Int) (h4 : Opens P f4.type ByteArray) : Opens P t DChunk := by
  obtain ⟨o0, o1, o2, o3, o4⟩ := off
  refine ⟨hC, fun enc w base spare held fuel cs x h => ?_⟩
  obtain ⟨xs, n, _, _, hl, hlen, hg⟩ := DataW.trod_struct hu h
  match xs, hlen with
  | [y0, y1, y2, y3, y4], _ =>
    have t0 := hg 0 f0 rfl
    rw [o0, h0.1] at t0
    obtain ⟨d0, r0⟩ := h0.2 _ _ _ _ _ _ _ y0 t0
    have t1 := hg 1 f1 rfl
    rw [o1, h1.1] at t1
    obtain ⟨d1, r1⟩ := h1.2 _ _ _ _ _ _ _ y1 t1
    have t2 := hg 2 f2 rfl
    rw [o2, h2.1] at t2
    obtain ⟨d2, r2⟩ := h2.2 _ _ _ _ _ _ _ y2 t2
    have t3 := hg 3 f3 rfl
    rw [o3, h3.1] at t3
    obtain ⟨d3, r3⟩ := h3.2 _ _ _ _ _ _ _ y3 t3
    have t4 := hg 4 f4 rfl
    rw [o4, h4.1] at t4
    obtain ⟨d4, r4⟩ := h4.2 _ _ _ _ _ _ _ y4 t4
    exact ⟨⟨d0, d1, d2, d3, d4⟩, hl.trans hC, r0, r1, r2, r3, r4⟩

set_option maxRecDepth 100000 in
set_option maxHeartbeats 1000000 in
theorem szChunk {cs : List Value} {fr : Bool} {lo : Nat} (d : DChunk) (left : Int) (l0 : 0 ≤ left) (l1 : left ≤ 2097152) (w : World) (h : Rdb.rd fr lo w cs d) : Calls Tryd.prog 9 #[.agg cs.toArray, .int .i64 left] w (SzB left (Rdb.sz d) w) := by
  obtain ⟨rfl, f0_0, f0_1, f0_2, f0_3, f0_4, f0_5⟩ := shape_Chunk h
  have E : Rdb.sz d = d.name.size + d.bytes.size := rfl
  rw [E]
  clear E
  unfold SzB
  generalize d.name = z0 at *
  generalize d.bytes = z1 at *
  by_cases q0 : (z0.size : Int) ≤ left
  · skip
    by_cases q1 : (z0.size : Int) + (z1.size : Int) ≤ left
    · rw [szI_yes (by omega), show left - ((z0.size + z1.size : Nat) : Int) = left - (z0.size : Int) - (z1.size : Int) by omega]
      go_enter Tryd.func9, Tryd.ntmps9
      go_wp2
      go_ret
      refine ⟨rfl, ?_⟩
      repeat (first | exact Below.refl _ _ | refine Below.alloc ?_ (by simp <;> omega) _)
    · rw [szI_no (by omega)]
      go_enter Tryd.func9, Tryd.ntmps9
      go_wp2
      go_ret
      refine ⟨rfl, ?_⟩
      repeat (first | exact Below.refl _ _ | refine Below.alloc ?_ (by simp <;> omega) _)
  · rw [szI_no (by omega)]
    go_enter Tryd.func9, Tryd.ntmps9
    go_wp2
    go_ret
    refine ⟨rfl, ?_⟩
    repeat (first | exact Below.refl _ _ | refine Below.alloc ?_ (by simp <;> omega) _)

set_option maxRecDepth 100000 in
set_option maxHeartbeats 1000000 in
theorem toChunk {cs : List Value} {fr : Bool} {lo : Nat} (d : DChunk) (w : World) (hs : Rdb.sz d ≤ 2097152) (h : Rdb.rd fr lo w cs d) : Calls Tryd.prog 11 #[.agg cs.toArray] w (StC d w) := by
  obtain ⟨rfl, f0_0, f0_1, f0_2, f0_3, f0_4, f0_5⟩ := shape_Chunk h
  go_enter Tryd.func11, Tryd.ntmps11
  go_wp2
  refine bodyPost_ret (v := .agg #[.string d.name, .int .i64 d.ver.epoch, .int .i64 d.ver.seq, .int .i64 d.pos, .int .i64 d.sum, .string d.bytes]) (by simp [results, Tryd.results11, go_sem]) rfl ⟨_, rfl, mk_Chunk f0_0 f0_1 f0_2 f0_3 f0_4 f0_5, ?_⟩
  repeat (first | exact Below.refl _ _ | refine Below.alloc ?_ (by simp <;> omega) _)

theorem infoChunk : (Tryd.prog.info? 41).map (fun i => (i.zero, i.size, i.bytes)) = some (some (.agg #[.string ByteArray.empty, .int .i64 0, .int .i64 0, .int .i64 0, .int .i64 0, .string ByteArray.empty]), 6, 64) := by kernel_rfl

end Go.Proofs.YtbckdfoapmjilaaDoor.Rd
