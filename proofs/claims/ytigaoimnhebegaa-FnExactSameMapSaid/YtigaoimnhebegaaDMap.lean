/-
  Data of the type Map: its reading, and the laws' helpers on it (written by tools/gen/data.py).
-/
import Derived.Test.YtigaoimnhebegaaDTree
import Derived.Test.YtigaoimnhebegaaDRule
import Derived.Test.YtigaoimnhebegaaDPool
namespace Go.Proofs.Ytigaoimnhebegaa.Rd
open Go.RowKit Go.ChangeShapes Go.WideShapes
open Go.Proofs.Ytigaoimnhebegaa.Sg (BxN)
set_option linter.unusedVariables false
set_option linter.unusedSimpArgs false

/-- Map. -/
structure DMap where
  epoch : Int
  term : Int
  tree : DTree
  rules : (List DRule)
  pools : (List DPool)
  up : (List Int)
  out : (List Int)
instance : Inhabited DMap := ⟨⟨0, 0, default, [], [], [], []⟩⟩
instance : Rdb DMap where
  size := 8
  sz := fun d => Rdb.sz d.tree + Rdb.sz d.rules + Rdb.sz d.pools + Rdb.sz d.up + Rdb.sz d.out
  rd := fun fr lo w cs d => cs.length = 8 ∧ Rdb.rd fr lo w ((cs.drop 0).take 1) d.epoch ∧ Rdb.rd fr lo w ((cs.drop 1).take 1) d.term ∧ Rdb.rd fr lo w ((cs.drop 2).take 2) d.tree ∧ Rdb.rd fr lo w ((cs.drop 4).take 1) d.rules ∧ Rdb.rd fr lo w ((cs.drop 5).take 1) d.pools ∧ Rdb.rd fr lo w ((cs.drop 6).take 1) d.up ∧ Rdb.rd fr lo w ((cs.drop 7).take 1) d.out
  len := fun h => h.1
  below := fun ⟨e, h0, h1, h2, h3, h4, h5, h6⟩ b => ⟨e, Rdb.below h0 b, Rdb.below h1 b, Rdb.below h2 b, Rdb.below h3 b, Rdb.below h4 b, Rdb.below h5 b, Rdb.below h6 b⟩
  far := fun ⟨e, h0, h1, h2, h3, h4, h5, h6⟩ b => ⟨e, Rdb.far h0 b, Rdb.far h1 b, Rdb.far h2 b, Rdb.far h3 b, Rdb.far h4 b, Rdb.far h5 b, Rdb.far h6 b⟩
  weak := fun ⟨e, h0, h1, h2, h3, h4, h5, h6⟩ b c => ⟨e, Rdb.weak h0 b c, Rdb.weak h1 b c, Rdb.weak h2 b c, Rdb.weak h3 b c, Rdb.weak h4 b c, Rdb.weak h5 b c, Rdb.weak h6 b c⟩
instance : Mkb DMap where
  swap := by
    rintro fr lo w cs d c v v' ⟨e, h0, h1, h2, h3, h4, h5, h6⟩ hv s
    obtain ⟨d0, z0, r0⟩ := Mkb.field h0 hv s
    obtain ⟨d1, z1, r1⟩ := Mkb.field h1 hv s
    obtain ⟨d2, z2, r2⟩ := Mkb.field h2 hv s
    obtain ⟨d3, z3, r3⟩ := Mkb.field h3 hv s
    obtain ⟨d4, z4, r4⟩ := Mkb.field h4 hv s
    obtain ⟨d5, z5, r5⟩ := Mkb.field h5 hv s
    obtain ⟨d6, z6, r6⟩ := Mkb.field h6 hv s
    exact ⟨⟨d0, d1, d2, d3, d4, d5, d6⟩, (by show Rdb.sz d2 + Rdb.sz d3 + Rdb.sz d4 + Rdb.sz d5 + Rdb.sz d6 = Rdb.sz d.tree + Rdb.sz d.rules + Rdb.sz d.pools + Rdb.sz d.up + Rdb.sz d.out; omega), by rw [List.length_set]; exact e, r0, r1, r2, r3, r4, r5, r6⟩
  stir := by
    rintro fr lo w cs d p v v' ⟨e, h0, h1, h2, h3, h4, h5, h6⟩ hp s
    obtain ⟨d0, z0, r0⟩ := Mkb.stir h0 hp s
    obtain ⟨d1, z1, r1⟩ := Mkb.stir h1 hp s
    obtain ⟨d2, z2, r2⟩ := Mkb.stir h2 hp s
    obtain ⟨d3, z3, r3⟩ := Mkb.stir h3 hp s
    obtain ⟨d4, z4, r4⟩ := Mkb.stir h4 hp s
    obtain ⟨d5, z5, r5⟩ := Mkb.stir h5 hp s
    obtain ⟨d6, z6, r6⟩ := Mkb.stir h6 hp s
    exact ⟨⟨d0, d1, d2, d3, d4, d5, d6⟩, (by show Rdb.sz d2 + Rdb.sz d3 + Rdb.sz d4 + Rdb.sz d5 + Rdb.sz d6 = Rdb.sz d.tree + Rdb.sz d.rules + Rdb.sz d.pools + Rdb.sz d.up + Rdb.sz d.out; omega), e, r0, r1, r2, r3, r4, r5, r6⟩
  move := fun ⟨e, h0, h1, h2, h3, h4, h5, h6⟩ sz hm => ⟨e, Mkb.move h0 sz hm, Mkb.move h1 sz hm, Mkb.move h2 sz hm, Mkb.move h3 sz hm, Mkb.move h4 sz hm, Mkb.move h5 sz hm, Mkb.move h6 sz hm⟩
theorem shape_Map {fr : Bool} {lo : Nat} {w : World} {cs : List Value} {d : DMap} (h : Rdb.rd fr lo w cs d) : ∃ (a2 : Option Addr) (c2 : Nat) (a3 : Option Addr) (c3 : Nat) (a4 : Option Addr) (c4 : Nat) (a5 : Option Addr) (c5 : Nat) (a6 : Option Addr) (c6 : Nat) (a7 : Option Addr) (c7 : Nat), cs = [.int .i64 d.epoch, .int .i64 d.term, .slice a2 d.tree.devices.length c2, .slice a3 d.tree.buckets.length c3, .slice a4 d.rules.length c4, .slice a5 d.pools.length c5, .slice a6 d.up.length c6, .slice a7 d.out.length c7] ∧ (Lit.int .i64 d.epoch).wf = true ∧ (Lit.int .i64 d.term).wf = true ∧ Rows fr lo w a2 d.tree.devices ∧ (d.tree.devices.length ≤ 9223372036854775807 ∧ d.tree.devices.length ≤ c2) ∧ Rows fr lo w a3 d.tree.buckets ∧ (d.tree.buckets.length ≤ 9223372036854775807 ∧ d.tree.buckets.length ≤ c3) ∧ Rows fr lo w a4 d.rules ∧ (d.rules.length ≤ 9223372036854775807 ∧ d.rules.length ≤ c4) ∧ Rows fr lo w a5 d.pools ∧ (d.pools.length ≤ 9223372036854775807 ∧ d.pools.length ≤ c5) ∧ Rows fr lo w a6 d.up ∧ (d.up.length ≤ 9223372036854775807 ∧ d.up.length ≤ c6) ∧ Rows fr lo w a7 d.out ∧ (d.out.length ≤ 9223372036854775807 ∧ d.out.length ≤ c7) := by
  obtain ⟨e, h0, h1, h2, h3, h4, h5, h6⟩ := h
  match cs, e with
  | [x0, x1, x2, x3, x4, x5, x6, x7], _ =>
    replace h0 : Rdb.rd fr lo w [x0] d.epoch := h0
    obtain ⟨e0, f0⟩ := h0
    obtain rfl : x0 = .int .i64 d.epoch := by simpa using e0
    replace h1 : Rdb.rd fr lo w [x1] d.term := h1
    obtain ⟨e1, f1⟩ := h1
    obtain rfl : x1 = .int .i64 d.term := by simpa using e1
    replace h2 : Rdb.rd fr lo w [x2, x3] d.tree := h2
    obtain ⟨a2, c2, a3, c3, q2, f2, g2, f3, g3⟩ := shape_Tree h2
    simp only [List.cons.injEq, and_true] at q2
    obtain ⟨rfl, rfl⟩ := q2
    replace h3 : Rdb.rd fr lo w [x4] d.rules := h3
    obtain ⟨g4, a4, c4, ⟨e4, z4⟩, f4⟩ := h3
    obtain rfl : x4 = .slice a4 d.rules.length c4 := by simpa using e4
    replace h4 : Rdb.rd fr lo w [x5] d.pools := h4
    obtain ⟨g5, a5, c5, ⟨e5, z5⟩, f5⟩ := h4
    obtain rfl : x5 = .slice a5 d.pools.length c5 := by simpa using e5
    replace h5 : Rdb.rd fr lo w [x6] d.up := h5
    obtain ⟨g6, a6, c6, ⟨e6, z6⟩, f6⟩ := h5
    obtain rfl : x6 = .slice a6 d.up.length c6 := by simpa using e6
    replace h6 : Rdb.rd fr lo w [x7] d.out := h6
    obtain ⟨g7, a7, c7, ⟨e7, z7⟩, f7⟩ := h6
    obtain rfl : x7 = .slice a7 d.out.length c7 := by simpa using e7
    exact ⟨a2, c2, a3, c3, a4, c4, a5, c5, a6, c6, a7, c7, rfl, f0, f1, f2, g2, f3, g3, f4, ⟨g4, z4⟩, f5, ⟨g5, z5⟩, f6, ⟨g6, z6⟩, f7, ⟨g7, z7⟩⟩
theorem mk_Map {fr : Bool} {lo : Nat} {w : World} {d : DMap} {a2 : Option Addr} {c2 : Nat} {a3 : Option Addr} {c3 : Nat} {a4 : Option Addr} {c4 : Nat} {a5 : Option Addr} {c5 : Nat} {a6 : Option Addr} {c6 : Nat} {a7 : Option Addr} {c7 : Nat} (f0 : (Lit.int .i64 d.epoch).wf = true) (f1 : (Lit.int .i64 d.term).wf = true) (f2 : Rows fr lo w a2 d.tree.devices) (f3 : (d.tree.devices.length ≤ 9223372036854775807 ∧ d.tree.devices.length ≤ c2)) (f4 : Rows fr lo w a3 d.tree.buckets) (f5 : (d.tree.buckets.length ≤ 9223372036854775807 ∧ d.tree.buckets.length ≤ c3)) (f6 : Rows fr lo w a4 d.rules) (f7 : (d.rules.length ≤ 9223372036854775807 ∧ d.rules.length ≤ c4)) (f8 : Rows fr lo w a5 d.pools) (f9 : (d.pools.length ≤ 9223372036854775807 ∧ d.pools.length ≤ c5)) (f10 : Rows fr lo w a6 d.up) (f11 : (d.up.length ≤ 9223372036854775807 ∧ d.up.length ≤ c6)) (f12 : Rows fr lo w a7 d.out) (f13 : (d.out.length ≤ 9223372036854775807 ∧ d.out.length ≤ c7)) : Rdb.rd fr lo w [.int .i64 d.epoch, .int .i64 d.term, .slice a2 d.tree.devices.length c2, .slice a3 d.tree.buckets.length c3, .slice a4 d.rules.length c4, .slice a5 d.pools.length c5, .slice a6 d.up.length c6, .slice a7 d.out.length c7] d :=
  ⟨rfl, ⟨rfl, f0⟩, ⟨rfl, f1⟩, ⟨rfl, ⟨f3.1, _, _, ⟨rfl, f3.2⟩, f2⟩, ⟨f5.1, _, _, ⟨rfl, f5.2⟩, f4⟩⟩, ⟨f7.1, _, _, ⟨rfl, f7.2⟩, f6⟩, ⟨f9.1, _, _, ⟨rfl, f9.2⟩, f8⟩, ⟨f11.1, _, _, ⟨rfl, f11.2⟩, f10⟩, ⟨f13.1, _, _, ⟨rfl, f13.2⟩, f12⟩⟩
theorem opens_Map {P : Program} {t : TypeId} {f0 f1 f2 f3 f4 f5 f6 : Field} (hu : P.underlying t = some (.struct #[f0, f1, f2, f3, f4, f5, f6])) (hC : P.cellsOf t = 8) (off : f0.offset = 0 ∧ f1.offset = 1 ∧ f2.offset = 2 ∧ f3.offset = 4 ∧ f4.offset = 5 ∧ f5.offset = 6 ∧ f6.offset = 7) (h0 : Opens P f0.type Int) (h1 : Opens P f1.type Int) (h2 : Opens P f2.type DTree) (h3 : Opens P f3.type (List DRule)) (h4 : Opens P f4.type (List DPool)) (h5 : Opens P f5.type (List Int)) (h6 : Opens P f6.type (List Int)) : Opens P t DMap := by
  obtain ⟨o0, o1, o2, o3, o4, o5, o6⟩ := off
  refine ⟨hC, fun enc w base spare held fuel cs x h => ?_⟩
  obtain ⟨xs, n, _, _, hl, hlen, hg⟩ := DataW.trod_struct hu h
  match xs, hlen with
  | [y0, y1, y2, y3, y4, y5, y6], _ =>
    have t0 := hg 0 f0 rfl
    rw [o0, h0.1] at t0
    obtain ⟨d0, r0⟩ := h0.2 _ _ _ _ _ _ _ y0 t0
    have t1 := hg 1 f1 rfl
    rw [o1, h1.1] at t1
    obtain ⟨d1, r1⟩ := h1.2 _ _ _ _ _ _ _ y1 t1
    have t2 := hg 2 f2 rfl
    rw [o2, h2.1] at t2
    obtain ⟨d2, r2⟩ := h2.2 _ _ _ _ _ _ _ y2 t2
    have t3 := hg 3 f3 rfl
    rw [o3, h3.1] at t3
    obtain ⟨d3, r3⟩ := h3.2 _ _ _ _ _ _ _ y3 t3
    have t4 := hg 4 f4 rfl
    rw [o4, h4.1] at t4
    obtain ⟨d4, r4⟩ := h4.2 _ _ _ _ _ _ _ y4 t4
    have t5 := hg 5 f5 rfl
    rw [o5, h5.1] at t5
    obtain ⟨d5, r5⟩ := h5.2 _ _ _ _ _ _ _ y5 t5
    have t6 := hg 6 f6 rfl
    rw [o6, h6.1] at t6
    obtain ⟨d6, r6⟩ := h6.2 _ _ _ _ _ _ _ y6 t6
    exact ⟨⟨d0, d1, d2, d3, d4, d5, d6⟩, hl.trans hC, r0, r1, r2, r3, r4, r5, r6⟩

set_option maxRecDepth 100000 in
set_option maxHeartbeats 1000000 in
theorem szMap {cs : List Value} {fr : Bool} {lo : Nat} (d : DMap) (left : Int) (l0 : 0 ≤ left) (l1 : left ≤ 2097152) (w : World) (h : Rdb.rd fr lo w cs d) : Calls Try.prog 24 #[.agg cs.toArray, .int .i64 left] w (SzB left (Rdb.sz d) w) := by
  obtain ⟨a0_2, c0_2, a0_3, c0_3, a0_4, c0_4, a0_5, c0_5, a0_6, c0_6, a0_7, c0_7, rfl, f0_0, f0_1, f0_2, g0_2, f0_3, g0_3, f0_4, g0_4, f0_5, g0_5, f0_6, g0_6, f0_7, g0_7⟩ := shape_Map h
  have LH := Lib.hid (lay w (.cells #[.int .i64 d.epoch, .int .i64 d.term, .slice a0_2 d.tree.devices.length c0_2, .slice a0_3 d.tree.buckets.length c0_3, .slice a0_4 d.rules.length c0_4, .slice a0_5 d.pools.length c0_5, .slice a0_6 d.up.length c0_6, .slice a0_7 d.out.length c0_7] 49))
  have X := Lib.hid (BxN.new w #[.int .i64 d.epoch, .int .i64 d.term, .slice a0_2 d.tree.devices.length c0_2, .slice a0_3 d.tree.buckets.length c0_3, .slice a0_4 d.rules.length c0_4, .slice a0_5 d.pools.length c0_5, .slice a0_6 d.up.length c0_6, .slice a0_7 d.out.length c0_7] 49)
  have Z0 := Lib.hid (fun (lf : Int) (p0 : 0 ≤ lf) (p1 : lf ≤ 2097152) w' (b : Below w.heap.size w w') => szTree d.tree lf p0 p1 w' (mk_Tree (d := d.tree) (a0 := a0_2) (c0 := c0_2) (a1 := a0_3) (c1 := c0_3) (f0_2.below b) g0_2 (f0_3.below b) g0_3))
  have Z1 := Lib.hid (fun (lf : Int) (p0 : 0 ≤ lf) (p1 : lf ≤ 2097152) w' (b : Below w.heap.size w w') => szRuleS a0_4 c0_4 d.rules lf p0 p1 w' g0_4.1 (f0_4.below b))
  have Z2 := Lib.hid (fun (lf : Int) (p0 : 0 ≤ lf) (p1 : lf ≤ 2097152) w' (b : Below w.heap.size w w') => szPoolS a0_5 c0_5 d.pools lf p0 p1 w' g0_5.1 (f0_5.below b))
  have Z3 := Lib.hid (fun (lf : Int) (p0 : 0 ≤ lf) (p1 : lf ≤ 2097152) w' (b : Below w.heap.size w w') => szInt64S a0_6 c0_6 d.up lf p0 p1 w' g0_6.1 (f0_6.below b))
  have Z4 := Lib.hid (fun (lf : Int) (p0 : 0 ≤ lf) (p1 : lf ≤ 2097152) w' (b : Below w.heap.size w w') => szInt64S a0_7 c0_7 d.out lf p0 p1 w' g0_7.1 (f0_7.below b))
  have E : Rdb.sz d = Rdb.sz d.tree + Rdb.sz d.rules + Rdb.sz d.pools + Rdb.sz d.up + Rdb.sz d.out := rfl
  rw [E]
  clear E
  generalize Rdb.sz d.tree = s0 at *
  generalize Rdb.sz d.rules = s1 at *
  generalize Rdb.sz d.pools = s2 at *
  generalize Rdb.sz d.up = s3 at *
  generalize Rdb.sz d.out = s4 at *
  clear f0_2 f0_3 f0_4 f0_5 f0_6 f0_7
  unfold SzB
  by_cases q0 : (s0 : Int) ≤ left
  · skip
    by_cases q1 : (s0 : Int) + (s1 : Int) ≤ left
    · skip
      by_cases q2 : (s0 : Int) + (s1 : Int) + (s2 : Int) ≤ left
      · skip
        by_cases q3 : (s0 : Int) + (s1 : Int) + (s2 : Int) + (s3 : Int) ≤ left
        · skip
          by_cases q4 : (s0 : Int) + (s1 : Int) + (s2 : Int) + (s3 : Int) + (s4 : Int) ≤ left
          · rw [szI_yes (by omega), show left - ((s0 + s1 + s2 + s3 + s4 : Nat) : Int) = left - (s0 : Int) - (s1 : Int) - (s2 : Int) - (s3 : Int) - (s4 : Int) by omega]
            go_enter Try.func24, Try.ntmps24
            have Y0 := Z0.out (left) (by omega) (by omega) _ LH.out
            rw [show (SzB (left) s0) = SzB (left) s0 from rfl] at Y0
            have y0 : szI (left) s0 = left - s0 := szI_yes (by omega)
            unfold SzB at Y0
            rw [y0] at Y0
            have Y0 := Lib.hid Y0
            clear y0
            go_wp2_with fail
            refine Y0.out.mono ?_
            rintro e w1 ⟨rfl, b1⟩
            have B1 := Lib.hid (chainX w (LH.out) b1)
            have XN := X.out.later b1
            have x1_0 := XN.cells 0 _ rfl
            have x1_1 := XN.cells 1 _ rfl
            have x1_2 := XN.cells 2 _ rfl
            have x1_3 := XN.cells 3 _ rfl
            have x1_4 := XN.cells 4 _ rfl
            have x1_5 := XN.cells 5 _ rfl
            have x1_6 := XN.cells 6 _ rfl
            have x1_7 := XN.cells 7 _ rfl
            have X1 := Lib.hid XN
            clear XN
            clear b1 Y0
            have Y1 := Z1.out (left - s0) (by omega) (by omega) _ B1.out
            rw [show (SzB (left - s0) s1) = SzB (left - s0) s1 from rfl] at Y1
            have y1 : szI (left - s0) s1 = left - s0 - s1 := szI_yes (by omega)
            unfold SzB at Y1
            rw [y1] at Y1
            have Y1 := Lib.hid Y1
            clear y1
            go_wp2_with fail
            refine Y1.out.mono ?_
            rintro e w2 ⟨rfl, b2⟩
            have B2 := Lib.hid (chainX w (B1.out) b2)
            have XN := X1.out.later b2
            have x2_0 := XN.cells 0 _ rfl
            have x2_1 := XN.cells 1 _ rfl
            have x2_2 := XN.cells 2 _ rfl
            have x2_3 := XN.cells 3 _ rfl
            have x2_4 := XN.cells 4 _ rfl
            have x2_5 := XN.cells 5 _ rfl
            have x2_6 := XN.cells 6 _ rfl
            have x2_7 := XN.cells 7 _ rfl
            have X2 := Lib.hid XN
            clear XN
            clear x1_0 x1_1 x1_2 x1_3 x1_4 x1_5 x1_6 x1_7
            clear b2 Y1
            have Y2 := Z2.out (left - s0 - s1) (by omega) (by omega) _ B2.out
            rw [show (SzB (left - s0 - s1) s2) = SzB (left - s0 - s1) s2 from rfl] at Y2
            have y2 : szI (left - s0 - s1) s2 = left - s0 - s1 - s2 := szI_yes (by omega)
            unfold SzB at Y2
            rw [y2] at Y2
            have Y2 := Lib.hid Y2
            clear y2
            go_wp2_with fail
            refine Y2.out.mono ?_
            rintro e w3 ⟨rfl, b3⟩
            have B3 := Lib.hid (chainX w (B2.out) b3)
            have XN := X2.out.later b3
            have x3_0 := XN.cells 0 _ rfl
            have x3_1 := XN.cells 1 _ rfl
            have x3_2 := XN.cells 2 _ rfl
            have x3_3 := XN.cells 3 _ rfl
            have x3_4 := XN.cells 4 _ rfl
            have x3_5 := XN.cells 5 _ rfl
            have x3_6 := XN.cells 6 _ rfl
            have x3_7 := XN.cells 7 _ rfl
            have X3 := Lib.hid XN
            clear XN
            clear x2_0 x2_1 x2_2 x2_3 x2_4 x2_5 x2_6 x2_7
            clear b3 Y2
            have Y3 := Z3.out (left - s0 - s1 - s2) (by omega) (by omega) _ B3.out
            rw [show (SzB (left - s0 - s1 - s2) s3) = SzB (left - s0 - s1 - s2) s3 from rfl] at Y3
            have y3 : szI (left - s0 - s1 - s2) s3 = left - s0 - s1 - s2 - s3 := szI_yes (by omega)
            unfold SzB at Y3
            rw [y3] at Y3
            have Y3 := Lib.hid Y3
            clear y3
            go_wp2_with fail
            refine Y3.out.mono ?_
            rintro e w4 ⟨rfl, b4⟩
            have B4 := Lib.hid (chainX w (B3.out) b4)
            have XN := X3.out.later b4
            have x4_0 := XN.cells 0 _ rfl
            have x4_1 := XN.cells 1 _ rfl
            have x4_2 := XN.cells 2 _ rfl
            have x4_3 := XN.cells 3 _ rfl
            have x4_4 := XN.cells 4 _ rfl
            have x4_5 := XN.cells 5 _ rfl
            have x4_6 := XN.cells 6 _ rfl
            have x4_7 := XN.cells 7 _ rfl
            have X4 := Lib.hid XN
            clear XN
            clear x3_0 x3_1 x3_2 x3_3 x3_4 x3_5 x3_6 x3_7
            clear b4 Y3
            have Y4 := Z4.out (left - s0 - s1 - s2 - s3) (by omega) (by omega) _ B4.out
            rw [show (SzB (left - s0 - s1 - s2 - s3) s4) = SzB (left - s0 - s1 - s2 - s3) s4 from rfl] at Y4
            have y4 : szI (left - s0 - s1 - s2 - s3) s4 = left - s0 - s1 - s2 - s3 - s4 := szI_yes (by omega)
            unfold SzB at Y4
            rw [y4] at Y4
            have Y4 := Lib.hid Y4
            clear y4
            go_wp2_with fail
            refine Y4.out.mono ?_
            rintro e w5 ⟨rfl, b5⟩
            have B5 := Lib.hid (chainX w (B4.out) b5)
            have XN := X4.out.later b5
            have X5 := Lib.hid XN
            clear XN
            clear x4_0 x4_1 x4_2 x4_3 x4_4 x4_5 x4_6 x4_7
            clear b5 Y4
            go_wp2
            go_ret
            exact ⟨rfl, B5.out⟩
          · rw [szI_no (by omega)]
            go_enter Try.func24, Try.ntmps24
            have Y0 := Z0.out (left) (by omega) (by omega) _ LH.out
            rw [show (SzB (left) s0) = SzB (left) s0 from rfl] at Y0
            have y0 : szI (left) s0 = left - s0 := szI_yes (by omega)
            unfold SzB at Y0
            rw [y0] at Y0
            have Y0 := Lib.hid Y0
            clear y0
            go_wp2_with fail
            refine Y0.out.mono ?_
            rintro e w1 ⟨rfl, b1⟩
            have B1 := Lib.hid (chainX w (LH.out) b1)
            have XN := X.out.later b1
            have x1_0 := XN.cells 0 _ rfl
            have x1_1 := XN.cells 1 _ rfl
            have x1_2 := XN.cells 2 _ rfl
            have x1_3 := XN.cells 3 _ rfl
            have x1_4 := XN.cells 4 _ rfl
            have x1_5 := XN.cells 5 _ rfl
            have x1_6 := XN.cells 6 _ rfl
            have x1_7 := XN.cells 7 _ rfl
            have X1 := Lib.hid XN
            clear XN
            clear b1 Y0
            have Y1 := Z1.out (left - s0) (by omega) (by omega) _ B1.out
            rw [show (SzB (left - s0) s1) = SzB (left - s0) s1 from rfl] at Y1
            have y1 : szI (left - s0) s1 = left - s0 - s1 := szI_yes (by omega)
            unfold SzB at Y1
            rw [y1] at Y1
            have Y1 := Lib.hid Y1
            clear y1
            go_wp2_with fail
            refine Y1.out.mono ?_
            rintro e w2 ⟨rfl, b2⟩
            have B2 := Lib.hid (chainX w (B1.out) b2)
            have XN := X1.out.later b2
            have x2_0 := XN.cells 0 _ rfl
            have x2_1 := XN.cells 1 _ rfl
            have x2_2 := XN.cells 2 _ rfl
            have x2_3 := XN.cells 3 _ rfl
            have x2_4 := XN.cells 4 _ rfl
            have x2_5 := XN.cells 5 _ rfl
            have x2_6 := XN.cells 6 _ rfl
            have x2_7 := XN.cells 7 _ rfl
            have X2 := Lib.hid XN
            clear XN
            clear x1_0 x1_1 x1_2 x1_3 x1_4 x1_5 x1_6 x1_7
            clear b2 Y1
            have Y2 := Z2.out (left - s0 - s1) (by omega) (by omega) _ B2.out
            rw [show (SzB (left - s0 - s1) s2) = SzB (left - s0 - s1) s2 from rfl] at Y2
            have y2 : szI (left - s0 - s1) s2 = left - s0 - s1 - s2 := szI_yes (by omega)
            unfold SzB at Y2
            rw [y2] at Y2
            have Y2 := Lib.hid Y2
            clear y2
            go_wp2_with fail
            refine Y2.out.mono ?_
            rintro e w3 ⟨rfl, b3⟩
            have B3 := Lib.hid (chainX w (B2.out) b3)
            have XN := X2.out.later b3
            have x3_0 := XN.cells 0 _ rfl
            have x3_1 := XN.cells 1 _ rfl
            have x3_2 := XN.cells 2 _ rfl
            have x3_3 := XN.cells 3 _ rfl
            have x3_4 := XN.cells 4 _ rfl
            have x3_5 := XN.cells 5 _ rfl
            have x3_6 := XN.cells 6 _ rfl
            have x3_7 := XN.cells 7 _ rfl
            have X3 := Lib.hid XN
            clear XN
            clear x2_0 x2_1 x2_2 x2_3 x2_4 x2_5 x2_6 x2_7
            clear b3 Y2
            have Y3 := Z3.out (left - s0 - s1 - s2) (by omega) (by omega) _ B3.out
            rw [show (SzB (left - s0 - s1 - s2) s3) = SzB (left - s0 - s1 - s2) s3 from rfl] at Y3
            have y3 : szI (left - s0 - s1 - s2) s3 = left - s0 - s1 - s2 - s3 := szI_yes (by omega)
            unfold SzB at Y3
            rw [y3] at Y3
            have Y3 := Lib.hid Y3
            clear y3
            go_wp2_with fail
            refine Y3.out.mono ?_
            rintro e w4 ⟨rfl, b4⟩
            have B4 := Lib.hid (chainX w (B3.out) b4)
            have XN := X3.out.later b4
            have x4_0 := XN.cells 0 _ rfl
            have x4_1 := XN.cells 1 _ rfl
            have x4_2 := XN.cells 2 _ rfl
            have x4_3 := XN.cells 3 _ rfl
            have x4_4 := XN.cells 4 _ rfl
            have x4_5 := XN.cells 5 _ rfl
            have x4_6 := XN.cells 6 _ rfl
            have x4_7 := XN.cells 7 _ rfl
            have X4 := Lib.hid XN
            clear XN
            clear x3_0 x3_1 x3_2 x3_3 x3_4 x3_5 x3_6 x3_7
            clear b4 Y3
            have Y4 := Z4.out (left - s0 - s1 - s2 - s3) (by omega) (by omega) _ B4.out
            rw [show (SzB (left - s0 - s1 - s2 - s3) s4) = SzB (left - s0 - s1 - s2 - s3) s4 from rfl] at Y4
            have y4 : szI (left - s0 - s1 - s2 - s3) s4 = -1 := szI_no (by omega)
            unfold SzB at Y4
            rw [y4] at Y4
            have Y4 := Lib.hid Y4
            clear y4
            go_wp2_with fail
            refine Y4.out.mono ?_
            rintro e w5 ⟨rfl, b5⟩
            have B5 := Lib.hid (chainX w (B4.out) b5)
            have XN := X4.out.later b5
            have X5 := Lib.hid XN
            clear XN
            clear x4_0 x4_1 x4_2 x4_3 x4_4 x4_5 x4_6 x4_7
            clear b5 Y4
            go_wp2
            go_ret
            exact ⟨rfl, B5.out⟩
        · rw [szI_no (by omega)]
          go_enter Try.func24, Try.ntmps24
          have Y0 := Z0.out (left) (by omega) (by omega) _ LH.out
          rw [show (SzB (left) s0) = SzB (left) s0 from rfl] at Y0
          have y0 : szI (left) s0 = left - s0 := szI_yes (by omega)
          unfold SzB at Y0
          rw [y0] at Y0
          have Y0 := Lib.hid Y0
          clear y0
          go_wp2_with fail
          refine Y0.out.mono ?_
          rintro e w1 ⟨rfl, b1⟩
          have B1 := Lib.hid (chainX w (LH.out) b1)
          have XN := X.out.later b1
          have x1_0 := XN.cells 0 _ rfl
          have x1_1 := XN.cells 1 _ rfl
          have x1_2 := XN.cells 2 _ rfl
          have x1_3 := XN.cells 3 _ rfl
          have x1_4 := XN.cells 4 _ rfl
          have x1_5 := XN.cells 5 _ rfl
          have x1_6 := XN.cells 6 _ rfl
          have x1_7 := XN.cells 7 _ rfl
          have X1 := Lib.hid XN
          clear XN
          clear b1 Y0
          have Y1 := Z1.out (left - s0) (by omega) (by omega) _ B1.out
          rw [show (SzB (left - s0) s1) = SzB (left - s0) s1 from rfl] at Y1
          have y1 : szI (left - s0) s1 = left - s0 - s1 := szI_yes (by omega)
          unfold SzB at Y1
          rw [y1] at Y1
          have Y1 := Lib.hid Y1
          clear y1
          go_wp2_with fail
          refine Y1.out.mono ?_
          rintro e w2 ⟨rfl, b2⟩
          have B2 := Lib.hid (chainX w (B1.out) b2)
          have XN := X1.out.later b2
          have x2_0 := XN.cells 0 _ rfl
          have x2_1 := XN.cells 1 _ rfl
          have x2_2 := XN.cells 2 _ rfl
          have x2_3 := XN.cells 3 _ rfl
          have x2_4 := XN.cells 4 _ rfl
          have x2_5 := XN.cells 5 _ rfl
          have x2_6 := XN.cells 6 _ rfl
          have x2_7 := XN.cells 7 _ rfl
          have X2 := Lib.hid XN
          clear XN
          clear x1_0 x1_1 x1_2 x1_3 x1_4 x1_5 x1_6 x1_7
          clear b2 Y1
          have Y2 := Z2.out (left - s0 - s1) (by omega) (by omega) _ B2.out
          rw [show (SzB (left - s0 - s1) s2) = SzB (left - s0 - s1) s2 from rfl] at Y2
          have y2 : szI (left - s0 - s1) s2 = left - s0 - s1 - s2 := szI_yes (by omega)
          unfold SzB at Y2
          rw [y2] at Y2
          have Y2 := Lib.hid Y2
          clear y2
          go_wp2_with fail
          refine Y2.out.mono ?_
          rintro e w3 ⟨rfl, b3⟩
          have B3 := Lib.hid (chainX w (B2.out) b3)
          have XN := X2.out.later b3
          have x3_0 := XN.cells 0 _ rfl
          have x3_1 := XN.cells 1 _ rfl
          have x3_2 := XN.cells 2 _ rfl
          have x3_3 := XN.cells 3 _ rfl
          have x3_4 := XN.cells 4 _ rfl
          have x3_5 := XN.cells 5 _ rfl
          have x3_6 := XN.cells 6 _ rfl
          have x3_7 := XN.cells 7 _ rfl
          have X3 := Lib.hid XN
          clear XN
          clear x2_0 x2_1 x2_2 x2_3 x2_4 x2_5 x2_6 x2_7
          clear b3 Y2
          have Y3 := Z3.out (left - s0 - s1 - s2) (by omega) (by omega) _ B3.out
          rw [show (SzB (left - s0 - s1 - s2) s3) = SzB (left - s0 - s1 - s2) s3 from rfl] at Y3
          have y3 : szI (left - s0 - s1 - s2) s3 = -1 := szI_no (by omega)
          unfold SzB at Y3
          rw [y3] at Y3
          have Y3 := Lib.hid Y3
          clear y3
          go_wp2_with fail
          refine Y3.out.mono ?_
          rintro e w4 ⟨rfl, b4⟩
          have B4 := Lib.hid (chainX w (B3.out) b4)
          have XN := X3.out.later b4
          have X4 := Lib.hid XN
          clear XN
          clear x3_0 x3_1 x3_2 x3_3 x3_4 x3_5 x3_6 x3_7
          clear b4 Y3
          go_wp2
          go_ret
          exact ⟨rfl, B4.out⟩
      · rw [szI_no (by omega)]
        go_enter Try.func24, Try.ntmps24
        have Y0 := Z0.out (left) (by omega) (by omega) _ LH.out
        rw [show (SzB (left) s0) = SzB (left) s0 from rfl] at Y0
        have y0 : szI (left) s0 = left - s0 := szI_yes (by omega)
        unfold SzB at Y0
        rw [y0] at Y0
        have Y0 := Lib.hid Y0
        clear y0
        go_wp2_with fail
        refine Y0.out.mono ?_
        rintro e w1 ⟨rfl, b1⟩
        have B1 := Lib.hid (chainX w (LH.out) b1)
        have XN := X.out.later b1
        have x1_0 := XN.cells 0 _ rfl
        have x1_1 := XN.cells 1 _ rfl
        have x1_2 := XN.cells 2 _ rfl
        have x1_3 := XN.cells 3 _ rfl
        have x1_4 := XN.cells 4 _ rfl
        have x1_5 := XN.cells 5 _ rfl
        have x1_6 := XN.cells 6 _ rfl
        have x1_7 := XN.cells 7 _ rfl
        have X1 := Lib.hid XN
        clear XN
        clear b1 Y0
        have Y1 := Z1.out (left - s0) (by omega) (by omega) _ B1.out
        rw [show (SzB (left - s0) s1) = SzB (left - s0) s1 from rfl] at Y1
        have y1 : szI (left - s0) s1 = left - s0 - s1 := szI_yes (by omega)
        unfold SzB at Y1
        rw [y1] at Y1
        have Y1 := Lib.hid Y1
        clear y1
        go_wp2_with fail
        refine Y1.out.mono ?_
        rintro e w2 ⟨rfl, b2⟩
        have B2 := Lib.hid (chainX w (B1.out) b2)
        have XN := X1.out.later b2
        have x2_0 := XN.cells 0 _ rfl
        have x2_1 := XN.cells 1 _ rfl
        have x2_2 := XN.cells 2 _ rfl
        have x2_3 := XN.cells 3 _ rfl
        have x2_4 := XN.cells 4 _ rfl
        have x2_5 := XN.cells 5 _ rfl
        have x2_6 := XN.cells 6 _ rfl
        have x2_7 := XN.cells 7 _ rfl
        have X2 := Lib.hid XN
        clear XN
        clear x1_0 x1_1 x1_2 x1_3 x1_4 x1_5 x1_6 x1_7
        clear b2 Y1
        have Y2 := Z2.out (left - s0 - s1) (by omega) (by omega) _ B2.out
        rw [show (SzB (left - s0 - s1) s2) = SzB (left - s0 - s1) s2 from rfl] at Y2
        have y2 : szI (left - s0 - s1) s2 = -1 := szI_no (by omega)
        unfold SzB at Y2
        rw [y2] at Y2
        have Y2 := Lib.hid Y2
        clear y2
        go_wp2_with fail
        refine Y2.out.mono ?_
        rintro e w3 ⟨rfl, b3⟩
        have B3 := Lib.hid (chainX w (B2.out) b3)
        have XN := X2.out.later b3
        have X3 := Lib.hid XN
        clear XN
        clear x2_0 x2_1 x2_2 x2_3 x2_4 x2_5 x2_6 x2_7
        clear b3 Y2
        go_wp2
        go_ret
        exact ⟨rfl, B3.out⟩
    · rw [szI_no (by omega)]
      go_enter Try.func24, Try.ntmps24
      have Y0 := Z0.out (left) (by omega) (by omega) _ LH.out
      rw [show (SzB (left) s0) = SzB (left) s0 from rfl] at Y0
      have y0 : szI (left) s0 = left - s0 := szI_yes (by omega)
      unfold SzB at Y0
      rw [y0] at Y0
      have Y0 := Lib.hid Y0
      clear y0
      go_wp2_with fail
      refine Y0.out.mono ?_
      rintro e w1 ⟨rfl, b1⟩
      have B1 := Lib.hid (chainX w (LH.out) b1)
      have XN := X.out.later b1
      have x1_0 := XN.cells 0 _ rfl
      have x1_1 := XN.cells 1 _ rfl
      have x1_2 := XN.cells 2 _ rfl
      have x1_3 := XN.cells 3 _ rfl
      have x1_4 := XN.cells 4 _ rfl
      have x1_5 := XN.cells 5 _ rfl
      have x1_6 := XN.cells 6 _ rfl
      have x1_7 := XN.cells 7 _ rfl
      have X1 := Lib.hid XN
      clear XN
      clear b1 Y0
      have Y1 := Z1.out (left - s0) (by omega) (by omega) _ B1.out
      rw [show (SzB (left - s0) s1) = SzB (left - s0) s1 from rfl] at Y1
      have y1 : szI (left - s0) s1 = -1 := szI_no (by omega)
      unfold SzB at Y1
      rw [y1] at Y1
      have Y1 := Lib.hid Y1
      clear y1
      go_wp2_with fail
      refine Y1.out.mono ?_
      rintro e w2 ⟨rfl, b2⟩
      have B2 := Lib.hid (chainX w (B1.out) b2)
      have XN := X1.out.later b2
      have X2 := Lib.hid XN
      clear XN
      clear x1_0 x1_1 x1_2 x1_3 x1_4 x1_5 x1_6 x1_7
      clear b2 Y1
      go_wp2
      go_ret
      exact ⟨rfl, B2.out⟩
  · rw [szI_no (by omega)]
    go_enter Try.func24, Try.ntmps24
    have Y0 := Z0.out (left) (by omega) (by omega) _ LH.out
    rw [show (SzB (left) s0) = SzB (left) s0 from rfl] at Y0
    have y0 : szI (left) s0 = -1 := szI_no (by omega)
    unfold SzB at Y0
    rw [y0] at Y0
    have Y0 := Lib.hid Y0
    clear y0
    go_wp2_with fail
    refine Y0.out.mono ?_
    rintro e w1 ⟨rfl, b1⟩
    have B1 := Lib.hid (chainX w (LH.out) b1)
    have XN := X.out.later b1
    have X1 := Lib.hid XN
    clear XN
    clear b1 Y0
    go_wp2
    go_ret
    exact ⟨rfl, B1.out⟩

set_option maxRecDepth 100000 in
set_option maxHeartbeats 1000000 in
theorem toMap {cs : List Value} {fr : Bool} {lo : Nat} (d : DMap) (w : World) (hs : Rdb.sz d ≤ 2097152) (h : Rdb.rd fr lo w cs d) : Calls Try.prog 26 #[.agg cs.toArray] w (StC d w) := by
  obtain ⟨a0_2, c0_2, a0_3, c0_3, a0_4, c0_4, a0_5, c0_5, a0_6, c0_6, a0_7, c0_7, rfl, f0_0, f0_1, f0_2, g0_2, f0_3, g0_3, f0_4, g0_4, f0_5, g0_5, f0_6, g0_6, f0_7, g0_7⟩ := shape_Map h
  have BH := Lib.hid (show Below w.heap.size w (((w.alloc (.cells #[.int .i64 d.epoch, .int .i64 d.term, .slice a0_2 d.tree.devices.length c0_2, .slice a0_3 d.tree.buckets.length c0_3, .slice a0_4 d.rules.length c0_4, .slice a0_5 d.pools.length c0_5, .slice a0_6 d.up.length c0_6, .slice a0_7 d.out.length c0_7] 49)).alloc (.cells #[.int .i64 0, .int .i64 0, .slice none 0 0, .slice none 0 0, .slice none 0 0, .slice none 0 0, .slice none 0 0, .slice none 0 0] 55)).alloc (.cells #[.int .i64 d.epoch, .int .i64 d.term, .slice none 0 0, .slice none 0 0, .slice none 0 0, .slice none 0 0, .slice none 0 0, .slice none 0 0] 55)) from chain (chain (lay w _) (lay _ _)) (lay _ _))
  have XH := Lib.hid (((BxN.new w #[.int .i64 d.epoch, .int .i64 d.term, .slice a0_2 d.tree.devices.length c0_2, .slice a0_3 d.tree.buckets.length c0_3, .slice a0_4 d.rules.length c0_4, .slice a0_5 d.pools.length c0_5, .slice a0_6 d.up.length c0_6, .slice a0_7 d.out.length c0_7] 49).later (lay _ (.cells #[.int .i64 0, .int .i64 0, .slice none 0 0, .slice none 0 0, .slice none 0 0, .slice none 0 0, .slice none 0 0, .slice none 0 0] 55))).later (lay _ (.cells #[.int .i64 d.epoch, .int .i64 d.term, .slice none 0 0, .slice none 0 0, .slice none 0 0, .slice none 0 0, .slice none 0 0, .slice none 0 0] 55)))
  have Y0 := (BxN.new (w.alloc (.cells #[.int .i64 d.epoch, .int .i64 d.term, .slice a0_2 d.tree.devices.length c0_2, .slice a0_3 d.tree.buckets.length c0_3, .slice a0_4 d.rules.length c0_4, .slice a0_5 d.pools.length c0_5, .slice a0_6 d.up.length c0_6, .slice a0_7 d.out.length c0_7] 49)) #[.int .i64 0, .int .i64 0, .slice none 0 0, .slice none 0 0, .slice none 0 0, .slice none 0 0, .slice none 0 0, .slice none 0 0] 55).later (lay _ (.cells #[.int .i64 d.epoch, .int .i64 d.term, .slice none 0 0, .slice none 0 0, .slice none 0 0, .slice none 0 0, .slice none 0 0, .slice none 0 0] 55))
  have Z0 := BxN.new ((w.alloc (.cells #[.int .i64 d.epoch, .int .i64 d.term, .slice a0_2 d.tree.devices.length c0_2, .slice a0_3 d.tree.buckets.length c0_3, .slice a0_4 d.rules.length c0_4, .slice a0_5 d.pools.length c0_5, .slice a0_6 d.up.length c0_6, .slice a0_7 d.out.length c0_7] 49)).alloc (.cells #[.int .i64 0, .int .i64 0, .slice none 0 0, .slice none 0 0, .slice none 0 0, .slice none 0 0, .slice none 0 0, .slice none 0 0] 55)) #[.int .i64 d.epoch, .int .i64 d.term, .slice none 0 0, .slice none 0 0, .slice none 0 0, .slice none 0 0, .slice none 0 0, .slice none 0 0] 55
  simp only [World.size_alloc] at Y0 Z0
  have YH := Lib.hid Y0
  have ZH := Lib.hid Z0
  clear Y0 Z0
  have SH : w.heap.size + 3 ≤ (((w.alloc (.cells #[.int .i64 d.epoch, .int .i64 d.term, .slice a0_2 d.tree.devices.length c0_2, .slice a0_3 d.tree.buckets.length c0_3, .slice a0_4 d.rules.length c0_4, .slice a0_5 d.pools.length c0_5, .slice a0_6 d.up.length c0_6, .slice a0_7 d.out.length c0_7] 49)).alloc (.cells #[.int .i64 0, .int .i64 0, .slice none 0 0, .slice none 0 0, .slice none 0 0, .slice none 0 0, .slice none 0 0, .slice none 0 0] 55)).alloc (.cells #[.int .i64 d.epoch, .int .i64 d.term, .slice none 0 0, .slice none 0 0, .slice none 0 0, .slice none 0 0, .slice none 0 0, .slice none 0 0] 55)).heap.size := by simp only [World.size_alloc]; omega
  have SH := Lib.hid SH
  have E : Rdb.sz d = Rdb.sz d.tree + Rdb.sz d.rules + Rdb.sz d.pools + Rdb.sz d.up + Rdb.sz d.out := rfl
  have C0 := Lib.hid (fun w' (b : Below w.heap.size w w') => toTree d.tree w' (by omega) (mk_Tree (d := d.tree) (a0 := a0_2) (c0 := c0_2) (a1 := a0_3) (c1 := c0_3) (f0_2.below b) g0_2 (f0_3.below b) g0_3))
  have C1 := Lib.hid (fun w' (b : Below w.heap.size w w') => toRuleS a0_4 c0_4 d.rules w' (by omega) (f0_4.below b))
  have C2 := Lib.hid (fun w' (b : Below w.heap.size w w') => toPoolS a0_5 c0_5 d.pools w' (by omega) (f0_5.below b))
  have C3 := Lib.hid (fun w' (b : Below w.heap.size w w') => toInt64S a0_6 c0_6 d.up w' (by omega) (f0_6.below b))
  have C4 := Lib.hid (fun w' (b : Below w.heap.size w w') => toInt64S a0_7 c0_7 d.out w' (by omega) (f0_7.below b))
  clear E f0_2 f0_3 f0_4 f0_5 f0_6 f0_7
  go_enter Try.func26, Try.ntmps26
  go_wp2_with fail
  refine (C0.out _ BH.out).mono ?_
  rintro e w1 ⟨cs1, rfl, r1, b1⟩
  obtain ⟨a1_0, c1_0, a1_1, c1_1, rfl, f1_0, g1_0, f1_1, g1_1⟩ := shape_Tree r1
  have XL := XH.out.later b1
  have ZL := ZH.out.later b1
  have YL := YH.out.later b1
  have SL : w.heap.size + 3 ≤ w1.heap.size := Nat.le_trans SH.out b1.size
  have BL := chainX w BH.out b1
  have z1_2 := ZL.cells 2 _ rfl
  have zf1_2 := ZL.free 2
  have z1_3 := ZL.cells 3 _ rfl
  have zf1_3 := ZL.free 3
  have Z1H := Lib.hid ((ZL.put 2 (by simp) (.slice a1_0 d.tree.devices.length c1_0)).put 3 (by simp) (.slice a1_1 d.tree.buckets.length c1_1))
  have X1H := Lib.hid ((XL.far (p := ⟨w.heap.size + 1 + 1, 2, none⟩) (by show w.heap.size + 1 + 1 ≠ w.heap.size; omega) (.slice a1_0 d.tree.devices.length c1_0)).far (p := ⟨w.heap.size + 1 + 1, 3, none⟩) (by show w.heap.size + 1 + 1 ≠ w.heap.size; omega) (.slice a1_1 d.tree.buckets.length c1_1))
  have Y1H := Lib.hid ((YL.far (p := ⟨w.heap.size + 1 + 1, 2, none⟩) (by show w.heap.size + 1 + 1 ≠ w.heap.size + 1; omega) (.slice a1_0 d.tree.devices.length c1_0)).far (p := ⟨w.heap.size + 1 + 1, 3, none⟩) (by show w.heap.size + 1 + 1 ≠ w.heap.size + 1; omega) (.slice a1_1 d.tree.buckets.length c1_1))
  have B1H := Lib.hid ((BL.setCell (p := ⟨w.heap.size + 1 + 1, 2, none⟩) (by show _ ≤ w.heap.size + 1 + 1; omega) (.slice a1_0 d.tree.devices.length c1_0)).setCell (p := ⟨w.heap.size + 1 + 1, 3, none⟩) (by show _ ≤ w.heap.size + 1 + 1; omega) (.slice a1_1 d.tree.buckets.length c1_1))
  have R_f1_0 := Lib.hid (Rows.far (p := ⟨w.heap.size + 1 + 1, 3, none⟩) (v := .slice a1_1 d.tree.buckets.length c1_1) (Rows.far (p := ⟨w.heap.size + 1 + 1, 2, none⟩) (v := .slice a1_0 d.tree.devices.length c1_0) (f1_0.weak SH.out id) (by show w.heap.size + 1 + 1 < w.heap.size + 3; omega)) (by show w.heap.size + 1 + 1 < w.heap.size + 3; omega))
  have R_f1_1 := Lib.hid (Rows.far (p := ⟨w.heap.size + 1 + 1, 3, none⟩) (v := .slice a1_1 d.tree.buckets.length c1_1) (Rows.far (p := ⟨w.heap.size + 1 + 1, 2, none⟩) (v := .slice a1_0 d.tree.devices.length c1_0) (f1_1.weak SH.out id) (by show w.heap.size + 1 + 1 < w.heap.size + 3; omega)) (by show w.heap.size + 1 + 1 < w.heap.size + 3; omega))
  have S1H := Lib.hid (show w.heap.size + 3 ≤ ((w1.setCell ⟨w.heap.size + 1 + 1, 2, none⟩ (.slice a1_0 d.tree.devices.length c1_0)).setCell ⟨w.heap.size + 1 + 1, 3, none⟩ (.slice a1_1 d.tree.buckets.length c1_1)).heap.size by simpa using SL)
  clear XL ZL YL BL SL b1 f1_0 f1_1 XH YH ZH BH SH
  have x1_0 := X1H.out.cells 0 _ rfl
  have x1_1 := X1H.out.cells 1 _ rfl
  have x1_2 := X1H.out.cells 2 _ rfl
  have x1_3 := X1H.out.cells 3 _ rfl
  have x1_4 := X1H.out.cells 4 _ rfl
  have x1_5 := X1H.out.cells 5 _ rfl
  have x1_6 := X1H.out.cells 6 _ rfl
  have x1_7 := X1H.out.cells 7 _ rfl
  go_wp2_with fail
  refine (C1.out _ B1H.out).mono ?_
  rintro e w2 ⟨q2, rfl, r2, -, -, -, b2⟩
  have XL := X1H.out.later b2
  have ZL := Z1H.out.later b2
  have YL := Y1H.out.later b2
  have SL : w.heap.size + 3 ≤ w2.heap.size := Nat.le_trans S1H.out b2.size
  have BL := chainX w B1H.out b2
  have z2_4 := ZL.cells 4 _ rfl
  have zf2_4 := ZL.free 4
  have Z2H := Lib.hid (ZL.put 4 (by simp) (.slice (some ⟨q2, 0, none⟩) d.rules.length d.rules.length))
  have X2H := Lib.hid (XL.far (p := ⟨w.heap.size + 1 + 1, 4, none⟩) (by show w.heap.size + 1 + 1 ≠ w.heap.size; omega) (.slice (some ⟨q2, 0, none⟩) d.rules.length d.rules.length))
  have Y2H := Lib.hid (YL.far (p := ⟨w.heap.size + 1 + 1, 4, none⟩) (by show w.heap.size + 1 + 1 ≠ w.heap.size + 1; omega) (.slice (some ⟨q2, 0, none⟩) d.rules.length d.rules.length))
  have B2H := Lib.hid (BL.setCell (p := ⟨w.heap.size + 1 + 1, 4, none⟩) (by show _ ≤ w.heap.size + 1 + 1; omega) (.slice (some ⟨q2, 0, none⟩) d.rules.length d.rules.length))
  have R_f1_0 := Lib.hid (Rows.far (p := ⟨w.heap.size + 1 + 1, 4, none⟩) (v := .slice (some ⟨q2, 0, none⟩) d.rules.length d.rules.length) (R_f1_0.out.below b2) (by show w.heap.size + 1 + 1 < w.heap.size + 3; omega))
  have R_f1_1 := Lib.hid (Rows.far (p := ⟨w.heap.size + 1 + 1, 4, none⟩) (v := .slice (some ⟨q2, 0, none⟩) d.rules.length d.rules.length) (R_f1_1.out.below b2) (by show w.heap.size + 1 + 1 < w.heap.size + 3; omega))
  have R_r2 := Lib.hid (Rows.far (p := ⟨w.heap.size + 1 + 1, 4, none⟩) (v := .slice (some ⟨q2, 0, none⟩) d.rules.length d.rules.length) (r2.weak S1H.out id) (by show w.heap.size + 1 + 1 < w.heap.size + 3; omega))
  have S2H := Lib.hid (show w.heap.size + 3 ≤ (w2.setCell ⟨w.heap.size + 1 + 1, 4, none⟩ (.slice (some ⟨q2, 0, none⟩) d.rules.length d.rules.length)).heap.size by simpa using SL)
  clear XL ZL YL BL SL b2 r2 X1H Y1H Z1H B1H S1H
  have x2_0 := X2H.out.cells 0 _ rfl
  have x2_1 := X2H.out.cells 1 _ rfl
  have x2_2 := X2H.out.cells 2 _ rfl
  have x2_3 := X2H.out.cells 3 _ rfl
  have x2_4 := X2H.out.cells 4 _ rfl
  have x2_5 := X2H.out.cells 5 _ rfl
  have x2_6 := X2H.out.cells 6 _ rfl
  have x2_7 := X2H.out.cells 7 _ rfl
  go_wp2_with fail
  refine (C2.out _ B2H.out).mono ?_
  rintro e w3 ⟨q3, rfl, r3, -, -, -, b3⟩
  have XL := X2H.out.later b3
  have ZL := Z2H.out.later b3
  have YL := Y2H.out.later b3
  have SL : w.heap.size + 3 ≤ w3.heap.size := Nat.le_trans S2H.out b3.size
  have BL := chainX w B2H.out b3
  have z3_5 := ZL.cells 5 _ rfl
  have zf3_5 := ZL.free 5
  have Z3H := Lib.hid (ZL.put 5 (by simp) (.slice (some ⟨q3, 0, none⟩) d.pools.length d.pools.length))
  have X3H := Lib.hid (XL.far (p := ⟨w.heap.size + 1 + 1, 5, none⟩) (by show w.heap.size + 1 + 1 ≠ w.heap.size; omega) (.slice (some ⟨q3, 0, none⟩) d.pools.length d.pools.length))
  have Y3H := Lib.hid (YL.far (p := ⟨w.heap.size + 1 + 1, 5, none⟩) (by show w.heap.size + 1 + 1 ≠ w.heap.size + 1; omega) (.slice (some ⟨q3, 0, none⟩) d.pools.length d.pools.length))
  have B3H := Lib.hid (BL.setCell (p := ⟨w.heap.size + 1 + 1, 5, none⟩) (by show _ ≤ w.heap.size + 1 + 1; omega) (.slice (some ⟨q3, 0, none⟩) d.pools.length d.pools.length))
  have R_f1_0 := Lib.hid (Rows.far (p := ⟨w.heap.size + 1 + 1, 5, none⟩) (v := .slice (some ⟨q3, 0, none⟩) d.pools.length d.pools.length) (R_f1_0.out.below b3) (by show w.heap.size + 1 + 1 < w.heap.size + 3; omega))
  have R_f1_1 := Lib.hid (Rows.far (p := ⟨w.heap.size + 1 + 1, 5, none⟩) (v := .slice (some ⟨q3, 0, none⟩) d.pools.length d.pools.length) (R_f1_1.out.below b3) (by show w.heap.size + 1 + 1 < w.heap.size + 3; omega))
  have R_r2 := Lib.hid (Rows.far (p := ⟨w.heap.size + 1 + 1, 5, none⟩) (v := .slice (some ⟨q3, 0, none⟩) d.pools.length d.pools.length) (R_r2.out.below b3) (by show w.heap.size + 1 + 1 < w.heap.size + 3; omega))
  have R_r3 := Lib.hid (Rows.far (p := ⟨w.heap.size + 1 + 1, 5, none⟩) (v := .slice (some ⟨q3, 0, none⟩) d.pools.length d.pools.length) (r3.weak S2H.out id) (by show w.heap.size + 1 + 1 < w.heap.size + 3; omega))
  have S3H := Lib.hid (show w.heap.size + 3 ≤ (w3.setCell ⟨w.heap.size + 1 + 1, 5, none⟩ (.slice (some ⟨q3, 0, none⟩) d.pools.length d.pools.length)).heap.size by simpa using SL)
  clear XL ZL YL BL SL b3 r3 X2H Y2H Z2H B2H S2H
  have x3_0 := X3H.out.cells 0 _ rfl
  have x3_1 := X3H.out.cells 1 _ rfl
  have x3_2 := X3H.out.cells 2 _ rfl
  have x3_3 := X3H.out.cells 3 _ rfl
  have x3_4 := X3H.out.cells 4 _ rfl
  have x3_5 := X3H.out.cells 5 _ rfl
  have x3_6 := X3H.out.cells 6 _ rfl
  have x3_7 := X3H.out.cells 7 _ rfl
  go_wp2_with fail
  refine (C3.out _ B3H.out).mono ?_
  rintro e w4 ⟨q4, rfl, r4, -, -, -, b4⟩
  have XL := X3H.out.later b4
  have ZL := Z3H.out.later b4
  have YL := Y3H.out.later b4
  have SL : w.heap.size + 3 ≤ w4.heap.size := Nat.le_trans S3H.out b4.size
  have BL := chainX w B3H.out b4
  have z4_6 := ZL.cells 6 _ rfl
  have zf4_6 := ZL.free 6
  have Z4H := Lib.hid (ZL.put 6 (by simp) (.slice (some ⟨q4, 0, none⟩) d.up.length d.up.length))
  have X4H := Lib.hid (XL.far (p := ⟨w.heap.size + 1 + 1, 6, none⟩) (by show w.heap.size + 1 + 1 ≠ w.heap.size; omega) (.slice (some ⟨q4, 0, none⟩) d.up.length d.up.length))
  have Y4H := Lib.hid (YL.far (p := ⟨w.heap.size + 1 + 1, 6, none⟩) (by show w.heap.size + 1 + 1 ≠ w.heap.size + 1; omega) (.slice (some ⟨q4, 0, none⟩) d.up.length d.up.length))
  have B4H := Lib.hid (BL.setCell (p := ⟨w.heap.size + 1 + 1, 6, none⟩) (by show _ ≤ w.heap.size + 1 + 1; omega) (.slice (some ⟨q4, 0, none⟩) d.up.length d.up.length))
  have R_f1_0 := Lib.hid (Rows.far (p := ⟨w.heap.size + 1 + 1, 6, none⟩) (v := .slice (some ⟨q4, 0, none⟩) d.up.length d.up.length) (R_f1_0.out.below b4) (by show w.heap.size + 1 + 1 < w.heap.size + 3; omega))
  have R_f1_1 := Lib.hid (Rows.far (p := ⟨w.heap.size + 1 + 1, 6, none⟩) (v := .slice (some ⟨q4, 0, none⟩) d.up.length d.up.length) (R_f1_1.out.below b4) (by show w.heap.size + 1 + 1 < w.heap.size + 3; omega))
  have R_r2 := Lib.hid (Rows.far (p := ⟨w.heap.size + 1 + 1, 6, none⟩) (v := .slice (some ⟨q4, 0, none⟩) d.up.length d.up.length) (R_r2.out.below b4) (by show w.heap.size + 1 + 1 < w.heap.size + 3; omega))
  have R_r3 := Lib.hid (Rows.far (p := ⟨w.heap.size + 1 + 1, 6, none⟩) (v := .slice (some ⟨q4, 0, none⟩) d.up.length d.up.length) (R_r3.out.below b4) (by show w.heap.size + 1 + 1 < w.heap.size + 3; omega))
  have R_r4 := Lib.hid (Rows.far (p := ⟨w.heap.size + 1 + 1, 6, none⟩) (v := .slice (some ⟨q4, 0, none⟩) d.up.length d.up.length) (r4.weak S3H.out id) (by show w.heap.size + 1 + 1 < w.heap.size + 3; omega))
  have S4H := Lib.hid (show w.heap.size + 3 ≤ (w4.setCell ⟨w.heap.size + 1 + 1, 6, none⟩ (.slice (some ⟨q4, 0, none⟩) d.up.length d.up.length)).heap.size by simpa using SL)
  clear XL ZL YL BL SL b4 r4 X3H Y3H Z3H B3H S3H
  have x4_0 := X4H.out.cells 0 _ rfl
  have x4_1 := X4H.out.cells 1 _ rfl
  have x4_2 := X4H.out.cells 2 _ rfl
  have x4_3 := X4H.out.cells 3 _ rfl
  have x4_4 := X4H.out.cells 4 _ rfl
  have x4_5 := X4H.out.cells 5 _ rfl
  have x4_6 := X4H.out.cells 6 _ rfl
  have x4_7 := X4H.out.cells 7 _ rfl
  go_wp2_with fail
  refine (C4.out _ B4H.out).mono ?_
  rintro e w5 ⟨q5, rfl, r5, -, -, -, b5⟩
  have XL := X4H.out.later b5
  have ZL := Z4H.out.later b5
  have YL := Y4H.out.later b5
  have SL : w.heap.size + 3 ≤ w5.heap.size := Nat.le_trans S4H.out b5.size
  have BL := chainX w B4H.out b5
  have z5_7 := ZL.cells 7 _ rfl
  have zf5_7 := ZL.free 7
  have Z5H := Lib.hid (ZL.put 7 (by simp) (.slice (some ⟨q5, 0, none⟩) d.out.length d.out.length))
  have X5H := Lib.hid (XL.far (p := ⟨w.heap.size + 1 + 1, 7, none⟩) (by show w.heap.size + 1 + 1 ≠ w.heap.size; omega) (.slice (some ⟨q5, 0, none⟩) d.out.length d.out.length))
  have Y5H := Lib.hid (YL.far (p := ⟨w.heap.size + 1 + 1, 7, none⟩) (by show w.heap.size + 1 + 1 ≠ w.heap.size + 1; omega) (.slice (some ⟨q5, 0, none⟩) d.out.length d.out.length))
  have B5H := Lib.hid (BL.setCell (p := ⟨w.heap.size + 1 + 1, 7, none⟩) (by show _ ≤ w.heap.size + 1 + 1; omega) (.slice (some ⟨q5, 0, none⟩) d.out.length d.out.length))
  have R_f1_0 := Lib.hid (Rows.far (p := ⟨w.heap.size + 1 + 1, 7, none⟩) (v := .slice (some ⟨q5, 0, none⟩) d.out.length d.out.length) (R_f1_0.out.below b5) (by show w.heap.size + 1 + 1 < w.heap.size + 3; omega))
  have R_f1_1 := Lib.hid (Rows.far (p := ⟨w.heap.size + 1 + 1, 7, none⟩) (v := .slice (some ⟨q5, 0, none⟩) d.out.length d.out.length) (R_f1_1.out.below b5) (by show w.heap.size + 1 + 1 < w.heap.size + 3; omega))
  have R_r2 := Lib.hid (Rows.far (p := ⟨w.heap.size + 1 + 1, 7, none⟩) (v := .slice (some ⟨q5, 0, none⟩) d.out.length d.out.length) (R_r2.out.below b5) (by show w.heap.size + 1 + 1 < w.heap.size + 3; omega))
  have R_r3 := Lib.hid (Rows.far (p := ⟨w.heap.size + 1 + 1, 7, none⟩) (v := .slice (some ⟨q5, 0, none⟩) d.out.length d.out.length) (R_r3.out.below b5) (by show w.heap.size + 1 + 1 < w.heap.size + 3; omega))
  have R_r4 := Lib.hid (Rows.far (p := ⟨w.heap.size + 1 + 1, 7, none⟩) (v := .slice (some ⟨q5, 0, none⟩) d.out.length d.out.length) (R_r4.out.below b5) (by show w.heap.size + 1 + 1 < w.heap.size + 3; omega))
  have R_r5 := Lib.hid (Rows.far (p := ⟨w.heap.size + 1 + 1, 7, none⟩) (v := .slice (some ⟨q5, 0, none⟩) d.out.length d.out.length) (r5.weak S4H.out id) (by show w.heap.size + 1 + 1 < w.heap.size + 3; omega))
  have S5H := Lib.hid (show w.heap.size + 3 ≤ (w5.setCell ⟨w.heap.size + 1 + 1, 7, none⟩ (.slice (some ⟨q5, 0, none⟩) d.out.length d.out.length)).heap.size by simpa using SL)
  clear XL ZL YL BL SL b5 r5 X4H Y4H Z4H B4H S4H
  have m0 := Z5H.out.cells 0 _ rfl
  have y0 := Y5H.out.cells 0 _ rfl
  have yf0 := Y5H.out.free 0
  have m1 := Z5H.out.cells 1 _ rfl
  have y1 := Y5H.out.cells 1 _ rfl
  have yf1 := Y5H.out.free 1
  have m2 := Z5H.out.cells 2 _ rfl
  have y2 := Y5H.out.cells 2 _ rfl
  have yf2 := Y5H.out.free 2
  have m3 := Z5H.out.cells 3 _ rfl
  have y3 := Y5H.out.cells 3 _ rfl
  have yf3 := Y5H.out.free 3
  have m4 := Z5H.out.cells 4 _ rfl
  have y4 := Y5H.out.cells 4 _ rfl
  have yf4 := Y5H.out.free 4
  have m5 := Z5H.out.cells 5 _ rfl
  have y5 := Y5H.out.cells 5 _ rfl
  have yf5 := Y5H.out.free 5
  have m6 := Z5H.out.cells 6 _ rfl
  have y6 := Y5H.out.cells 6 _ rfl
  have yf6 := Y5H.out.free 6
  have m7 := Z5H.out.cells 7 _ rfl
  have y7 := Y5H.out.cells 7 _ rfl
  have yf7 := Y5H.out.free 7
  have F : StC d w (.returned (.agg #[.int .i64 d.epoch, .int .i64 d.term, .slice a1_0 d.tree.devices.length c1_0, .slice a1_1 d.tree.buckets.length c1_1, .slice (some ⟨q2, 0, none⟩) d.rules.length d.rules.length, .slice (some ⟨q3, 0, none⟩) d.pools.length d.pools.length, .slice (some ⟨q4, 0, none⟩) d.up.length d.up.length, .slice (some ⟨q5, 0, none⟩) d.out.length d.out.length])) (((((((((w5.setCell ⟨w.heap.size + 1 + 1, 7, none⟩ (.slice (some ⟨q5, 0, none⟩) d.out.length d.out.length)).setCell ⟨w.heap.size + 1, 0, none⟩ (.int .i64 d.epoch)).setCell ⟨w.heap.size + 1, 1, none⟩ (.int .i64 d.term)).setCell ⟨w.heap.size + 1, 2, none⟩ (.slice a1_0 d.tree.devices.length c1_0)).setCell ⟨w.heap.size + 1, 3, none⟩ (.slice a1_1 d.tree.buckets.length c1_1)).setCell ⟨w.heap.size + 1, 4, none⟩ (.slice (some ⟨q2, 0, none⟩) d.rules.length d.rules.length)).setCell ⟨w.heap.size + 1, 5, none⟩ (.slice (some ⟨q3, 0, none⟩) d.pools.length d.pools.length)).setCell ⟨w.heap.size + 1, 6, none⟩ (.slice (some ⟨q4, 0, none⟩) d.up.length d.up.length)).setCell ⟨w.heap.size + 1, 7, none⟩ (.slice (some ⟨q5, 0, none⟩) d.out.length d.out.length)) := ⟨_, rfl, mk_Map f0_0 f0_1 ((Rows.far (p := ⟨w.heap.size + 1, 7, none⟩) (v := .slice (some ⟨q5, 0, none⟩) d.out.length d.out.length) (Rows.far (p := ⟨w.heap.size + 1, 6, none⟩) (v := .slice (some ⟨q4, 0, none⟩) d.up.length d.up.length) (Rows.far (p := ⟨w.heap.size + 1, 5, none⟩) (v := .slice (some ⟨q3, 0, none⟩) d.pools.length d.pools.length) (Rows.far (p := ⟨w.heap.size + 1, 4, none⟩) (v := .slice (some ⟨q2, 0, none⟩) d.rules.length d.rules.length) (Rows.far (p := ⟨w.heap.size + 1, 3, none⟩) (v := .slice a1_1 d.tree.buckets.length c1_1) (Rows.far (p := ⟨w.heap.size + 1, 2, none⟩) (v := .slice a1_0 d.tree.devices.length c1_0) (Rows.far (p := ⟨w.heap.size + 1, 1, none⟩) (v := .int .i64 d.term) (Rows.far (p := ⟨w.heap.size + 1, 0, none⟩) (v := .int .i64 d.epoch) R_f1_0.out (by show w.heap.size + 1 < w.heap.size + 3; omega)) (by show w.heap.size + 1 < w.heap.size + 3; omega)) (by show w.heap.size + 1 < w.heap.size + 3; omega)) (by show w.heap.size + 1 < w.heap.size + 3; omega)) (by show w.heap.size + 1 < w.heap.size + 3; omega)) (by show w.heap.size + 1 < w.heap.size + 3; omega)) (by show w.heap.size + 1 < w.heap.size + 3; omega)) (by show w.heap.size + 1 < w.heap.size + 3; omega)).weak (by omega) id) g1_0 ((Rows.far (p := ⟨w.heap.size + 1, 7, none⟩) (v := .slice (some ⟨q5, 0, none⟩) d.out.length d.out.length) (Rows.far (p := ⟨w.heap.size + 1, 6, none⟩) (v := .slice (some ⟨q4, 0, none⟩) d.up.length d.up.length) (Rows.far (p := ⟨w.heap.size + 1, 5, none⟩) (v := .slice (some ⟨q3, 0, none⟩) d.pools.length d.pools.length) (Rows.far (p := ⟨w.heap.size + 1, 4, none⟩) (v := .slice (some ⟨q2, 0, none⟩) d.rules.length d.rules.length) (Rows.far (p := ⟨w.heap.size + 1, 3, none⟩) (v := .slice a1_1 d.tree.buckets.length c1_1) (Rows.far (p := ⟨w.heap.size + 1, 2, none⟩) (v := .slice a1_0 d.tree.devices.length c1_0) (Rows.far (p := ⟨w.heap.size + 1, 1, none⟩) (v := .int .i64 d.term) (Rows.far (p := ⟨w.heap.size + 1, 0, none⟩) (v := .int .i64 d.epoch) R_f1_1.out (by show w.heap.size + 1 < w.heap.size + 3; omega)) (by show w.heap.size + 1 < w.heap.size + 3; omega)) (by show w.heap.size + 1 < w.heap.size + 3; omega)) (by show w.heap.size + 1 < w.heap.size + 3; omega)) (by show w.heap.size + 1 < w.heap.size + 3; omega)) (by show w.heap.size + 1 < w.heap.size + 3; omega)) (by show w.heap.size + 1 < w.heap.size + 3; omega)) (by show w.heap.size + 1 < w.heap.size + 3; omega)).weak (by omega) id) g1_1 ((Rows.far (p := ⟨w.heap.size + 1, 7, none⟩) (v := .slice (some ⟨q5, 0, none⟩) d.out.length d.out.length) (Rows.far (p := ⟨w.heap.size + 1, 6, none⟩) (v := .slice (some ⟨q4, 0, none⟩) d.up.length d.up.length) (Rows.far (p := ⟨w.heap.size + 1, 5, none⟩) (v := .slice (some ⟨q3, 0, none⟩) d.pools.length d.pools.length) (Rows.far (p := ⟨w.heap.size + 1, 4, none⟩) (v := .slice (some ⟨q2, 0, none⟩) d.rules.length d.rules.length) (Rows.far (p := ⟨w.heap.size + 1, 3, none⟩) (v := .slice a1_1 d.tree.buckets.length c1_1) (Rows.far (p := ⟨w.heap.size + 1, 2, none⟩) (v := .slice a1_0 d.tree.devices.length c1_0) (Rows.far (p := ⟨w.heap.size + 1, 1, none⟩) (v := .int .i64 d.term) (Rows.far (p := ⟨w.heap.size + 1, 0, none⟩) (v := .int .i64 d.epoch) R_r2.out (by show w.heap.size + 1 < w.heap.size + 3; omega)) (by show w.heap.size + 1 < w.heap.size + 3; omega)) (by show w.heap.size + 1 < w.heap.size + 3; omega)) (by show w.heap.size + 1 < w.heap.size + 3; omega)) (by show w.heap.size + 1 < w.heap.size + 3; omega)) (by show w.heap.size + 1 < w.heap.size + 3; omega)) (by show w.heap.size + 1 < w.heap.size + 3; omega)) (by show w.heap.size + 1 < w.heap.size + 3; omega)).weak (by omega) id) ⟨g0_4.1, Nat.le_refl _⟩ ((Rows.far (p := ⟨w.heap.size + 1, 7, none⟩) (v := .slice (some ⟨q5, 0, none⟩) d.out.length d.out.length) (Rows.far (p := ⟨w.heap.size + 1, 6, none⟩) (v := .slice (some ⟨q4, 0, none⟩) d.up.length d.up.length) (Rows.far (p := ⟨w.heap.size + 1, 5, none⟩) (v := .slice (some ⟨q3, 0, none⟩) d.pools.length d.pools.length) (Rows.far (p := ⟨w.heap.size + 1, 4, none⟩) (v := .slice (some ⟨q2, 0, none⟩) d.rules.length d.rules.length) (Rows.far (p := ⟨w.heap.size + 1, 3, none⟩) (v := .slice a1_1 d.tree.buckets.length c1_1) (Rows.far (p := ⟨w.heap.size + 1, 2, none⟩) (v := .slice a1_0 d.tree.devices.length c1_0) (Rows.far (p := ⟨w.heap.size + 1, 1, none⟩) (v := .int .i64 d.term) (Rows.far (p := ⟨w.heap.size + 1, 0, none⟩) (v := .int .i64 d.epoch) R_r3.out (by show w.heap.size + 1 < w.heap.size + 3; omega)) (by show w.heap.size + 1 < w.heap.size + 3; omega)) (by show w.heap.size + 1 < w.heap.size + 3; omega)) (by show w.heap.size + 1 < w.heap.size + 3; omega)) (by show w.heap.size + 1 < w.heap.size + 3; omega)) (by show w.heap.size + 1 < w.heap.size + 3; omega)) (by show w.heap.size + 1 < w.heap.size + 3; omega)) (by show w.heap.size + 1 < w.heap.size + 3; omega)).weak (by omega) id) ⟨g0_5.1, Nat.le_refl _⟩ ((Rows.far (p := ⟨w.heap.size + 1, 7, none⟩) (v := .slice (some ⟨q5, 0, none⟩) d.out.length d.out.length) (Rows.far (p := ⟨w.heap.size + 1, 6, none⟩) (v := .slice (some ⟨q4, 0, none⟩) d.up.length d.up.length) (Rows.far (p := ⟨w.heap.size + 1, 5, none⟩) (v := .slice (some ⟨q3, 0, none⟩) d.pools.length d.pools.length) (Rows.far (p := ⟨w.heap.size + 1, 4, none⟩) (v := .slice (some ⟨q2, 0, none⟩) d.rules.length d.rules.length) (Rows.far (p := ⟨w.heap.size + 1, 3, none⟩) (v := .slice a1_1 d.tree.buckets.length c1_1) (Rows.far (p := ⟨w.heap.size + 1, 2, none⟩) (v := .slice a1_0 d.tree.devices.length c1_0) (Rows.far (p := ⟨w.heap.size + 1, 1, none⟩) (v := .int .i64 d.term) (Rows.far (p := ⟨w.heap.size + 1, 0, none⟩) (v := .int .i64 d.epoch) R_r4.out (by show w.heap.size + 1 < w.heap.size + 3; omega)) (by show w.heap.size + 1 < w.heap.size + 3; omega)) (by show w.heap.size + 1 < w.heap.size + 3; omega)) (by show w.heap.size + 1 < w.heap.size + 3; omega)) (by show w.heap.size + 1 < w.heap.size + 3; omega)) (by show w.heap.size + 1 < w.heap.size + 3; omega)) (by show w.heap.size + 1 < w.heap.size + 3; omega)) (by show w.heap.size + 1 < w.heap.size + 3; omega)).weak (by omega) id) ⟨g0_6.1, Nat.le_refl _⟩ ((Rows.far (p := ⟨w.heap.size + 1, 7, none⟩) (v := .slice (some ⟨q5, 0, none⟩) d.out.length d.out.length) (Rows.far (p := ⟨w.heap.size + 1, 6, none⟩) (v := .slice (some ⟨q4, 0, none⟩) d.up.length d.up.length) (Rows.far (p := ⟨w.heap.size + 1, 5, none⟩) (v := .slice (some ⟨q3, 0, none⟩) d.pools.length d.pools.length) (Rows.far (p := ⟨w.heap.size + 1, 4, none⟩) (v := .slice (some ⟨q2, 0, none⟩) d.rules.length d.rules.length) (Rows.far (p := ⟨w.heap.size + 1, 3, none⟩) (v := .slice a1_1 d.tree.buckets.length c1_1) (Rows.far (p := ⟨w.heap.size + 1, 2, none⟩) (v := .slice a1_0 d.tree.devices.length c1_0) (Rows.far (p := ⟨w.heap.size + 1, 1, none⟩) (v := .int .i64 d.term) (Rows.far (p := ⟨w.heap.size + 1, 0, none⟩) (v := .int .i64 d.epoch) R_r5.out (by show w.heap.size + 1 < w.heap.size + 3; omega)) (by show w.heap.size + 1 < w.heap.size + 3; omega)) (by show w.heap.size + 1 < w.heap.size + 3; omega)) (by show w.heap.size + 1 < w.heap.size + 3; omega)) (by show w.heap.size + 1 < w.heap.size + 3; omega)) (by show w.heap.size + 1 < w.heap.size + 3; omega)) (by show w.heap.size + 1 < w.heap.size + 3; omega)) (by show w.heap.size + 1 < w.heap.size + 3; omega)).weak (by omega) id) ⟨g0_7.1, Nat.le_refl _⟩, ((((((((B5H.out.setCell (p := ⟨w.heap.size + 1, 0, none⟩) (by show _ ≤ w.heap.size + 1; omega) (.int .i64 d.epoch)).setCell (p := ⟨w.heap.size + 1, 1, none⟩) (by show _ ≤ w.heap.size + 1; omega) (.int .i64 d.term)).setCell (p := ⟨w.heap.size + 1, 2, none⟩) (by show _ ≤ w.heap.size + 1; omega) (.slice a1_0 d.tree.devices.length c1_0)).setCell (p := ⟨w.heap.size + 1, 3, none⟩) (by show _ ≤ w.heap.size + 1; omega) (.slice a1_1 d.tree.buckets.length c1_1)).setCell (p := ⟨w.heap.size + 1, 4, none⟩) (by show _ ≤ w.heap.size + 1; omega) (.slice (some ⟨q2, 0, none⟩) d.rules.length d.rules.length)).setCell (p := ⟨w.heap.size + 1, 5, none⟩) (by show _ ≤ w.heap.size + 1; omega) (.slice (some ⟨q3, 0, none⟩) d.pools.length d.pools.length)).setCell (p := ⟨w.heap.size + 1, 6, none⟩) (by show _ ≤ w.heap.size + 1; omega) (.slice (some ⟨q4, 0, none⟩) d.up.length d.up.length)).setCell (p := ⟨w.heap.size + 1, 7, none⟩) (by show _ ≤ w.heap.size + 1; omega) (.slice (some ⟨q5, 0, none⟩) d.out.length d.out.length))⟩
  have F := Lib.hid F
  clear X5H Z5H Y5H B5H R_f1_0 R_f1_1 R_r2 R_r3 R_r4 R_r5
  go_wp2
  exact bodyPost_ret (v := .agg #[.int .i64 d.epoch, .int .i64 d.term, .slice a1_0 d.tree.devices.length c1_0, .slice a1_1 d.tree.buckets.length c1_1, .slice (some ⟨q2, 0, none⟩) d.rules.length d.rules.length, .slice (some ⟨q3, 0, none⟩) d.pools.length d.pools.length, .slice (some ⟨q4, 0, none⟩) d.up.length d.up.length, .slice (some ⟨q5, 0, none⟩) d.out.length d.out.length]) (by simp [results, Try.results26, go_sem, *]) rfl F.out

set_option maxRecDepth 100000 in
set_option maxHeartbeats 1000000 in
theorem eqMap {cs ds : List Value} {fr fr2 : Bool} {lo lo2 : Nat} (d : DMap) (w : World) (hs : Rdb.sz d ≤ 2097152) (h : Rdb.rd fr lo w cs d) (k : Rdb.rd fr2 lo2 w ds d) : Calls Try.prog 28 #[.agg cs.toArray, .agg ds.toArray] w (TrueW w) := by
  obtain ⟨a0_2, c0_2, a0_3, c0_3, a0_4, c0_4, a0_5, c0_5, a0_6, c0_6, a0_7, c0_7, rfl, f0_0, f0_1, f0_2, g0_2, f0_3, g0_3, f0_4, g0_4, f0_5, g0_5, f0_6, g0_6, f0_7, g0_7⟩ := shape_Map h
  obtain ⟨a1_2, c1_2, a1_3, c1_3, a1_4, c1_4, a1_5, c1_5, a1_6, c1_6, a1_7, c1_7, rfl, f1_0, f1_1, f1_2, g1_2, f1_3, g1_3, f1_4, g1_4, f1_5, g1_5, f1_6, g1_6, f1_7, g1_7⟩ := shape_Map k
  have BH := Lib.hid (chain (lay w (.cells #[.int .i64 d.epoch, .int .i64 d.term, .slice a0_2 d.tree.devices.length c0_2, .slice a0_3 d.tree.buckets.length c0_3, .slice a0_4 d.rules.length c0_4, .slice a0_5 d.pools.length c0_5, .slice a0_6 d.up.length c0_6, .slice a0_7 d.out.length c0_7] 55)) (lay _ (.cells #[.int .i64 d.epoch, .int .i64 d.term, .slice a1_2 d.tree.devices.length c1_2, .slice a1_3 d.tree.buckets.length c1_3, .slice a1_4 d.rules.length c1_4, .slice a1_5 d.pools.length c1_5, .slice a1_6 d.up.length c1_6, .slice a1_7 d.out.length c1_7] 55)))
  have XH := Lib.hid ((BxN.new w #[.int .i64 d.epoch, .int .i64 d.term, .slice a0_2 d.tree.devices.length c0_2, .slice a0_3 d.tree.buckets.length c0_3, .slice a0_4 d.rules.length c0_4, .slice a0_5 d.pools.length c0_5, .slice a0_6 d.up.length c0_6, .slice a0_7 d.out.length c0_7] 55).later (lay _ (.cells #[.int .i64 d.epoch, .int .i64 d.term, .slice a1_2 d.tree.devices.length c1_2, .slice a1_3 d.tree.buckets.length c1_3, .slice a1_4 d.rules.length c1_4, .slice a1_5 d.pools.length c1_5, .slice a1_6 d.up.length c1_6, .slice a1_7 d.out.length c1_7] 55)))
  have Y0 := BxN.new (w.alloc (.cells #[.int .i64 d.epoch, .int .i64 d.term, .slice a0_2 d.tree.devices.length c0_2, .slice a0_3 d.tree.buckets.length c0_3, .slice a0_4 d.rules.length c0_4, .slice a0_5 d.pools.length c0_5, .slice a0_6 d.up.length c0_6, .slice a0_7 d.out.length c0_7] 55)) #[.int .i64 d.epoch, .int .i64 d.term, .slice a1_2 d.tree.devices.length c1_2, .slice a1_3 d.tree.buckets.length c1_3, .slice a1_4 d.rules.length c1_4, .slice a1_5 d.pools.length c1_5, .slice a1_6 d.up.length c1_6, .slice a1_7 d.out.length c1_7] 55
  rw [World.size_alloc] at Y0
  have YH := Lib.hid Y0
  clear Y0
  have E : Rdb.sz d = Rdb.sz d.tree + Rdb.sz d.rules + Rdb.sz d.pools + Rdb.sz d.up + Rdb.sz d.out := rfl
  have C0 := Lib.hid (fun w' (b : Below w.heap.size w w') => eqTree d.tree w' (by omega) (mk_Tree (d := d.tree) (a0 := a0_2) (c0 := c0_2) (a1 := a0_3) (c1 := c0_3) (f0_2.below b) g0_2 (f0_3.below b) g0_3) (mk_Tree (d := d.tree) (a0 := a1_2) (c0 := c1_2) (a1 := a1_3) (c1 := c1_3) (f1_2.below b) g1_2 (f1_3.below b) g1_3))
  have C1 := Lib.hid (fun w' (b : Below w.heap.size w w') => eqRuleS a0_4 a1_4 c0_4 c1_4 d.rules w' (by omega) (f0_4.below b) (f1_4.below b))
  have C2 := Lib.hid (fun w' (b : Below w.heap.size w w') => eqPoolS a0_5 a1_5 c0_5 c1_5 d.pools w' (by omega) (f0_5.below b) (f1_5.below b))
  have C3 := Lib.hid (fun w' (b : Below w.heap.size w w') => eqInt64S a0_6 a1_6 c0_6 c1_6 d.up w' (by omega) (f0_6.below b) (f1_6.below b))
  have C4 := Lib.hid (fun w' (b : Below w.heap.size w w') => eqInt64S a0_7 a1_7 c0_7 c1_7 d.out w' (by omega) (f0_7.below b) (f1_7.below b))
  clear E f0_2 f1_2 f0_3 f1_3 f0_4 f1_4 f0_5 f1_5 f0_6 f1_6 f0_7 f1_7
  go_enter Try.func28, Try.ntmps28
  go_wp2_with fail
  refine (C0.out _ BH.out).mono ?_
  rintro e w1 ⟨rfl, b1⟩
  have B1H := Lib.hid (chainX w BH.out b1)
  have XL := XH.out.later b1
  have YL := YH.out.later b1
  have x1_0 := XL.cells 0 _ rfl
  have y1_0 := YL.cells 0 _ rfl
  have x1_1 := XL.cells 1 _ rfl
  have y1_1 := YL.cells 1 _ rfl
  have x1_2 := XL.cells 2 _ rfl
  have y1_2 := YL.cells 2 _ rfl
  have x1_3 := XL.cells 3 _ rfl
  have y1_3 := YL.cells 3 _ rfl
  have x1_4 := XL.cells 4 _ rfl
  have y1_4 := YL.cells 4 _ rfl
  have x1_5 := XL.cells 5 _ rfl
  have y1_5 := YL.cells 5 _ rfl
  have x1_6 := XL.cells 6 _ rfl
  have y1_6 := YL.cells 6 _ rfl
  have x1_7 := XL.cells 7 _ rfl
  have y1_7 := YL.cells 7 _ rfl
  have X1H := Lib.hid XL
  have Y1H := Lib.hid YL
  clear XL YL b1 XH YH
  go_wp2_with fail
  refine (C1.out _ B1H.out).mono ?_
  rintro e w2 ⟨rfl, b2⟩
  have B2H := Lib.hid (chainX w B1H.out b2)
  have XL := X1H.out.later b2
  have YL := Y1H.out.later b2
  have x2_0 := XL.cells 0 _ rfl
  have y2_0 := YL.cells 0 _ rfl
  have x2_1 := XL.cells 1 _ rfl
  have y2_1 := YL.cells 1 _ rfl
  have x2_2 := XL.cells 2 _ rfl
  have y2_2 := YL.cells 2 _ rfl
  have x2_3 := XL.cells 3 _ rfl
  have y2_3 := YL.cells 3 _ rfl
  have x2_4 := XL.cells 4 _ rfl
  have y2_4 := YL.cells 4 _ rfl
  have x2_5 := XL.cells 5 _ rfl
  have y2_5 := YL.cells 5 _ rfl
  have x2_6 := XL.cells 6 _ rfl
  have y2_6 := YL.cells 6 _ rfl
  have x2_7 := XL.cells 7 _ rfl
  have y2_7 := YL.cells 7 _ rfl
  have X2H := Lib.hid XL
  have Y2H := Lib.hid YL
  clear XL YL b2 X1H Y1H
  clear x1_0 y1_0 x1_1 y1_1 x1_2 y1_2 x1_3 y1_3 x1_4 y1_4 x1_5 y1_5 x1_6 y1_6 x1_7 y1_7
  go_wp2_with fail
  refine (C2.out _ B2H.out).mono ?_
  rintro e w3 ⟨rfl, b3⟩
  have B3H := Lib.hid (chainX w B2H.out b3)
  have XL := X2H.out.later b3
  have YL := Y2H.out.later b3
  have x3_0 := XL.cells 0 _ rfl
  have y3_0 := YL.cells 0 _ rfl
  have x3_1 := XL.cells 1 _ rfl
  have y3_1 := YL.cells 1 _ rfl
  have x3_2 := XL.cells 2 _ rfl
  have y3_2 := YL.cells 2 _ rfl
  have x3_3 := XL.cells 3 _ rfl
  have y3_3 := YL.cells 3 _ rfl
  have x3_4 := XL.cells 4 _ rfl
  have y3_4 := YL.cells 4 _ rfl
  have x3_5 := XL.cells 5 _ rfl
  have y3_5 := YL.cells 5 _ rfl
  have x3_6 := XL.cells 6 _ rfl
  have y3_6 := YL.cells 6 _ rfl
  have x3_7 := XL.cells 7 _ rfl
  have y3_7 := YL.cells 7 _ rfl
  have X3H := Lib.hid XL
  have Y3H := Lib.hid YL
  clear XL YL b3 X2H Y2H
  clear x2_0 y2_0 x2_1 y2_1 x2_2 y2_2 x2_3 y2_3 x2_4 y2_4 x2_5 y2_5 x2_6 y2_6 x2_7 y2_7
  go_wp2_with fail
  refine (C3.out _ B3H.out).mono ?_
  rintro e w4 ⟨rfl, b4⟩
  have B4H := Lib.hid (chainX w B3H.out b4)
  have XL := X3H.out.later b4
  have YL := Y3H.out.later b4
  have x4_0 := XL.cells 0 _ rfl
  have y4_0 := YL.cells 0 _ rfl
  have x4_1 := XL.cells 1 _ rfl
  have y4_1 := YL.cells 1 _ rfl
  have x4_2 := XL.cells 2 _ rfl
  have y4_2 := YL.cells 2 _ rfl
  have x4_3 := XL.cells 3 _ rfl
  have y4_3 := YL.cells 3 _ rfl
  have x4_4 := XL.cells 4 _ rfl
  have y4_4 := YL.cells 4 _ rfl
  have x4_5 := XL.cells 5 _ rfl
  have y4_5 := YL.cells 5 _ rfl
  have x4_6 := XL.cells 6 _ rfl
  have y4_6 := YL.cells 6 _ rfl
  have x4_7 := XL.cells 7 _ rfl
  have y4_7 := YL.cells 7 _ rfl
  have X4H := Lib.hid XL
  have Y4H := Lib.hid YL
  clear XL YL b4 X3H Y3H
  clear x3_0 y3_0 x3_1 y3_1 x3_2 y3_2 x3_3 y3_3 x3_4 y3_4 x3_5 y3_5 x3_6 y3_6 x3_7 y3_7
  go_wp2_with fail
  refine (C4.out _ B4H.out).mono ?_
  rintro e w5 ⟨rfl, b5⟩
  have B5H := Lib.hid (chainX w B4H.out b5)
  have XL := X4H.out.later b5
  have YL := Y4H.out.later b5
  have x5_0 := XL.cells 0 _ rfl
  have y5_0 := YL.cells 0 _ rfl
  have x5_1 := XL.cells 1 _ rfl
  have y5_1 := YL.cells 1 _ rfl
  have x5_2 := XL.cells 2 _ rfl
  have y5_2 := YL.cells 2 _ rfl
  have x5_3 := XL.cells 3 _ rfl
  have y5_3 := YL.cells 3 _ rfl
  have x5_4 := XL.cells 4 _ rfl
  have y5_4 := YL.cells 4 _ rfl
  have x5_5 := XL.cells 5 _ rfl
  have y5_5 := YL.cells 5 _ rfl
  have x5_6 := XL.cells 6 _ rfl
  have y5_6 := YL.cells 6 _ rfl
  have x5_7 := XL.cells 7 _ rfl
  have y5_7 := YL.cells 7 _ rfl
  have X5H := Lib.hid XL
  have Y5H := Lib.hid YL
  clear XL YL b5 X4H Y4H
  clear x4_0 y4_0 x4_1 y4_1 x4_2 y4_2 x4_3 y4_3 x4_4 y4_4 x4_5 y4_5 x4_6 y4_6 x4_7 y4_7
  go_wp2
  go_ret
  exact ⟨rfl, B5H.out⟩


theorem infoMap : (Try.prog.info? 55).map (fun i => (i.zero, i.size, i.bytes)) = some (some (.agg #[.int .i64 0, .int .i64 0, .slice none 0 0, .slice none 0 0, .slice none 0 0, .slice none 0 0, .slice none 0 0, .slice none 0 0]), 8, 160) := by kernel_rfl

end Go.Proofs.Ytigaoimnhebegaa.Rd
