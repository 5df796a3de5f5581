/-
  Data of the type Store: its reading, and the laws' helpers on it (written by tools/gen/data.py).
-/
import Derived.Test.YtbckdfoapmjilaaGreatDoorDPgState
namespace Go.Proofs.YtbckdfoapmjilaaGreatDoor.Rd
open Go.RowKit Go.ChangeShapes Go.WideShapes
open Go.Proofs.YtbckdfoapmjilaaGreatDoor.Sg (BxN)
set_option linter.unusedVariables false
set_option linter.unusedSimpArgs false

/-- Store. -/
structure DStore where
  live : (List DPgState)
  kept : (List DPgState)
instance : Inhabited DStore := ⟨⟨[], []⟩⟩
instance : Rdb DStore where
  size := 2
  sz := fun d => Rdb.sz d.live + Rdb.sz d.kept
  rd := fun fr lo w cs d => cs.length = 2 ∧ Rdb.rd fr lo w ((cs.drop 0).take 1) d.live ∧ Rdb.rd fr lo w ((cs.drop 1).take 1) d.kept
  len := fun h => h.1
  below := fun ⟨e, h0, h1⟩ b => ⟨e, Rdb.below h0 b, Rdb.below h1 b⟩
  far := fun ⟨e, h0, h1⟩ b => ⟨e, Rdb.far h0 b, Rdb.far h1 b⟩
  weak := fun ⟨e, h0, h1⟩ b c => ⟨e, Rdb.weak h0 b c, Rdb.weak h1 b c⟩
instance : Mkb DStore where
  swap := by
    rintro fr lo w cs d c v v' ⟨e, h0, h1⟩ hv s
    obtain ⟨d0, z0, r0⟩ := Mkb.field h0 hv s
    obtain ⟨d1, z1, r1⟩ := Mkb.field h1 hv s
    exact ⟨⟨d0, d1⟩, (by show Rdb.sz d0 + Rdb.sz d1 = Rdb.sz d.live + Rdb.sz d.kept; omega), by rw [List.length_set]; exact e, r0, r1⟩
  stir := by
    rintro fr lo w cs d p v v' ⟨e, h0, h1⟩ hp s
    obtain ⟨d0, z0, r0⟩ := Mkb.stir h0 hp s
    obtain ⟨d1, z1, r1⟩ := Mkb.stir h1 hp s
    exact ⟨⟨d0, d1⟩, (by show Rdb.sz d0 + Rdb.sz d1 = Rdb.sz d.live + Rdb.sz d.kept; omega), e, r0, r1⟩
  move := fun ⟨e, h0, h1⟩ sz hm => ⟨e, Mkb.move h0 sz hm, Mkb.move h1 sz hm⟩
theorem shape_Store {fr : Bool} {lo : Nat} {w : World} {cs : List Value} {d : DStore} (h : Rdb.rd fr lo w cs d) : ∃ (a0 : Option Addr) (c0 : Nat) (a1 : Option Addr) (c1 : Nat), cs = [.slice a0 d.live.length c0, .slice a1 d.kept.length c1] ∧ Rows fr lo w a0 d.live ∧ (d.live.length ≤ 9223372036854775807 ∧ d.live.length ≤ c0) ∧ Rows fr lo w a1 d.kept ∧ (d.kept.length ≤ 9223372036854775807 ∧ d.kept.length ≤ c1) := by
  obtain ⟨e, h0, h1⟩ := h
  match cs, e with
  | [x0, x1], _ =>
    replace h0 : Rdb.rd fr lo w [x0] d.live := h0
    obtain ⟨g0, a0, c0, ⟨e0, z0⟩, f0⟩ := h0
    obtain rfl : x0 = .slice a0 d.live.length c0 := by simpa using e0
    replace h1 : Rdb.rd fr lo w [x1] d.kept := h1
    obtain ⟨g1, a1, c1, ⟨e1, z1⟩, f1⟩ := h1
    obtain rfl : x1 = .slice a1 d.kept.length c1 := by simpa using e1
    exact ⟨a0, c0, a1, c1, rfl, f0, ⟨g0, z0⟩, f1, ⟨g1, z1⟩⟩
theorem mk_Store {fr : Bool} {lo : Nat} {w : World} {d : DStore} {a0 : Option Addr} {c0 : Nat} {a1 : Option Addr} {c1 : Nat} (f0 : Rows fr lo w a0 d.live) (f1 : (d.live.length ≤ 9223372036854775807 ∧ d.live.length ≤ c0)) (f2 : Rows fr lo w a1 d.kept) (f3 : (d.kept.length ≤ 9223372036854775807 ∧ d.kept.length ≤ c1)) : Rdb.rd fr lo w [.slice a0 d.live.length c0, .slice a1 d.kept.length c1] d :=
  ⟨rfl, ⟨f1.1, _, _, ⟨rfl, f1.2⟩, f0⟩, ⟨f3.1, _, _, ⟨rfl, f3.2⟩, f2⟩⟩
theorem opens_Store {P : Program} {t : TypeId} {f0 f1 : Field} (hu : P.underlying t = some (.struct #[f0, f1])) (hC : P.cellsOf t = 2) (off : f0.offset = 0 ∧ f1.offset = 1) (h0 : Opens P f0.type (List DPgState)) (h1 : Opens P f1.type (List DPgState)) : Opens P t DStore := by
  obtain ⟨o0, o1⟩ := off
  refine ⟨hC, fun enc w base spare held fuel cs x h => ?_⟩
  obtain ⟨xs, n, _, _, hl, hlen, hg⟩ := DataW.trod_struct hu h
  match xs, hlen with
  | [y0, y1], _ =>
    have t0 := hg 0 f0 rfl
    rw [o0, h0.1] at t0
    obtain ⟨d0, r0⟩ := h0.2 _ _ _ _ _ _ _ y0 t0
    have t1 := hg 1 f1 rfl
    rw [o1, h1.1] at t1
    obtain ⟨d1, r1⟩ := h1.2 _ _ _ _ _ _ _ y1 t1
    exact ⟨⟨d0, d1⟩, hl.trans hC, r0, r1⟩

set_option maxRecDepth 100000 in
set_option maxHeartbeats 1000000 in
theorem szStore {cs : List Value} {fr : Bool} {lo : Nat} (d : DStore) (left : Int) (l0 : 0 ≤ left) (l1 : left ≤ 2097152) (w : World) (h : Rdb.rd fr lo w cs d) : Calls Tryz.prog 19 #[.agg cs.toArray, .int .i64 left] w (SzB left (Rdb.sz d) w) := by
  obtain ⟨a0_0, c0_0, a0_1, c0_1, rfl, f0_0, g0_0, f0_1, g0_1⟩ := shape_Store h
  have LH := Lib.hid (lay w (.cells #[.slice a0_0 d.live.length c0_0, .slice a0_1 d.kept.length c0_1] 56))
  have X := Lib.hid (BxN.new w #[.slice a0_0 d.live.length c0_0, .slice a0_1 d.kept.length c0_1] 56)
  have Z0 := Lib.hid (fun (lf : Int) (p0 : 0 ≤ lf) (p1 : lf ≤ 2097152) w' (b : Below w.heap.size w w') => szPgStateS a0_0 c0_0 d.live lf p0 p1 w' g0_0.1 (f0_0.below b))
  have Z1 := Lib.hid (fun (lf : Int) (p0 : 0 ≤ lf) (p1 : lf ≤ 2097152) w' (b : Below w.heap.size w w') => szPgStateS a0_1 c0_1 d.kept lf p0 p1 w' g0_1.1 (f0_1.below b))
  have E : Rdb.sz d = Rdb.sz d.live + Rdb.sz d.kept := rfl
  rw [E]
  clear E
  generalize Rdb.sz d.live = s0 at *
  generalize Rdb.sz d.kept = s1 at *
  clear f0_0 f0_1
  unfold SzB
  by_cases q0 : (s0 : Int) ≤ left
  · skip
    by_cases q1 : (s0 : Int) + (s1 : Int) ≤ left
    · rw [szI_yes (by omega), show left - ((s0 + s1 : Nat) : Int) = left - (s0 : Int) - (s1 : Int) by omega]
      go_enter Tryz.func19, Tryz.ntmps19
      have Y0 := Z0.out (left) (by omega) (by omega) _ LH.out
      rw [show (SzB (left) s0) = SzB (left) s0 from rfl] at Y0
      have y0 : szI (left) s0 = left - s0 := szI_yes (by omega)
      unfold SzB at Y0
      rw [y0] at Y0
      have Y0 := Lib.hid Y0
      clear y0
      go_wp2_with fail
      refine Y0.out.mono ?_
      rintro e w1 ⟨rfl, b1⟩
      have B1 := Lib.hid (chainX w (LH.out) b1)
      have XN := X.out.later b1
      have x1_0 := XN.cells 0 _ rfl
      have x1_1 := XN.cells 1 _ rfl
      have X1 := Lib.hid XN
      clear XN
      clear b1 Y0
      have Y1 := Z1.out (left - s0) (by omega) (by omega) _ B1.out
      rw [show (SzB (left - s0) s1) = SzB (left - s0) s1 from rfl] at Y1
      have y1 : szI (left - s0) s1 = left - s0 - s1 := szI_yes (by omega)
      unfold SzB at Y1
      rw [y1] at Y1
      have Y1 := Lib.hid Y1
      clear y1
      go_wp2_with fail
      refine Y1.out.mono ?_
      rintro e w2 ⟨rfl, b2⟩
      have B2 := Lib.hid (chainX w (B1.out) b2)
      have XN := X1.out.later b2
      have X2 := Lib.hid XN
      clear XN
      clear x1_0 x1_1
      clear b2 Y1
      go_wp2
      go_ret
      exact ⟨rfl, B2.out⟩
    · rw [szI_no (by omega)]
      go_enter Tryz.func19, Tryz.ntmps19
      have Y0 := Z0.out (left) (by omega) (by omega) _ LH.out
      rw [show (SzB (left) s0) = SzB (left) s0 from rfl] at Y0
      have y0 : szI (left) s0 = left - s0 := szI_yes (by omega)
      unfold SzB at Y0
      rw [y0] at Y0
      have Y0 := Lib.hid Y0
      clear y0
      go_wp2_with fail
      refine Y0.out.mono ?_
      rintro e w1 ⟨rfl, b1⟩
      have B1 := Lib.hid (chainX w (LH.out) b1)
      have XN := X.out.later b1
      have x1_0 := XN.cells 0 _ rfl
      have x1_1 := XN.cells 1 _ rfl
      have X1 := Lib.hid XN
      clear XN
      clear b1 Y0
      have Y1 := Z1.out (left - s0) (by omega) (by omega) _ B1.out
      rw [show (SzB (left - s0) s1) = SzB (left - s0) s1 from rfl] at Y1
      have y1 : szI (left - s0) s1 = -1 := szI_no (by omega)
      unfold SzB at Y1
      rw [y1] at Y1
      have Y1 := Lib.hid Y1
      clear y1
      go_wp2_with fail
      refine Y1.out.mono ?_
      rintro e w2 ⟨rfl, b2⟩
      have B2 := Lib.hid (chainX w (B1.out) b2)
      have XN := X1.out.later b2
      have X2 := Lib.hid XN
      clear XN
      clear x1_0 x1_1
      clear b2 Y1
      go_wp2
      go_ret
      exact ⟨rfl, B2.out⟩
  · rw [szI_no (by omega)]
    go_enter Tryz.func19, Tryz.ntmps19
    have Y0 := Z0.out (left) (by omega) (by omega) _ LH.out
    rw [show (SzB (left) s0) = SzB (left) s0 from rfl] at Y0
    have y0 : szI (left) s0 = -1 := szI_no (by omega)
    unfold SzB at Y0
    rw [y0] at Y0
    have Y0 := Lib.hid Y0
    clear y0
    go_wp2_with fail
    refine Y0.out.mono ?_
    rintro e w1 ⟨rfl, b1⟩
    have B1 := Lib.hid (chainX w (LH.out) b1)
    have XN := X.out.later b1
    have X1 := Lib.hid XN
    clear XN
    clear b1 Y0
    go_wp2
    go_ret
    exact ⟨rfl, B1.out⟩

set_option maxRecDepth 100000 in
set_option maxHeartbeats 1000000 in
theorem toStore {cs : List Value} {fr : Bool} {lo : Nat} (d : DStore) (w : World) (hs : Rdb.sz d ≤ 2097152) (h : Rdb.rd fr lo w cs d) : Calls Tryz.prog 21 #[.agg cs.toArray] w (StC d w) := by
  obtain ⟨a0_0, c0_0, a0_1, c0_1, rfl, f0_0, g0_0, f0_1, g0_1⟩ := shape_Store h
  have BH := Lib.hid (show Below w.heap.size w (((w.alloc (.cells #[.slice a0_0 d.live.length c0_0, .slice a0_1 d.kept.length c0_1] 56)).alloc (.cells #[.slice none 0 0, .slice none 0 0] 61)).alloc (.cells #[.slice none 0 0, .slice none 0 0] 61)) from chain (chain (lay w _) (lay _ _)) (lay _ _))
  have XH := Lib.hid (((BxN.new w #[.slice a0_0 d.live.length c0_0, .slice a0_1 d.kept.length c0_1] 56).later (lay _ (.cells #[.slice none 0 0, .slice none 0 0] 61))).later (lay _ (.cells #[.slice none 0 0, .slice none 0 0] 61)))
  have Y0 := (BxN.new (w.alloc (.cells #[.slice a0_0 d.live.length c0_0, .slice a0_1 d.kept.length c0_1] 56)) #[.slice none 0 0, .slice none 0 0] 61).later (lay _ (.cells #[.slice none 0 0, .slice none 0 0] 61))
  have Z0 := BxN.new ((w.alloc (.cells #[.slice a0_0 d.live.length c0_0, .slice a0_1 d.kept.length c0_1] 56)).alloc (.cells #[.slice none 0 0, .slice none 0 0] 61)) #[.slice none 0 0, .slice none 0 0] 61
  simp only [World.size_alloc] at Y0 Z0
  have YH := Lib.hid Y0
  have ZH := Lib.hid Z0
  clear Y0 Z0
  have SH : w.heap.size + 3 ≤ (((w.alloc (.cells #[.slice a0_0 d.live.length c0_0, .slice a0_1 d.kept.length c0_1] 56)).alloc (.cells #[.slice none 0 0, .slice none 0 0] 61)).alloc (.cells #[.slice none 0 0, .slice none 0 0] 61)).heap.size := by simp only [World.size_alloc]; omega
  have SH := Lib.hid SH
  have E : Rdb.sz d = Rdb.sz d.live + Rdb.sz d.kept := rfl
  have C0 := Lib.hid (fun w' (b : Below w.heap.size w w') => toPgStateS a0_0 c0_0 d.live w' (by omega) (f0_0.below b))
  have C1 := Lib.hid (fun w' (b : Below w.heap.size w w') => toPgStateS a0_1 c0_1 d.kept w' (by omega) (f0_1.below b))
  clear E f0_0 f0_1
  go_enter Tryz.func21, Tryz.ntmps21
  go_wp2_with fail
  refine (C0.out _ BH.out).mono ?_
  rintro e w1 ⟨q1, rfl, r1, -, -, -, b1⟩
  have XL := XH.out.later b1
  have ZL := ZH.out.later b1
  have YL := YH.out.later b1
  have SL : w.heap.size + 3 ≤ w1.heap.size := Nat.le_trans SH.out b1.size
  have BL := chainX w BH.out b1
  have z1_0 := ZL.cells 0 _ rfl
  have zf1_0 := ZL.free 0
  have Z1H := Lib.hid (ZL.put 0 (by simp) (.slice (some ⟨q1, 0, none⟩) d.live.length d.live.length))
  have X1H := Lib.hid (XL.far (p := ⟨w.heap.size + 1 + 1, 0, none⟩) (by show w.heap.size + 1 + 1 ≠ w.heap.size; omega) (.slice (some ⟨q1, 0, none⟩) d.live.length d.live.length))
  have Y1H := Lib.hid (YL.far (p := ⟨w.heap.size + 1 + 1, 0, none⟩) (by show w.heap.size + 1 + 1 ≠ w.heap.size + 1; omega) (.slice (some ⟨q1, 0, none⟩) d.live.length d.live.length))
  have B1H := Lib.hid (BL.setCell (p := ⟨w.heap.size + 1 + 1, 0, none⟩) (by show _ ≤ w.heap.size + 1 + 1; omega) (.slice (some ⟨q1, 0, none⟩) d.live.length d.live.length))
  have R_r1 := Lib.hid (Rows.far (p := ⟨w.heap.size + 1 + 1, 0, none⟩) (v := .slice (some ⟨q1, 0, none⟩) d.live.length d.live.length) (r1.weak SH.out id) (by show w.heap.size + 1 + 1 < w.heap.size + 3; omega))
  have S1H := Lib.hid (show w.heap.size + 3 ≤ (w1.setCell ⟨w.heap.size + 1 + 1, 0, none⟩ (.slice (some ⟨q1, 0, none⟩) d.live.length d.live.length)).heap.size by simpa using SL)
  clear XL ZL YL BL SL b1 r1 XH YH ZH BH SH
  have x1_0 := X1H.out.cells 0 _ rfl
  have x1_1 := X1H.out.cells 1 _ rfl
  go_wp2_with fail
  refine (C1.out _ B1H.out).mono ?_
  rintro e w2 ⟨q2, rfl, r2, -, -, -, b2⟩
  have XL := X1H.out.later b2
  have ZL := Z1H.out.later b2
  have YL := Y1H.out.later b2
  have SL : w.heap.size + 3 ≤ w2.heap.size := Nat.le_trans S1H.out b2.size
  have BL := chainX w B1H.out b2
  have z2_1 := ZL.cells 1 _ rfl
  have zf2_1 := ZL.free 1
  have Z2H := Lib.hid (ZL.put 1 (by simp) (.slice (some ⟨q2, 0, none⟩) d.kept.length d.kept.length))
  have X2H := Lib.hid (XL.far (p := ⟨w.heap.size + 1 + 1, 1, none⟩) (by show w.heap.size + 1 + 1 ≠ w.heap.size; omega) (.slice (some ⟨q2, 0, none⟩) d.kept.length d.kept.length))
  have Y2H := Lib.hid (YL.far (p := ⟨w.heap.size + 1 + 1, 1, none⟩) (by show w.heap.size + 1 + 1 ≠ w.heap.size + 1; omega) (.slice (some ⟨q2, 0, none⟩) d.kept.length d.kept.length))
  have B2H := Lib.hid (BL.setCell (p := ⟨w.heap.size + 1 + 1, 1, none⟩) (by show _ ≤ w.heap.size + 1 + 1; omega) (.slice (some ⟨q2, 0, none⟩) d.kept.length d.kept.length))
  have R_r1 := Lib.hid (Rows.far (p := ⟨w.heap.size + 1 + 1, 1, none⟩) (v := .slice (some ⟨q2, 0, none⟩) d.kept.length d.kept.length) (R_r1.out.below b2) (by show w.heap.size + 1 + 1 < w.heap.size + 3; omega))
  have R_r2 := Lib.hid (Rows.far (p := ⟨w.heap.size + 1 + 1, 1, none⟩) (v := .slice (some ⟨q2, 0, none⟩) d.kept.length d.kept.length) (r2.weak S1H.out id) (by show w.heap.size + 1 + 1 < w.heap.size + 3; omega))
  have S2H := Lib.hid (show w.heap.size + 3 ≤ (w2.setCell ⟨w.heap.size + 1 + 1, 1, none⟩ (.slice (some ⟨q2, 0, none⟩) d.kept.length d.kept.length)).heap.size by simpa using SL)
  clear XL ZL YL BL SL b2 r2 X1H Y1H Z1H B1H S1H
  have m0 := Z2H.out.cells 0 _ rfl
  have y0 := Y2H.out.cells 0 _ rfl
  have yf0 := Y2H.out.free 0
  have m1 := Z2H.out.cells 1 _ rfl
  have y1 := Y2H.out.cells 1 _ rfl
  have yf1 := Y2H.out.free 1
  have F : StC d w (.returned (.agg #[.slice (some ⟨q1, 0, none⟩) d.live.length d.live.length, .slice (some ⟨q2, 0, none⟩) d.kept.length d.kept.length])) (((w2.setCell ⟨w.heap.size + 1 + 1, 1, none⟩ (.slice (some ⟨q2, 0, none⟩) d.kept.length d.kept.length)).setCell ⟨w.heap.size + 1, 0, none⟩ (.slice (some ⟨q1, 0, none⟩) d.live.length d.live.length)).setCell ⟨w.heap.size + 1, 1, none⟩ (.slice (some ⟨q2, 0, none⟩) d.kept.length d.kept.length)) := ⟨_, rfl, mk_Store ((Rows.far (p := ⟨w.heap.size + 1, 1, none⟩) (v := .slice (some ⟨q2, 0, none⟩) d.kept.length d.kept.length) (Rows.far (p := ⟨w.heap.size + 1, 0, none⟩) (v := .slice (some ⟨q1, 0, none⟩) d.live.length d.live.length) R_r1.out (by show w.heap.size + 1 < w.heap.size + 3; omega)) (by show w.heap.size + 1 < w.heap.size + 3; omega)).weak (by omega) id) ⟨g0_0.1, Nat.le_refl _⟩ ((Rows.far (p := ⟨w.heap.size + 1, 1, none⟩) (v := .slice (some ⟨q2, 0, none⟩) d.kept.length d.kept.length) (Rows.far (p := ⟨w.heap.size + 1, 0, none⟩) (v := .slice (some ⟨q1, 0, none⟩) d.live.length d.live.length) R_r2.out (by show w.heap.size + 1 < w.heap.size + 3; omega)) (by show w.heap.size + 1 < w.heap.size + 3; omega)).weak (by omega) id) ⟨g0_1.1, Nat.le_refl _⟩, ((B2H.out.setCell (p := ⟨w.heap.size + 1, 0, none⟩) (by show _ ≤ w.heap.size + 1; omega) (.slice (some ⟨q1, 0, none⟩) d.live.length d.live.length)).setCell (p := ⟨w.heap.size + 1, 1, none⟩) (by show _ ≤ w.heap.size + 1; omega) (.slice (some ⟨q2, 0, none⟩) d.kept.length d.kept.length))⟩
  have F := Lib.hid F
  clear X2H Z2H Y2H B2H R_r1 R_r2
  go_wp2
  exact bodyPost_ret (v := .agg #[.slice (some ⟨q1, 0, none⟩) d.live.length d.live.length, .slice (some ⟨q2, 0, none⟩) d.kept.length d.kept.length]) (by simp [results, Tryz.results21, go_sem, *]) rfl F.out

set_option maxRecDepth 100000 in
set_option maxHeartbeats 1000000 in
theorem eqStore {cs ds : List Value} {fr fr2 : Bool} {lo lo2 : Nat} (d : DStore) (w : World) (hs : Rdb.sz d ≤ 2097152) (h : Rdb.rd fr lo w cs d) (k : Rdb.rd fr2 lo2 w ds d) : Calls Tryz.prog 23 #[.agg cs.toArray, .agg ds.toArray] w (TrueW w) := by
  obtain ⟨a0_0, c0_0, a0_1, c0_1, rfl, f0_0, g0_0, f0_1, g0_1⟩ := shape_Store h
  obtain ⟨a1_0, c1_0, a1_1, c1_1, rfl, f1_0, g1_0, f1_1, g1_1⟩ := shape_Store k
  have BH := Lib.hid (chain (lay w (.cells #[.slice a0_0 d.live.length c0_0, .slice a0_1 d.kept.length c0_1] 61)) (lay _ (.cells #[.slice a1_0 d.live.length c1_0, .slice a1_1 d.kept.length c1_1] 61)))
  have XH := Lib.hid ((BxN.new w #[.slice a0_0 d.live.length c0_0, .slice a0_1 d.kept.length c0_1] 61).later (lay _ (.cells #[.slice a1_0 d.live.length c1_0, .slice a1_1 d.kept.length c1_1] 61)))
  have Y0 := BxN.new (w.alloc (.cells #[.slice a0_0 d.live.length c0_0, .slice a0_1 d.kept.length c0_1] 61)) #[.slice a1_0 d.live.length c1_0, .slice a1_1 d.kept.length c1_1] 61
  rw [World.size_alloc] at Y0
  have YH := Lib.hid Y0
  clear Y0
  have E : Rdb.sz d = Rdb.sz d.live + Rdb.sz d.kept := rfl
  have C0 := Lib.hid (fun w' (b : Below w.heap.size w w') => eqPgStateS a0_0 a1_0 c0_0 c1_0 d.live w' (by omega) (f0_0.below b) (f1_0.below b))
  have C1 := Lib.hid (fun w' (b : Below w.heap.size w w') => eqPgStateS a0_1 a1_1 c0_1 c1_1 d.kept w' (by omega) (f0_1.below b) (f1_1.below b))
  clear E f0_0 f1_0 f0_1 f1_1
  go_enter Tryz.func23, Tryz.ntmps23
  go_wp2_with fail
  refine (C0.out _ BH.out).mono ?_
  rintro e w1 ⟨rfl, b1⟩
  have B1H := Lib.hid (chainX w BH.out b1)
  have XL := XH.out.later b1
  have YL := YH.out.later b1
  have x1_0 := XL.cells 0 _ rfl
  have y1_0 := YL.cells 0 _ rfl
  have x1_1 := XL.cells 1 _ rfl
  have y1_1 := YL.cells 1 _ rfl
  have X1H := Lib.hid XL
  have Y1H := Lib.hid YL
  clear XL YL b1 XH YH
  go_wp2_with fail
  refine (C1.out _ B1H.out).mono ?_
  rintro e w2 ⟨rfl, b2⟩
  have B2H := Lib.hid (chainX w B1H.out b2)
  have XL := X1H.out.later b2
  have YL := Y1H.out.later b2
  have x2_0 := XL.cells 0 _ rfl
  have y2_0 := YL.cells 0 _ rfl
  have x2_1 := XL.cells 1 _ rfl
  have y2_1 := YL.cells 1 _ rfl
  have X2H := Lib.hid XL
  have Y2H := Lib.hid YL
  clear XL YL b2 X1H Y1H
  clear x1_0 y1_0 x1_1 y1_1
  go_wp2
  go_ret
  exact ⟨rfl, B2H.out⟩


theorem infoStore : (Tryz.prog.info? 61).map (fun i => (i.zero, i.size, i.bytes)) = some (some (.agg #[.slice none 0 0, .slice none 0 0]), 2, 48) := by kernel_rfl

end Go.Proofs.YtbckdfoapmjilaaGreatDoor.Rd
