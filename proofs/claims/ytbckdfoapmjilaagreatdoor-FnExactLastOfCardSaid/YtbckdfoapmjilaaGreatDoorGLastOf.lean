/-
  The exact law of FnExactLastOf, given the model's answer and the program's (written by tools/gen/lawgen.py).
-/
import Derived.Test.YtbckdfoapmjilaaGreatDoorDPgState
import Derived.Deep.RegionHeld3
namespace Go.Proofs.YtbckdfoapmjilaaGreatDoor.Rd
open Go.RowKit Go.ChangeShapes Go.WideShapes
open Go.Proofs.YtbckdfoapmjilaaGreatDoor.Sg (BxN)
set_option linter.unusedVariables false
set_option linter.unusedSimpArgs false

set_option maxRecDepth 100000 in
set_option maxHeartbeats 4000000 in
theorem fnFnExactLastOf {cs0 : List Value} (d0 : DPgState) (r : DVer) (w : World) (h0 : Rdb.rd false 0 w cs0 d0) (hp : ∀ w', Rdb.rd true 0 w' [.int .i64 r.epoch, .int .i64 r.seq] r) (hS : Rdb.sz d0 ≤ 1048576 → ∀ (es0 : List Value) w' (bw : Below w.heap.size w w') (k0 : Rdb.rd true 0 w' es0 d0), Calls Tryz.prog 12 #[.agg es0.toArray] w' (RetW (.agg #[.int .i64 r.epoch, .int .i64 r.seq]) w')) (hI : Rdb.sz d0 ≤ 1048576 → ∀ (es0 : List Value) w' (bw : Below w.heap.size w w') (k0 : Rdb.rd true 0 w' es0 d0), Calls Tryz.prog 13 #[.agg es0.toArray] w' (RetW (.agg #[.int .i64 r.epoch, .int .i64 r.seq]) w')) :
    Calls Tryz.prog 4 #[.agg cs0.toArray] w (RetW (.bool true) w) := by
  obtain ⟨a0_6, c0_6, a0_7, c0_7, a0_8, c0_8, a0_11, c0_11, rfl, f0_0, f0_1, f0_2, f0_3, f0_4, f0_5, f0_6, g0_6, f0_7, g0_7, f0_8, g0_8, f0_9, f0_10, f0_11, g0_11⟩ := shape_PgState h0
  have BH0 := Lib.hid (lay w (.cells #[.int .i64 d0.pg.pool, .int .i64 d0.pg.no, .int .i64 d0.seen, .int .i64 d0.started, .int .i64 d0.tail.epoch, .int .i64 d0.tail.seq, .slice a0_6 d0.base.length c0_6, .slice a0_7 d0.clients.length c0_7, .slice a0_8 d0.log.length c0_8, .int .i64 d0.firm.epoch, .int .i64 d0.firm.seq, .slice a0_11 d0.chunks.length c0_11] 31))
  have Q0 := BxN.new w #[.int .i64 d0.pg.pool, .int .i64 d0.pg.no, .int .i64 d0.seen, .int .i64 d0.started, .int .i64 d0.tail.epoch, .int .i64 d0.tail.seq, .slice a0_6 d0.base.length c0_6, .slice a0_7 d0.clients.length c0_7, .slice a0_8 d0.log.length c0_8, .int .i64 d0.firm.epoch, .int .i64 d0.firm.seq, .slice a0_11 d0.chunks.length c0_11] 31
  have XH0_0 := Lib.hid Q0
  clear Q0
  have SZ0 := Lib.hid (fun (lf : Int) (p0 : 0 ≤ lf) (p1 : lf ≤ 2097152) w' (b : Below w.heap.size w w') => szPgState d0 lf p0 p1 w' (mk_PgState (d := d0) (a6 := a0_6) (c6 := c0_6) (a7 := a0_7) (c7 := c0_7) (a8 := a0_8) (c8 := c0_8) (a11 := a0_11) (c11 := c0_11) f0_0 f0_1 f0_2 f0_3 f0_4 f0_5 (f0_6.below b) g0_6 (f0_7.below b) g0_7 (f0_8.below b) g0_8 f0_9 f0_10 (f0_11.below b) g0_11))
  have CP0 := Lib.hid (fun (z : Rdb.sz d0 ≤ 2097152) w' (b : Below w.heap.size w w') => toPgState d0 w' z (mk_PgState (d := d0) (a6 := a0_6) (c6 := c0_6) (a7 := a0_7) (c7 := c0_7) (a8 := a0_8) (c8 := c0_8) (a11 := a0_11) (c11 := c0_11) f0_0 f0_1 f0_2 f0_3 f0_4 f0_5 (f0_6.below b) g0_6 (f0_7.below b) g0_7 (f0_8.below b) g0_8 f0_9 f0_10 (f0_11.below b) g0_11))
  have EQ0 := Lib.hid (fun (z : Rdb.sz d0 ≤ 2097152) (cs ds : List Value) w' (k1 : Rdb.rd true 0 w' cs d0) (k2 : Rdb.rd true 0 w' ds d0) => eqPgState d0 w' z k1 k2)
  have HS := Lib.hid hS
  have HI := Lib.hid hI
  clear hS hI
  have EQP := Lib.hid (fun w' => eqVer (fr := true) (lo := 0) (fr2 := true) (lo2 := 0) r w' (show (0 : Nat) ≤ _ by omega) (hp w') (hp w'))
  clear hp
  clear f0_6 f0_7 f0_8 f0_11
  generalize hs0 : Rdb.sz d0 = s0 at *
  clear hs0
  by_cases q0 : (s0 : Int) ≤ 1048576
  · skip
    go_enter Tryz.func4, Tryz.ntmps4
    have V0 := SZ0.out (1048576) (by omega) (by omega) _ BH0.out
    unfold SzB at V0
    rw [show szI (1048576) s0 = 1048576 - (s0 : Int) from szI_yes (by omega)] at V0
    have VH0 := Lib.hid V0
    clear V0
    go_wp2_with fail
    refine (VH0.out).mono ?_
    rintro e w1 ⟨rfl, b1⟩
    have Q := XH0_0.out.later b1
    have cXH0_1_0 := Q.cells 0 _ rfl
    have cXH0_1_1 := Q.cells 1 _ rfl
    have cXH0_1_2 := Q.cells 2 _ rfl
    have cXH0_1_3 := Q.cells 3 _ rfl
    have cXH0_1_4 := Q.cells 4 _ rfl
    have cXH0_1_5 := Q.cells 5 _ rfl
    have cXH0_1_6 := Q.cells 6 _ rfl
    have cXH0_1_7 := Q.cells 7 _ rfl
    have cXH0_1_8 := Q.cells 8 _ rfl
    have cXH0_1_9 := Q.cells 9 _ rfl
    have cXH0_1_10 := Q.cells 10 _ rfl
    have cXH0_1_11 := Q.cells 11 _ rfl
    have XH0_1 := Lib.hid Q
    clear Q
    have BH1 := Lib.hid (chainX w BH0.out b1)
    clear XH0_0
    have CPx := True.intro
    go_wp2_with fail
    refine (CP0.out (by omega) _ BH1.out).mono ?_
    rintro e w2 ⟨ess0, rfl, rs0, b2⟩
    have Q := XH0_1.out.later b2
    have cXH0_2_0 := Q.cells 0 _ rfl
    have cXH0_2_1 := Q.cells 1 _ rfl
    have cXH0_2_2 := Q.cells 2 _ rfl
    have cXH0_2_3 := Q.cells 3 _ rfl
    have cXH0_2_4 := Q.cells 4 _ rfl
    have cXH0_2_5 := Q.cells 5 _ rfl
    have cXH0_2_6 := Q.cells 6 _ rfl
    have cXH0_2_7 := Q.cells 7 _ rfl
    have cXH0_2_8 := Q.cells 8 _ rfl
    have cXH0_2_9 := Q.cells 9 _ rfl
    have cXH0_2_10 := Q.cells 10 _ rfl
    have cXH0_2_11 := Q.cells 11 _ rfl
    have XH0_2 := Lib.hid Q
    clear Q
    have BH2 := Lib.hid (chainX w BH1.out b2)
    clear XH0_1 cXH0_1_0 cXH0_1_1 cXH0_1_2 cXH0_1_3 cXH0_1_4 cXH0_1_5 cXH0_1_6 cXH0_1_7 cXH0_1_8 cXH0_1_9 cXH0_1_10 cXH0_1_11
    have RRs0_2 := Lib.hid (Rdb.weak rs0 (Nat.zero_le _) id)
    obtain ⟨avs0_6, cvs0_6, avs0_7, cvs0_7, avs0_8, cvs0_8, avs0_11, cvs0_11, rfl, fvs0_0, fvs0_1, fvs0_2, fvs0_3, fvs0_4, fvs0_5, fvs0_6, gvs0_6, fvs0_7, gvs0_7, fvs0_8, gvs0_8, fvs0_9, fvs0_10, fvs0_11, gvs0_11⟩ := shape_PgState rs0
    clear rs0 fvs0_6 fvs0_7 fvs0_8 fvs0_11
    have ANS := Lib.hid (HS.out (by omega) ([.int .i64 d0.pg.pool, .int .i64 d0.pg.no, .int .i64 d0.seen, .int .i64 d0.started, .int .i64 d0.tail.epoch, .int .i64 d0.tail.seq, .slice avs0_6 d0.base.length cvs0_6, .slice avs0_7 d0.clients.length cvs0_7, .slice avs0_8 d0.log.length cvs0_8, .int .i64 d0.firm.epoch, .int .i64 d0.firm.seq, .slice avs0_11 d0.chunks.length cvs0_11]) _ BH2.out RRs0_2.out)
    go_wp2_with fail
    refine (ANS.out).mono ?_
    rintro e w3 ⟨rfl, b3⟩
    have Q := XH0_2.out.later b3
    have cXH0_3_0 := Q.cells 0 _ rfl
    have cXH0_3_1 := Q.cells 1 _ rfl
    have cXH0_3_2 := Q.cells 2 _ rfl
    have cXH0_3_3 := Q.cells 3 _ rfl
    have cXH0_3_4 := Q.cells 4 _ rfl
    have cXH0_3_5 := Q.cells 5 _ rfl
    have cXH0_3_6 := Q.cells 6 _ rfl
    have cXH0_3_7 := Q.cells 7 _ rfl
    have cXH0_3_8 := Q.cells 8 _ rfl
    have cXH0_3_9 := Q.cells 9 _ rfl
    have cXH0_3_10 := Q.cells 10 _ rfl
    have cXH0_3_11 := Q.cells 11 _ rfl
    have XH0_3 := Lib.hid Q
    clear Q
    have RRs0_3 := Lib.hid (Rdb.below RRs0_2.out b3)
    have BH3 := Lib.hid (chainX w BH2.out b3)
    clear XH0_2 cXH0_2_0 cXH0_2_1 cXH0_2_2 cXH0_2_3 cXH0_2_4 cXH0_2_5 cXH0_2_6 cXH0_2_7 cXH0_2_8 cXH0_2_9 cXH0_2_10 cXH0_2_11 RRs0_2
    clear ANS
    have LY := lay w3 (.cells #[.int .i64 r.epoch, .int .i64 r.seq] 35)
    have YN := BxN.new w3 #[.int .i64 r.epoch, .int .i64 r.seq] 35
    have Q := XH0_3.out.later LY
    have cXH0_4_0 := Q.cells 0 _ rfl
    have cXH0_4_1 := Q.cells 1 _ rfl
    have cXH0_4_2 := Q.cells 2 _ rfl
    have cXH0_4_3 := Q.cells 3 _ rfl
    have cXH0_4_4 := Q.cells 4 _ rfl
    have cXH0_4_5 := Q.cells 5 _ rfl
    have cXH0_4_6 := Q.cells 6 _ rfl
    have cXH0_4_7 := Q.cells 7 _ rfl
    have cXH0_4_8 := Q.cells 8 _ rfl
    have cXH0_4_9 := Q.cells 9 _ rfl
    have cXH0_4_10 := Q.cells 10 _ rfl
    have cXH0_4_11 := Q.cells 11 _ rfl
    have XH0_4 := Lib.hid Q
    clear Q
    have cYW_4_0 := YN.cells 0 _ rfl
    have cYW_4_1 := YN.cells 1 _ rfl
    have YW_4 := Lib.hid YN
    have BH4 := Lib.hid (chainX w BH3.out LY)
    clear XH0_3 cXH0_3_0 cXH0_3_1 cXH0_3_2 cXH0_3_3 cXH0_3_4 cXH0_3_5 cXH0_3_6 cXH0_3_7 cXH0_3_8 cXH0_3_9 cXH0_3_10 cXH0_3_11
    clear LY YN
    go_wp2_with fail
    refine (CP0.out (by omega) _ BH4.out).mono ?_
    rintro e w5 ⟨esi0, rfl, ri0, b5⟩
    have Q := XH0_4.out.later b5
    have cXH0_5_0 := Q.cells 0 _ rfl
    have cXH0_5_1 := Q.cells 1 _ rfl
    have cXH0_5_2 := Q.cells 2 _ rfl
    have cXH0_5_3 := Q.cells 3 _ rfl
    have cXH0_5_4 := Q.cells 4 _ rfl
    have cXH0_5_5 := Q.cells 5 _ rfl
    have cXH0_5_6 := Q.cells 6 _ rfl
    have cXH0_5_7 := Q.cells 7 _ rfl
    have cXH0_5_8 := Q.cells 8 _ rfl
    have cXH0_5_9 := Q.cells 9 _ rfl
    have cXH0_5_10 := Q.cells 10 _ rfl
    have cXH0_5_11 := Q.cells 11 _ rfl
    have XH0_5 := Lib.hid Q
    clear Q
    have Q := YW_4.out.later b5
    have cYW_5_0 := Q.cells 0 _ rfl
    have cYW_5_1 := Q.cells 1 _ rfl
    have YW_5 := Lib.hid Q
    clear Q
    have BH5 := Lib.hid (chainX w BH4.out b5)
    clear XH0_4 YW_4 cXH0_4_0 cXH0_4_1 cXH0_4_2 cXH0_4_3 cXH0_4_4 cXH0_4_5 cXH0_4_6 cXH0_4_7 cXH0_4_8 cXH0_4_9 cXH0_4_10 cXH0_4_11 cYW_4_0 cYW_4_1
    have RRi0_5 := Lib.hid (Rdb.weak ri0 (Nat.zero_le _) id)
    obtain ⟨avi0_6, cvi0_6, avi0_7, cvi0_7, avi0_8, cvi0_8, avi0_11, cvi0_11, rfl, fvi0_0, fvi0_1, fvi0_2, fvi0_3, fvi0_4, fvi0_5, fvi0_6, gvi0_6, fvi0_7, gvi0_7, fvi0_8, gvi0_8, fvi0_9, fvi0_10, fvi0_11, gvi0_11⟩ := shape_PgState ri0
    clear ri0 fvi0_6 fvi0_7 fvi0_8 fvi0_11
    have LY := lay w5 (.cells #[.int .i64 d0.pg.pool, .int .i64 d0.pg.no, .int .i64 d0.seen, .int .i64 d0.started, .int .i64 d0.tail.epoch, .int .i64 d0.tail.seq, .slice avi0_6 d0.base.length cvi0_6, .slice avi0_7 d0.clients.length cvi0_7, .slice avi0_8 d0.log.length cvi0_8, .int .i64 d0.firm.epoch, .int .i64 d0.firm.seq, .slice avi0_11 d0.chunks.length cvi0_11] 41)
    have YN := BxN.new w5 #[.int .i64 d0.pg.pool, .int .i64 d0.pg.no, .int .i64 d0.seen, .int .i64 d0.started, .int .i64 d0.tail.epoch, .int .i64 d0.tail.seq, .slice avi0_6 d0.base.length cvi0_6, .slice avi0_7 d0.clients.length cvi0_7, .slice avi0_8 d0.log.length cvi0_8, .int .i64 d0.firm.epoch, .int .i64 d0.firm.seq, .slice avi0_11 d0.chunks.length cvi0_11] 41
    have Q := XH0_5.out.later LY
    have cXH0_6_0 := Q.cells 0 _ rfl
    have cXH0_6_1 := Q.cells 1 _ rfl
    have cXH0_6_2 := Q.cells 2 _ rfl
    have cXH0_6_3 := Q.cells 3 _ rfl
    have cXH0_6_4 := Q.cells 4 _ rfl
    have cXH0_6_5 := Q.cells 5 _ rfl
    have cXH0_6_6 := Q.cells 6 _ rfl
    have cXH0_6_7 := Q.cells 7 _ rfl
    have cXH0_6_8 := Q.cells 8 _ rfl
    have cXH0_6_9 := Q.cells 9 _ rfl
    have cXH0_6_10 := Q.cells 10 _ rfl
    have cXH0_6_11 := Q.cells 11 _ rfl
    have XH0_6 := Lib.hid Q
    clear Q
    have Q := YW_5.out.later LY
    have cYW_6_0 := Q.cells 0 _ rfl
    have cYW_6_1 := Q.cells 1 _ rfl
    have YW_6 := Lib.hid Q
    clear Q
    have RRi0_6 := Lib.hid (Rdb.below RRi0_5.out LY)
    have cYH0_6_0 := YN.cells 0 _ rfl
    have cYH0_6_1 := YN.cells 1 _ rfl
    have cYH0_6_2 := YN.cells 2 _ rfl
    have cYH0_6_3 := YN.cells 3 _ rfl
    have cYH0_6_4 := YN.cells 4 _ rfl
    have cYH0_6_5 := YN.cells 5 _ rfl
    have cYH0_6_6 := YN.cells 6 _ rfl
    have cYH0_6_7 := YN.cells 7 _ rfl
    have cYH0_6_8 := YN.cells 8 _ rfl
    have cYH0_6_9 := YN.cells 9 _ rfl
    have cYH0_6_10 := YN.cells 10 _ rfl
    have cYH0_6_11 := YN.cells 11 _ rfl
    have YH0_6 := Lib.hid YN
    have BH6 := Lib.hid (chainX w BH5.out LY)
    clear XH0_5 YW_5 cXH0_5_0 cXH0_5_1 cXH0_5_2 cXH0_5_3 cXH0_5_4 cXH0_5_5 cXH0_5_6 cXH0_5_7 cXH0_5_8 cXH0_5_9 cXH0_5_10 cXH0_5_11 cYW_5_0 cYW_5_1 RRi0_5
    clear LY YN
    have ANS := Lib.hid (HI.out (by omega) ([.int .i64 d0.pg.pool, .int .i64 d0.pg.no, .int .i64 d0.seen, .int .i64 d0.started, .int .i64 d0.tail.epoch, .int .i64 d0.tail.seq, .slice avi0_6 d0.base.length cvi0_6, .slice avi0_7 d0.clients.length cvi0_7, .slice avi0_8 d0.log.length cvi0_8, .int .i64 d0.firm.epoch, .int .i64 d0.firm.seq, .slice avi0_11 d0.chunks.length cvi0_11]) _ BH6.out RRi0_6.out)
    go_wp2_with fail
    refine (ANS.out).mono ?_
    rintro e w7 ⟨rfl, b7⟩
    have Q := XH0_6.out.later b7
    have cXH0_7_0 := Q.cells 0 _ rfl
    have cXH0_7_1 := Q.cells 1 _ rfl
    have cXH0_7_2 := Q.cells 2 _ rfl
    have cXH0_7_3 := Q.cells 3 _ rfl
    have cXH0_7_4 := Q.cells 4 _ rfl
    have cXH0_7_5 := Q.cells 5 _ rfl
    have cXH0_7_6 := Q.cells 6 _ rfl
    have cXH0_7_7 := Q.cells 7 _ rfl
    have cXH0_7_8 := Q.cells 8 _ rfl
    have cXH0_7_9 := Q.cells 9 _ rfl
    have cXH0_7_10 := Q.cells 10 _ rfl
    have cXH0_7_11 := Q.cells 11 _ rfl
    have XH0_7 := Lib.hid Q
    clear Q
    have Q := YW_6.out.later b7
    have cYW_7_0 := Q.cells 0 _ rfl
    have cYW_7_1 := Q.cells 1 _ rfl
    have YW_7 := Lib.hid Q
    clear Q
    have Q := YH0_6.out.later b7
    have cYH0_7_0 := Q.cells 0 _ rfl
    have cYH0_7_1 := Q.cells 1 _ rfl
    have cYH0_7_2 := Q.cells 2 _ rfl
    have cYH0_7_3 := Q.cells 3 _ rfl
    have cYH0_7_4 := Q.cells 4 _ rfl
    have cYH0_7_5 := Q.cells 5 _ rfl
    have cYH0_7_6 := Q.cells 6 _ rfl
    have cYH0_7_7 := Q.cells 7 _ rfl
    have cYH0_7_8 := Q.cells 8 _ rfl
    have cYH0_7_9 := Q.cells 9 _ rfl
    have cYH0_7_10 := Q.cells 10 _ rfl
    have cYH0_7_11 := Q.cells 11 _ rfl
    have YH0_7 := Lib.hid Q
    clear Q
    have RRi0_7 := Lib.hid (Rdb.below RRi0_6.out b7)
    have BH7 := Lib.hid (chainX w BH6.out b7)
    clear XH0_6 YW_6 YH0_6 cXH0_6_0 cXH0_6_1 cXH0_6_2 cXH0_6_3 cXH0_6_4 cXH0_6_5 cXH0_6_6 cXH0_6_7 cXH0_6_8 cXH0_6_9 cXH0_6_10 cXH0_6_11 cYW_6_0 cYW_6_1 cYH0_6_0 cYH0_6_1 cYH0_6_2 cYH0_6_3 cYH0_6_4 cYH0_6_5 cYH0_6_6 cYH0_6_7 cYH0_6_8 cYH0_6_9 cYH0_6_10 cYH0_6_11 RRi0_6
    clear ANS
    have LY := lay w7 (.cells #[.int .i64 r.epoch, .int .i64 r.seq] 35)
    have YN := BxN.new w7 #[.int .i64 r.epoch, .int .i64 r.seq] 35
    have Q := XH0_7.out.later LY
    have cXH0_8_0 := Q.cells 0 _ rfl
    have cXH0_8_1 := Q.cells 1 _ rfl
    have cXH0_8_2 := Q.cells 2 _ rfl
    have cXH0_8_3 := Q.cells 3 _ rfl
    have cXH0_8_4 := Q.cells 4 _ rfl
    have cXH0_8_5 := Q.cells 5 _ rfl
    have cXH0_8_6 := Q.cells 6 _ rfl
    have cXH0_8_7 := Q.cells 7 _ rfl
    have cXH0_8_8 := Q.cells 8 _ rfl
    have cXH0_8_9 := Q.cells 9 _ rfl
    have cXH0_8_10 := Q.cells 10 _ rfl
    have cXH0_8_11 := Q.cells 11 _ rfl
    have XH0_8 := Lib.hid Q
    clear Q
    have Q := YW_7.out.later LY
    have cYW_8_0 := Q.cells 0 _ rfl
    have cYW_8_1 := Q.cells 1 _ rfl
    have YW_8 := Lib.hid Q
    clear Q
    have Q := YH0_7.out.later LY
    have cYH0_8_0 := Q.cells 0 _ rfl
    have cYH0_8_1 := Q.cells 1 _ rfl
    have cYH0_8_2 := Q.cells 2 _ rfl
    have cYH0_8_3 := Q.cells 3 _ rfl
    have cYH0_8_4 := Q.cells 4 _ rfl
    have cYH0_8_5 := Q.cells 5 _ rfl
    have cYH0_8_6 := Q.cells 6 _ rfl
    have cYH0_8_7 := Q.cells 7 _ rfl
    have cYH0_8_8 := Q.cells 8 _ rfl
    have cYH0_8_9 := Q.cells 9 _ rfl
    have cYH0_8_10 := Q.cells 10 _ rfl
    have cYH0_8_11 := Q.cells 11 _ rfl
    have YH0_8 := Lib.hid Q
    clear Q
    have RRi0_8 := Lib.hid (Rdb.below RRi0_7.out LY)
    have cYG_8_0 := YN.cells 0 _ rfl
    have cYG_8_1 := YN.cells 1 _ rfl
    have YG_8 := Lib.hid YN
    have BH8 := Lib.hid (chainX w BH7.out LY)
    clear XH0_7 YW_7 YH0_7 cXH0_7_0 cXH0_7_1 cXH0_7_2 cXH0_7_3 cXH0_7_4 cXH0_7_5 cXH0_7_6 cXH0_7_7 cXH0_7_8 cXH0_7_9 cXH0_7_10 cXH0_7_11 cYW_7_0 cYW_7_1 cYH0_7_0 cYH0_7_1 cYH0_7_2 cYH0_7_3 cYH0_7_4 cYH0_7_5 cYH0_7_6 cYH0_7_7 cYH0_7_8 cYH0_7_9 cYH0_7_10 cYH0_7_11 RRi0_7
    clear LY YN
    go_wp2_with fail
    refine (EQP.out _).mono ?_
    rintro e w9 ⟨rfl, b9⟩
    have Q := XH0_8.out.later b9
    have cXH0_9_0 := Q.cells 0 _ rfl
    have cXH0_9_1 := Q.cells 1 _ rfl
    have cXH0_9_2 := Q.cells 2 _ rfl
    have cXH0_9_3 := Q.cells 3 _ rfl
    have cXH0_9_4 := Q.cells 4 _ rfl
    have cXH0_9_5 := Q.cells 5 _ rfl
    have cXH0_9_6 := Q.cells 6 _ rfl
    have cXH0_9_7 := Q.cells 7 _ rfl
    have cXH0_9_8 := Q.cells 8 _ rfl
    have cXH0_9_9 := Q.cells 9 _ rfl
    have cXH0_9_10 := Q.cells 10 _ rfl
    have cXH0_9_11 := Q.cells 11 _ rfl
    have XH0_9 := Lib.hid Q
    clear Q
    have Q := YW_8.out.later b9
    have cYW_9_0 := Q.cells 0 _ rfl
    have cYW_9_1 := Q.cells 1 _ rfl
    have YW_9 := Lib.hid Q
    clear Q
    have Q := YH0_8.out.later b9
    have cYH0_9_0 := Q.cells 0 _ rfl
    have cYH0_9_1 := Q.cells 1 _ rfl
    have cYH0_9_2 := Q.cells 2 _ rfl
    have cYH0_9_3 := Q.cells 3 _ rfl
    have cYH0_9_4 := Q.cells 4 _ rfl
    have cYH0_9_5 := Q.cells 5 _ rfl
    have cYH0_9_6 := Q.cells 6 _ rfl
    have cYH0_9_7 := Q.cells 7 _ rfl
    have cYH0_9_8 := Q.cells 8 _ rfl
    have cYH0_9_9 := Q.cells 9 _ rfl
    have cYH0_9_10 := Q.cells 10 _ rfl
    have cYH0_9_11 := Q.cells 11 _ rfl
    have YH0_9 := Lib.hid Q
    clear Q
    have Q := YG_8.out.later b9
    have cYG_9_0 := Q.cells 0 _ rfl
    have cYG_9_1 := Q.cells 1 _ rfl
    have YG_9 := Lib.hid Q
    clear Q
    have RRi0_9 := Lib.hid (Rdb.below RRi0_8.out b9)
    have BH9 := Lib.hid (chainX w BH8.out b9)
    clear XH0_8 YW_8 YH0_8 YG_8 cXH0_8_0 cXH0_8_1 cXH0_8_2 cXH0_8_3 cXH0_8_4 cXH0_8_5 cXH0_8_6 cXH0_8_7 cXH0_8_8 cXH0_8_9 cXH0_8_10 cXH0_8_11 cYW_8_0 cYW_8_1 cYH0_8_0 cYH0_8_1 cYH0_8_2 cYH0_8_3 cYH0_8_4 cYH0_8_5 cYH0_8_6 cYH0_8_7 cYH0_8_8 cYH0_8_9 cYH0_8_10 cYH0_8_11 cYG_8_0 cYG_8_1 RRi0_8
    go_wp2_with fail
    go_region_held3 (fun w' => w'.cell? ⟨w.heap.size, 0, none⟩ = some (.int .i64 d0.pg.pool) ∧ w'.cell? ⟨w.heap.size, 1, none⟩ = some (.int .i64 d0.pg.no) ∧ w'.cell? ⟨w.heap.size, 2, none⟩ = some (.int .i64 d0.seen) ∧ w'.cell? ⟨w.heap.size, 3, none⟩ = some (.int .i64 d0.started) ∧ w'.cell? ⟨w.heap.size, 4, none⟩ = some (.int .i64 d0.tail.epoch) ∧ w'.cell? ⟨w.heap.size, 5, none⟩ = some (.int .i64 d0.tail.seq) ∧ w'.cell? ⟨w.heap.size, 6, none⟩ = some (.slice a0_6 d0.base.length c0_6) ∧ w'.cell? ⟨w.heap.size, 7, none⟩ = some (.slice a0_7 d0.clients.length c0_7) ∧ w'.cell? ⟨w.heap.size, 8, none⟩ = some (.slice a0_8 d0.log.length c0_8) ∧ w'.cell? ⟨w.heap.size, 9, none⟩ = some (.int .i64 d0.firm.epoch) ∧ w'.cell? ⟨w.heap.size, 10, none⟩ = some (.int .i64 d0.firm.seq) ∧ w'.cell? ⟨w.heap.size, 11, none⟩ = some (.slice a0_11 d0.chunks.length c0_11) ∧ w'.cell? ⟨w3.heap.size, 0, none⟩ = some (.int .i64 r.epoch) ∧ w'.cell? ⟨w3.heap.size, 1, none⟩ = some (.int .i64 r.seq) ∧ w'.cell? ⟨w5.heap.size, 0, none⟩ = some (.int .i64 d0.pg.pool) ∧ w'.cell? ⟨w5.heap.size, 1, none⟩ = some (.int .i64 d0.pg.no) ∧ w'.cell? ⟨w5.heap.size, 2, none⟩ = some (.int .i64 d0.seen) ∧ w'.cell? ⟨w5.heap.size, 3, none⟩ = some (.int .i64 d0.started) ∧ w'.cell? ⟨w5.heap.size, 4, none⟩ = some (.int .i64 d0.tail.epoch) ∧ w'.cell? ⟨w5.heap.size, 5, none⟩ = some (.int .i64 d0.tail.seq) ∧ w'.cell? ⟨w5.heap.size, 6, none⟩ = some (.slice avi0_6 d0.base.length cvi0_6) ∧ w'.cell? ⟨w5.heap.size, 7, none⟩ = some (.slice avi0_7 d0.clients.length cvi0_7) ∧ w'.cell? ⟨w5.heap.size, 8, none⟩ = some (.slice avi0_8 d0.log.length cvi0_8) ∧ w'.cell? ⟨w5.heap.size, 9, none⟩ = some (.int .i64 d0.firm.epoch) ∧ w'.cell? ⟨w5.heap.size, 10, none⟩ = some (.int .i64 d0.firm.seq) ∧ w'.cell? ⟨w5.heap.size, 11, none⟩ = some (.slice avi0_11 d0.chunks.length cvi0_11) ∧ w'.cell? ⟨w7.heap.size, 0, none⟩ = some (.int .i64 r.epoch) ∧ w'.cell? ⟨w7.heap.size, 1, none⟩ = some (.int .i64 r.seq)) (go_keep)
      (first
        | (go_at_call 9; refine (CP0.out (by omega) _ BH9.out.drew).mono ?_; rintro e w10 ⟨ese0, rfl, re0, b10⟩; have b10 := undrewX b10; have Q := XH0_9.out.later b10; have cXH0_10_0 := Q.cells 0 _ rfl; have cXH0_10_1 := Q.cells 1 _ rfl; have cXH0_10_2 := Q.cells 2 _ rfl; have cXH0_10_3 := Q.cells 3 _ rfl; have cXH0_10_4 := Q.cells 4 _ rfl; have cXH0_10_5 := Q.cells 5 _ rfl; have cXH0_10_6 := Q.cells 6 _ rfl; have cXH0_10_7 := Q.cells 7 _ rfl; have cXH0_10_8 := Q.cells 8 _ rfl; have cXH0_10_9 := Q.cells 9 _ rfl; have cXH0_10_10 := Q.cells 10 _ rfl; have cXH0_10_11 := Q.cells 11 _ rfl; have XH0_10 := Lib.hid Q; clear Q; have Q := YW_9.out.later b10; have cYW_10_0 := Q.cells 0 _ rfl; have cYW_10_1 := Q.cells 1 _ rfl; have YW_10 := Lib.hid Q; clear Q; have Q := YH0_9.out.later b10; have cYH0_10_0 := Q.cells 0 _ rfl; have cYH0_10_1 := Q.cells 1 _ rfl; have cYH0_10_2 := Q.cells 2 _ rfl; have cYH0_10_3 := Q.cells 3 _ rfl; have cYH0_10_4 := Q.cells 4 _ rfl; have cYH0_10_5 := Q.cells 5 _ rfl; have cYH0_10_6 := Q.cells 6 _ rfl; have cYH0_10_7 := Q.cells 7 _ rfl; have cYH0_10_8 := Q.cells 8 _ rfl; have cYH0_10_9 := Q.cells 9 _ rfl; have cYH0_10_10 := Q.cells 10 _ rfl; have cYH0_10_11 := Q.cells 11 _ rfl; have YH0_10 := Lib.hid Q; clear Q; have Q := YG_9.out.later b10; have cYG_10_0 := Q.cells 0 _ rfl; have cYG_10_1 := Q.cells 1 _ rfl; have YG_10 := Lib.hid Q; clear Q; have RRi0_10 := Lib.hid (Rdb.below RRi0_9.out b10); have BH10 := Lib.hid (chainX w BH9.out b10); clear b10; have RRe0_10 := Lib.hid (Rdb.weak re0 (Nat.zero_le _) id); obtain ⟨ave0_6, cve0_6, ave0_7, cve0_7, ave0_8, cve0_8, ave0_11, cve0_11, rfl, fve0_0, fve0_1, fve0_2, fve0_3, fve0_4, fve0_5, fve0_6, gve0_6, fve0_7, gve0_7, fve0_8, gve0_8, fve0_9, fve0_10, fve0_11, gve0_11⟩ := shape_PgState re0; clear re0 fve0_6 fve0_7 fve0_8 fve0_11)
        | (go_at_call 11; refine (EQ0.out (by omega) ([.int .i64 d0.pg.pool, .int .i64 d0.pg.no, .int .i64 d0.seen, .int .i64 d0.started, .int .i64 d0.tail.epoch, .int .i64 d0.tail.seq, .slice avi0_6 d0.base.length cvi0_6, .slice avi0_7 d0.clients.length cvi0_7, .slice avi0_8 d0.log.length cvi0_8, .int .i64 d0.firm.epoch, .int .i64 d0.firm.seq, .slice avi0_11 d0.chunks.length cvi0_11]) ([.int .i64 d0.pg.pool, .int .i64 d0.pg.no, .int .i64 d0.seen, .int .i64 d0.started, .int .i64 d0.tail.epoch, .int .i64 d0.tail.seq, .slice ave0_6 d0.base.length cve0_6, .slice ave0_7 d0.clients.length cve0_7, .slice ave0_8 d0.log.length cve0_8, .int .i64 d0.firm.epoch, .int .i64 d0.firm.seq, .slice ave0_11 d0.chunks.length cve0_11]) _ RRi0_10.out RRe0_10.out).mono ?_; rintro e w11 ⟨rfl, b11⟩; have Q := XH0_10.out.later b11; have cXH0_11_0 := Q.cells 0 _ rfl; have cXH0_11_1 := Q.cells 1 _ rfl; have cXH0_11_2 := Q.cells 2 _ rfl; have cXH0_11_3 := Q.cells 3 _ rfl; have cXH0_11_4 := Q.cells 4 _ rfl; have cXH0_11_5 := Q.cells 5 _ rfl; have cXH0_11_6 := Q.cells 6 _ rfl; have cXH0_11_7 := Q.cells 7 _ rfl; have cXH0_11_8 := Q.cells 8 _ rfl; have cXH0_11_9 := Q.cells 9 _ rfl; have cXH0_11_10 := Q.cells 10 _ rfl; have cXH0_11_11 := Q.cells 11 _ rfl; have XH0_11 := Lib.hid Q; clear Q; have Q := YW_10.out.later b11; have cYW_11_0 := Q.cells 0 _ rfl; have cYW_11_1 := Q.cells 1 _ rfl; have YW_11 := Lib.hid Q; clear Q; have Q := YH0_10.out.later b11; have cYH0_11_0 := Q.cells 0 _ rfl; have cYH0_11_1 := Q.cells 1 _ rfl; have cYH0_11_2 := Q.cells 2 _ rfl; have cYH0_11_3 := Q.cells 3 _ rfl; have cYH0_11_4 := Q.cells 4 _ rfl; have cYH0_11_5 := Q.cells 5 _ rfl; have cYH0_11_6 := Q.cells 6 _ rfl; have cYH0_11_7 := Q.cells 7 _ rfl; have cYH0_11_8 := Q.cells 8 _ rfl; have cYH0_11_9 := Q.cells 9 _ rfl; have cYH0_11_10 := Q.cells 10 _ rfl; have cYH0_11_11 := Q.cells 11 _ rfl; have YH0_11 := Lib.hid Q; clear Q; have Q := YG_10.out.later b11; have cYG_11_0 := Q.cells 0 _ rfl; have cYG_11_1 := Q.cells 1 _ rfl; have YG_11 := Lib.hid Q; clear Q; have RRi0_11 := Lib.hid (Rdb.below RRi0_10.out b11); have RRe0_11 := Lib.hid (Rdb.below RRe0_10.out b11); have BH11 := Lib.hid (chainX w BH10.out b11); clear b11))
    all_goals
      go_wp2
      go_ret
      exact ⟨rfl, BH11.out⟩
  · skip
    go_enter Tryz.func4, Tryz.ntmps4
    have V0 := SZ0.out (1048576) (by omega) (by omega) _ BH0.out
    unfold SzB at V0
    rw [show szI (1048576) s0 = -1 from szI_no (by omega)] at V0
    have VH0 := Lib.hid V0
    clear V0
    go_wp2_with fail
    refine (VH0.out).mono ?_
    rintro e w1 ⟨rfl, b1⟩
    have Q := XH0_0.out.later b1
    have cXH0_1_0 := Q.cells 0 _ rfl
    have cXH0_1_1 := Q.cells 1 _ rfl
    have cXH0_1_2 := Q.cells 2 _ rfl
    have cXH0_1_3 := Q.cells 3 _ rfl
    have cXH0_1_4 := Q.cells 4 _ rfl
    have cXH0_1_5 := Q.cells 5 _ rfl
    have cXH0_1_6 := Q.cells 6 _ rfl
    have cXH0_1_7 := Q.cells 7 _ rfl
    have cXH0_1_8 := Q.cells 8 _ rfl
    have cXH0_1_9 := Q.cells 9 _ rfl
    have cXH0_1_10 := Q.cells 10 _ rfl
    have cXH0_1_11 := Q.cells 11 _ rfl
    have XH0_1 := Lib.hid Q
    clear Q
    have BH1 := Lib.hid (chainX w BH0.out b1)
    clear XH0_0
    go_wp2
    go_ret
    exact ⟨rfl, BH1.out⟩
end Go.Proofs.YtbckdfoapmjilaaGreatDoor.Rd
