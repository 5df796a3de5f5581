/-
  Cluster maps: rules, pools and lists of devices, as the program checks them: the methods.
-/
import Derived.Test.YteogbfmghbaelaaMpI
namespace Go.Proofs.Yteogbfmghbaelaa.Rd
open Go.RowKit Go.ChangeShapes Go.WideShapes Go.Proofs.Yteogbfmghbaelaa.GfI Go.Proofs.Yteogbfmghbaelaa.GfS
open Go.Proofs.Yteogbfmghbaelaa.Sg (BxN)
open Go.Proofs.Yteogbfmghbaelaa.Tm (TD TA TIn IffB RisN zF Whole Same isRising)
open Go.Proofs.Yteogbfmghbaelaa.MixC (Words)
set_option linter.unusedVariables false
set_option linter.unusedSimpArgs false

set_option maxRecDepth 100000 in
set_option maxHeartbeats 1000000 in
theorem ruleIds {cs : List Value} {fr : Bool} {lo : Nat} (d : DMap) (w : World) (hl : d.rules.length ≤ 2097152) (h : Rdb.rd fr lo w cs d) :
    Calls Try.prog 122 #[.agg cs.toArray] w (SlC (d.rules.map DRule.id) w) := by
  obtain ⟨a0_2, c0_2, a0_3, c0_3, a0_4, c0_4, a0_5, c0_5, a0_6, c0_6, a0_7, c0_7, rfl, f0_0, f0_1, f0_2, g0_2, f0_3, g0_3, f0_4, g0_4, f0_5, g0_5, f0_6, g0_6, f0_7, g0_7⟩ := shape_Map h
  have L := Lib.hid (lay w (.cells #[.int .i64 d.epoch, .int .i64 d.term, .slice a0_2 d.tree.devices.length c0_2, .slice a0_3 d.tree.buckets.length c0_3, .slice a0_4 d.rules.length c0_4, .slice a0_5 d.pools.length c0_5, .slice a0_6 d.up.length c0_6, .slice a0_7 d.out.length c0_7] 46))
  have C := Lib.hid (numsRule a0_4 c0_4 d.rules _ hl (f0_4.below L.out))
  clear h f0_2 f0_3 f0_4 f0_5 f0_6 f0_7
  generalize hz : d.rules.map DRule.id = zs at *
  clear hz
  go_enter Try.func122, Try.ntmps122
  go_wp2_with fail
  refine C.out.mono ?_
  rintro e w1 h1
  obtain ⟨q, rfl, R⟩ := SlC.from L.out h1
  have R := Lib.hid R
  clear h1
  go_wp2
  go_ret
  exact ⟨q, rfl, R.out⟩
set_option maxRecDepth 100000 in
set_option maxHeartbeats 1000000 in
theorem poolIds {cs : List Value} {fr : Bool} {lo : Nat} (d : DMap) (w : World) (hl : d.pools.length ≤ 2097152) (h : Rdb.rd fr lo w cs d) :
    Calls Try.prog 71 #[.agg cs.toArray] w (SlC (d.pools.map DPool.id) w) := by
  obtain ⟨a0_2, c0_2, a0_3, c0_3, a0_4, c0_4, a0_5, c0_5, a0_6, c0_6, a0_7, c0_7, rfl, f0_0, f0_1, f0_2, g0_2, f0_3, g0_3, f0_4, g0_4, f0_5, g0_5, f0_6, g0_6, f0_7, g0_7⟩ := shape_Map h
  have L := Lib.hid (lay w (.cells #[.int .i64 d.epoch, .int .i64 d.term, .slice a0_2 d.tree.devices.length c0_2, .slice a0_3 d.tree.buckets.length c0_3, .slice a0_4 d.rules.length c0_4, .slice a0_5 d.pools.length c0_5, .slice a0_6 d.up.length c0_6, .slice a0_7 d.out.length c0_7] 46))
  have C := Lib.hid (numsPool a0_5 c0_5 d.pools _ hl (f0_5.below L.out))
  clear h f0_2 f0_3 f0_4 f0_5 f0_6 f0_7
  generalize hz : d.pools.map DPool.id = zs at *
  clear hz
  go_enter Try.func71, Try.ntmps71
  go_wp2_with fail
  refine C.out.mono ?_
  rintro e w1 h1
  obtain ⟨q, rfl, R⟩ := SlC.from L.out h1
  have R := Lib.hid R
  clear h1
  go_wp2
  go_ret
  exact ⟨q, rfl, R.out⟩
set_option maxRecDepth 100000 in
set_option maxHeartbeats 1000000 in
theorem rulesOk {cs : List Value} {fr : Bool} {lo : Nat} (T : TD) (mb p q : Nat) (d : DMap) (w : World) (hl : d.rules.length ≤ 2097152) (h : Rdb.rd fr lo w cs d) (hw : Whole T mb p q w) :
    Calls Try.prog 66 #[.agg cs.toArray, .map (some mb)] w (IffB (RisN (zF (d.rules.map DRule.id)) (d.rules.map DRule.id).length ∧ ∀ x, x ∈ d.rules → ruleC T x = true) w) := by
  have RD := Lib.hid h
  obtain ⟨a0_2, c0_2, a0_3, c0_3, a0_4, c0_4, a0_5, c0_5, a0_6, c0_6, a0_7, c0_7, rfl, f0_0, f0_1, f0_2, g0_2, f0_3, g0_3, f0_4, g0_4, f0_5, g0_5, f0_6, g0_6, f0_7, g0_7⟩ := shape_Map h
  have L := Lib.hid (chain (lay w (.cells #[.int .i64 d.epoch, .int .i64 d.term, .slice a0_2 d.tree.devices.length c0_2, .slice a0_3 d.tree.buckets.length c0_3, .slice a0_4 d.rules.length c0_4, .slice a0_5 d.pools.length c0_5, .slice a0_6 d.up.length c0_6, .slice a0_7 d.out.length c0_7] 46)) (lay _ (.cells #[.map (some mb)] 98)))
  have X := Lib.hid ((BxN.new w #[.int .i64 d.epoch, .int .i64 d.term, .slice a0_2 d.tree.devices.length c0_2, .slice a0_3 d.tree.buckets.length c0_3, .slice a0_4 d.rules.length c0_4, .slice a0_5 d.pools.length c0_5, .slice a0_6 d.up.length c0_6, .slice a0_7 d.out.length c0_7] 46).later (lay _ (.cells #[.map (some mb)] 98)))
  have Y0 := BxN.new (w.alloc (.cells #[.int .i64 d.epoch, .int .i64 d.term, .slice a0_2 d.tree.devices.length c0_2, .slice a0_3 d.tree.buckets.length c0_3, .slice a0_4 d.rules.length c0_4, .slice a0_5 d.pools.length c0_5, .slice a0_6 d.up.length c0_6, .slice a0_7 d.out.length c0_7] 46)) #[.map (some mb)] 98
  rw [World.size_alloc] at Y0
  have Y := Lib.hid Y0
  have C := Lib.hid (ruleIds d _ hl (Rdb.below RD.out L.out))
  have HW := Lib.hid hw
  have RO := Lib.hid f0_4
  have LM : (d.rules.map DRule.id).length ≤ 2097152 := by rw [List.length_map]; exact hl
  have ISR := Lib.hid (fun q' w' (R : Rows true w.heap.size w' (some ⟨q', 0, none⟩) (d.rules.map DRule.id)) => isRising (some ⟨q', 0, none⟩) (d.rules.map DRule.id).length (d.rules.map DRule.id) w' LM (rows_words R))
  clear h Y0 hw LM f0_2 f0_3 f0_4 f0_5 f0_6 f0_7
  generalize hz : d.rules.map DRule.id = zs at *
  clear hz
  unfold SlC at C
  generalize zs.length = nz at *
  go_enter Try.func66, Try.ntmps66
  go_wp2_with fail
  refine C.out.mono ?_
  rintro e w1 h1
  obtain ⟨q1, rfl, R1, -, -, -, b1⟩ := h1
  have B1 := Lib.hid (chainX w L.out b1)
  have X1 := Lib.hid (X.out.later b1)
  have Y1 := Lib.hid (Y.out.later b1)
  have IS := Lib.hid (ISR.out q1 w1 (R1.weak L.out.size id))
  clear b1 R1 X Y
  go_wp2_with fail
  refine IS.out.mono ?_
  rintro e w2 ⟨b, rfl, hb, b2⟩
  have HB := Lib.hid hb
  have B2 := Lib.hid (chainX w B1.out b2)
  have X2 := X1.out.later b2
  have Y2 := Lib.hid (Y1.out.later b2)
  have x4 := X2.cells 4 _ rfl
  have CT := Lib.hid (ctRule T mb p q (w.heap.size + 1) a0_4 c0_4 d.rules w2 hl (RO.out.below B2.out) (HW.out.later B2.out) Y2.out)
  clear b2 X2 hb IS X1 Y1
  cases b
  · have NO := Lib.hid (show ¬ (RisN (zF zs) nz ∧ ∀ x, x ∈ d.rules → ruleC T x = true) from fun h => by have := HB.out.2 h.1; cases this)
    go_wp2
    go_ret
    exact IffB.no NO.out B2.out
  · have RS := Lib.hid (HB.out.1 rfl)
    clear HB
    go_wp2_with fail
    refine CT.out.mono ?_
    rintro e w3 ⟨b, rfl, hb3, b3⟩
    have B3 := Lib.hid (chainX w B2.out b3)
    have HB3 := Lib.hid hb3
    clear b3 hb3 CT
    cases b
    · have YES := Lib.hid (show RisN (zF zs) nz ∧ ∀ x, x ∈ d.rules → ruleC T x = true from ⟨RS.out, fun x hx => by
        cases hq : ruleC T x
        · exact absurd (HB3.out.2 ⟨x, hx, by unfold notRule; rw [hq]; rfl⟩) (by simp)
        · rfl⟩)
      go_wp2
      go_ret
      exact IffB.yes YES.out B3.out
    · have NO := Lib.hid (show ¬ (RisN (zF zs) nz ∧ ∀ x, x ∈ d.rules → ruleC T x = true) from fun h => by
        obtain ⟨x, hx, hn⟩ := HB3.out.1 rfl
        unfold notRule at hn
        rw [h.2 x hx] at hn
        cases hn)
      go_wp2
      go_ret
      exact IffB.no NO.out B3.out
set_option maxRecDepth 100000 in
set_option maxHeartbeats 1000000 in
theorem poolsOk {cs : List Value} {fr : Bool} {lo : Nat} (d : DMap) (w : World) (hl : d.rules.length ≤ 2097152) (hl2 : d.pools.length ≤ 2097152) (h : Rdb.rd fr lo w cs d) :
    Calls Try.prog 67 #[.agg cs.toArray] w (IffB (RisN (zF (d.pools.map DPool.id)) (d.pools.map DPool.id).length ∧ ∀ x, x ∈ d.pools → poolC (d.rules.map DRule.id) x = true) w) := by
  have RD := Lib.hid h
  obtain ⟨a0_2, c0_2, a0_3, c0_3, a0_4, c0_4, a0_5, c0_5, a0_6, c0_6, a0_7, c0_7, rfl, f0_0, f0_1, f0_2, g0_2, f0_3, g0_3, f0_4, g0_4, f0_5, g0_5, f0_6, g0_6, f0_7, g0_7⟩ := shape_Map h
  have L := Lib.hid (lay w (.cells #[.int .i64 d.epoch, .int .i64 d.term, .slice a0_2 d.tree.devices.length c0_2, .slice a0_3 d.tree.buckets.length c0_3, .slice a0_4 d.rules.length c0_4, .slice a0_5 d.pools.length c0_5, .slice a0_6 d.up.length c0_6, .slice a0_7 d.out.length c0_7] 46))
  have X := Lib.hid (BxN.new w #[.int .i64 d.epoch, .int .i64 d.term, .slice a0_2 d.tree.devices.length c0_2, .slice a0_3 d.tree.buckets.length c0_3, .slice a0_4 d.rules.length c0_4, .slice a0_5 d.pools.length c0_5, .slice a0_6 d.up.length c0_6, .slice a0_7 d.out.length c0_7] 46)
  have C := Lib.hid (ruleIds d _ hl (Rdb.below RD.out L.out))
  have C2 := Lib.hid (fun w' (b : Below w.heap.size w w') => poolIds d w' hl2 (Rdb.below RD.out b))
  have RO := Lib.hid f0_5
  have LM : (d.rules.map DRule.id).length ≤ 2097152 := by rw [List.length_map]; exact hl
  have LM2 : (d.pools.map DPool.id).length ≤ 2097152 := by rw [List.length_map]; exact hl2
  have ISR := Lib.hid (fun q' w' (R : Rows true w.heap.size w' (some ⟨q', 0, none⟩) (d.pools.map DPool.id)) => isRising (some ⟨q', 0, none⟩) (d.pools.map DPool.id).length (d.pools.map DPool.id) w' LM2 (rows_words R))
  clear h LM2 f0_2 f0_3 f0_4 f0_5 f0_6 f0_7
  generalize hz : d.pools.map DPool.id = zs at *
  generalize hi : d.rules.map DRule.id = ids at *
  clear hz hi
  have CTI := Lib.hid (fun bb ai w' (b : Below w.heap.size w w') (R : Rows true w.heap.size w' ai ids) (hb : BxN w' bb [.slice ai ids.length ids.length]) => ctPool ids bb ai a0_5 c0_5 d.pools w' hl2 (RO.out.below b) LM R hb)
  unfold SlC at C C2
  generalize ids.length = ni at *
  generalize zs.length = nz at *
  clear LM
  go_enter Try.func67, Try.ntmps67
  go_wp2_with fail
  refine C.out.mono ?_
  rintro e w1 h1
  obtain ⟨q1, rfl, R1, -, -, -, b1⟩ := h1
  have LB := Lib.hid (lay w1 (.cells #[.slice (some ⟨q1, 0, none⟩) ni ni] 34))
  have Y0 := Lib.hid (BxN.new w1 #[.slice (some ⟨q1, 0, none⟩) ni ni] 34)
  have B1 := Lib.hid (chainX w (chainX w L.out b1) LB.out)
  have X1 := (X.out.later b1).later LB.out
  have RI := Lib.hid ((R1.weak L.out.size id).below LB.out)
  have X1H := Lib.hid X1
  have x1_0 := X1H.out.cells 0 _ rfl
  have x1_1 := X1H.out.cells 1 _ rfl
  have x1_2 := X1H.out.cells 2 _ rfl
  have x1_3 := X1H.out.cells 3 _ rfl
  have x1_4 := X1H.out.cells 4 _ rfl
  have x1_5 := X1H.out.cells 5 _ rfl
  have x1_6 := X1H.out.cells 6 _ rfl
  have x1_7 := X1H.out.cells 7 _ rfl
  clear b1 R1 X X1
  go_wp2_with fail
  refine (C2.out _ B1.out).mono ?_
  rintro e w2 h2
  obtain ⟨q2, rfl, R2, -, -, -, b2⟩ := h2
  have B2 := Lib.hid (chainX w B1.out b2)
  have X2H := Lib.hid (X1H.out.later b2)
  have Y2 := Lib.hid (Y0.out.later b2)
  have RI2 := Lib.hid (RI.out.below b2)
  have IS := Lib.hid (ISR.out q2 w2 (R2.weak B1.out.size id))
  clear b2 R2 x1_0 x1_1 x1_2 x1_3 x1_4 x1_5 x1_6 x1_7
  go_wp2_with fail
  refine IS.out.mono ?_
  rintro e w3 ⟨b, rfl, hb, b3⟩
  have HB := Lib.hid hb
  have B3 := Lib.hid (chainX w B2.out b3)
  have X3 := X2H.out.later b3
  have x5 := X3.cells 5 _ rfl
  have CT := Lib.hid (CTI.out w1.heap.size (some ⟨q1, 0, none⟩) w3 B3.out (RI2.out.below b3) (Y2.out.later b3))
  clear b3 X3 hb IS
  cases b
  · have NO := Lib.hid (show ¬ (RisN (zF zs) nz ∧ ∀ x, x ∈ d.pools → poolC ids x = true) from fun h => by have := HB.out.2 h.1; cases this)
    go_wp2
    go_ret
    exact IffB.no NO.out B3.out
  · have RS := Lib.hid (HB.out.1 rfl)
    clear HB
    go_wp2_with fail
    refine CT.out.mono ?_
    rintro e w4 ⟨b, rfl, hb3, b4⟩
    have B4 := Lib.hid (chainX w B3.out b4)
    have HB3 := Lib.hid hb3
    clear b4 hb3 CT
    cases b
    · have YES := Lib.hid (show RisN (zF zs) nz ∧ ∀ x, x ∈ d.pools → poolC ids x = true from ⟨RS.out, fun x hx => by
        cases hq : poolC ids x
        · exact absurd (HB3.out.2 ⟨x, hx, by unfold notPool; rw [hq]; rfl⟩) (by simp)
        · rfl⟩)
      go_wp2
      go_ret
      exact IffB.yes YES.out B4.out
    · have NO := Lib.hid (show ¬ (RisN (zF zs) nz ∧ ∀ x, x ∈ d.pools → poolC ids x = true) from fun h => by
        obtain ⟨x, hx, hn⟩ := HB3.out.1 rfl
        unfold notPool at hn
        rw [h.2 x hx] at hn
        cases hn)
      go_wp2
      go_ret
      exact IffB.no NO.out B4.out
def lstOk (T : TD) (z : List Int) : Prop := RisN (zF z) z.length ∧ ∀ x, x ∈ z → T.kd x = 0
set_option maxRecDepth 100000 in
set_option maxHeartbeats 1000000 in
theorem lists (T : TD) (mb p q : Nat) (a : Option Addr) (cap : Nat) (z : List Int) (w : World) (hl : z.length ≤ 2097152) {fr : Bool} {lo : Nat} (h : Rows fr lo w a z) (hw : Whole T mb p q w) :
    Calls Try.prog 68 #[.map (some mb), .slice a z.length cap] w (IffB (lstOk T z) w) := by
  have L := Lib.hid (lay w (.cells #[.map (some mb)] 98))
  have Y := Lib.hid (BxN.new w #[.map (some mb)] 98)
  have IS := Lib.hid (isRising a cap z _ hl (rows_words (h.below L.out)))
  have CTI := Lib.hid (fun w' (b : Below w.heap.size w w') (hb : BxN w' w.heap.size [.map (some mb)]) => ctDev T mb p q w.heap.size a cap z w' hl (h.below b) (hw.later b) hb)
  unfold lstOk
  clear h hw
  generalize z.length = nz at *
  go_enter Try.func68, Try.ntmps68
  go_wp2_with fail
  refine IS.out.mono ?_
  rintro e w1 ⟨b, rfl, hb, b1⟩
  have HB := Lib.hid hb
  have B1 := Lib.hid (chainX w L.out b1)
  have CT := Lib.hid (CTI.out w1 B1.out (Y.out.later b1))
  clear b1 hb
  cases b
  · have NO := Lib.hid (show ¬ (RisN (zF z) nz ∧ ∀ x, x ∈ z → T.kd x = 0) from fun h => by have := HB.out.2 h.1; cases this)
    go_wp2
    go_ret
    exact IffB.no NO.out B1.out
  · have RS := Lib.hid (HB.out.1 rfl)
    clear HB
    go_wp2_with fail
    refine CT.out.mono ?_
    rintro e w2 ⟨b, rfl, hb2, b2⟩
    have B2 := Lib.hid (chainX w B1.out b2)
    have HB2 := Lib.hid hb2
    clear b2 hb2 CT
    cases b
    · have YES := Lib.hid (show RisN (zF z) nz ∧ ∀ x, x ∈ z → T.kd x = 0 from ⟨RS.out, fun x hx => by
        by_cases hq : T.kd x = 0
        · exact hq
        · exact absurd (HB2.out.2 ⟨x, hx, by unfold notDev; rw [decide_eq_false hq]; rfl⟩) (by simp)⟩)
      go_wp2
      go_ret
      exact IffB.yes YES.out B2.out
    · have NO := Lib.hid (show ¬ (RisN (zF z) nz ∧ ∀ x, x ∈ z → T.kd x = 0) from fun h => by
        obtain ⟨x, hx, hn⟩ := HB2.out.1 rfl
        unfold notDev at hn
        rw [decide_eq_true (h.2 x hx)] at hn
        cases hn)
      go_wp2
      go_ret
      exact IffB.no NO.out B2.out
end Go.Proofs.Yteogbfmghbaelaa.Rd
