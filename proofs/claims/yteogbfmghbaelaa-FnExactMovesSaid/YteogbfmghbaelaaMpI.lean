/-
  Cluster maps: rules, pools and lists of devices, as the program checks them.
-/
import Derived.Test.YteogbfmghbaelaaDMap
import Derived.Test.YteogbfmghbaelaaTapt
import Derived.Test.YteogbfmghbaelaaTrule
import Derived.Test.YteogbfmghbaelaaPool
namespace Go.Proofs.Yteogbfmghbaelaa.Rd
open Go.RowKit Go.ChangeShapes Go.WideShapes Go.Proofs.Yteogbfmghbaelaa.GfI Go.Proofs.Yteogbfmghbaelaa.GfS
open Go.Proofs.Yteogbfmghbaelaa.Sg (BxN)
open Go.Proofs.Yteogbfmghbaelaa.Tm (TD TA TIn IffB RisN zF Whole Same isRising)
open Go.Proofs.Yteogbfmghbaelaa.MixC (Words)
set_option linter.unusedVariables false
set_option linter.unusedSimpArgs false

/-- An index found, or none. -/
def IdxW (P : Prop) (w : World) (e : Ending) (w' : World) : Prop := ∃ i : Int, e = .returned (.int .i64 i) ∧ Below w.heap.size w w' ∧ ((0 ≤ i ∧ P) ∨ (i = -1 ∧ ¬ P))
theorem none_of {α : Type} {l : List α} {p : α → Bool} (h : ∀ i x, i < l.length → l[i]? = some x → p x = false) : ¬ ∃ x, x ∈ l ∧ p x = true := by
  rintro ⟨x, hx, hp⟩
  obtain ⟨i, hi, rfl⟩ := List.getElem_of_mem hx
  rw [h i _ hi (List.getElem?_eq_getElem hi)] at hp
  cases hp
theorem SlC.from {α : Type} [Rdb α] {l : List α} {w W w' : World} {e : Ending} (b : Below w.heap.size w W) (h : SlC l W e w') : SlC l w e w' := by
  obtain ⟨q, he, R, h1, h2, h3, h4⟩ := h
  exact ⟨q, he, R.weak b.size id, Nat.le_trans b.size h1, h2, h3, chainX w b h4⟩
/-- What makes a rule valid for the tree T. -/
def ruleC (T : TD) (x : DRule) : Bool := inB x.id 1 4 && (inB x.kind 0 2 && decide (T.kd x.root = 3))
def poolC (ids : List Int) (x : DPool) : Bool := Po.okP x.id x.code.k x.code.m x.min x.pgs x.rule && decide (x.rule ∈ ids)
def notRule (T : TD) (x : DRule) : Bool := !ruleC T x
def notPool (ids : List Int) (x : DPool) : Bool := !poolC ids x
def notDev (T : TD) (x : Int) : Bool := !decide (T.kd x = 0)
set_option maxRecDepth 100000 in
set_option maxHeartbeats 1000000 in
theorem allow (T : TD) (mb p q : Nat) (x : DRule) (w : World) (hr : (Lit.int .i64 x.root).wf = true) (h : Whole T mb p q w) :
    Calls Try.prog 125 #[.map (some mb), .agg #[.int .i64 x.id, .int .i64 x.root, .int .i64 x.kind, .bool x.indep]] w (RetW (.bool (ruleC T x)) w) := by
  have L := Lib.hid (lay w (.cells #[.int .i64 x.id, .int .i64 x.root, .int .i64 x.kind, .bool x.indep] 94))
  have HW := h.later L.out
  have LK := HW.look x.root hr
  have KD := Lib.hid (HW.kind x.root)
  have IA := fun w' => Wi.isWithin x.id 1 4 (by omega) w'
  have IB := fun w' => Tm.isDomainKind x.kind w'
  unfold ruleC
  clear h HW
  generalize Tm.thg T p q T.dn T.bn x.root = v at *
  generalize T.kd x.root = kr at *
  cases hi : inB x.id 1 4
  · rw [hi] at IA
    have IA := Lib.hid IA
    clear hi IB
    go_enter Try.func125, Try.ntmps125
    go_wp2_with fail
    refine (IA.out _).mono ?_
    rintro e w2 ⟨rfl, rfl⟩
    go_wp2
    go_ret
    exact ⟨rfl, L.out⟩
  · rw [hi] at IA
    have IA := Lib.hid IA
    clear hi
    cases hk : inB x.kind 0 2
    · rw [hk] at IB
      have IB := Lib.hid IB
      clear hk
      go_enter Try.func125, Try.ntmps125
      go_wp2_with fail
      refine (IA.out _).mono ?_
      rintro e w2 ⟨rfl, rfl⟩
      go_wp2_with fail
      refine (IB.out _).mono ?_
      rintro e w2 ⟨rfl, rfl⟩
      go_wp2
      go_ret
      exact ⟨rfl, L.out⟩
    · rw [hk] at IB
      have IB := Lib.hid IB
      clear hk
      go_enter Try.func125, Try.ntmps125
      go_wp2_with fail
      refine (IA.out _).mono ?_
      rintro e w2 ⟨rfl, rfl⟩
      go_wp2_with fail
      refine (IB.out _).mono ?_
      rintro e w2 ⟨rfl, rfl⟩
      go_wp2_with fail
      refine KD.out.mono ?_
      rintro e w2 ⟨rfl, rfl⟩
      go_wp2
      go_ret
      refine ⟨?_, L.out⟩
      by_cases h3 : kr = 3 <;> simp [h3]
set_option maxRecDepth 100000 in
set_option maxHeartbeats 1000000 in
theorem ruleNot (T : TD) (mb p q bb : Nat) (x : DRule) (w : World) (hr : (Lit.int .i64 x.root).wf = true) (h : Whole T mb p q w) (hb : BxN w bb [.map (some mb)]) :
    Calls Try.prog 124 #[.agg #[.int .i64 x.id, .int .i64 x.root, .int .i64 x.kind, .bool x.indep], .pointer (some ⟨bb, 0, none⟩)] w (RetW (.bool (notRule T x)) w) := by
  have L := Lib.hid (lay w (.cells #[.int .i64 x.id, .int .i64 x.root, .int .i64 x.kind, .bool x.indep] 94))
  have A := Lib.hid (allow T mb p q x _ hr (h.later L.out))
  have b0 := (hb.later L.out).cells 0 _ rfl
  clear h hb
  unfold notRule
  generalize ruleC T x = ok at *
  go_enter Try.func124, Try.ntmps124
  go_wp2_with fail
  refine A.out.mono ?_
  rintro e w1 ⟨rfl, b1⟩
  have B := Lib.hid (chainX w L.out b1)
  clear b1
  go_wp2
  go_ret
  exact ⟨rfl, B.out⟩
set_option maxRecDepth 100000 in
set_option maxHeartbeats 1000000 in
theorem poolNot (ids : List Int) (bb : Nat) (a : Option Addr) (x : DPool) (w : World) (hl : ids.length ≤ 2097152) {fr : Bool} {lo : Nat} (h : Rows fr lo w a ids) (hb : BxN w bb [.slice a ids.length ids.length]) :
    Calls Try.prog 127 #[.agg #[.int .i64 x.id, .int .i64 x.code.k, .int .i64 x.code.m, .int .i64 x.min, .int .i64 x.pgs, .int .i64 x.rule], .pointer (some ⟨bb, 0, none⟩)] w (RetW (.bool (notPool ids x)) w) := by
  have L := Lib.hid (lay w (.cells #[.int .i64 x.id, .int .i64 x.code.k, .int .i64 x.code.m, .int .i64 x.min, .int .i64 x.pgs, .int .i64 x.rule] 54))
  have X := Lib.hid (BxN.new w #[.int .i64 x.id, .int .i64 x.code.k, .int .i64 x.code.m, .int .i64 x.min, .int .i64 x.pgs, .int .i64 x.rule] 54)
  have A := Lib.hid (Po.implPoolOk x.id x.code.k x.code.m x.min x.pgs x.rule (w.alloc (.cells #[.int .i64 x.id, .int .i64 x.code.k, .int .i64 x.code.m, .int .i64 x.min, .int .i64 x.pgs, .int .i64 x.rule] 54)))
  have HB := Lib.hid (hb.later L.out)
  have C := Lib.hid (fun w' (b : Below w.heap.size w w') => Tm.slicesContains a ids.length ids x.rule w' hl (rows_words (h.below b)))
  clear h hb
  unfold notPool poolC
  generalize Po.okP x.id x.code.k x.code.m x.min x.pgs x.rule = ok at *
  obtain ⟨n, hn⟩ : ∃ n, n = ids.length := ⟨_, rfl⟩
  rw [← hn] at C HB hl
  clear hn
  unfold Tm.HasB at C
  generalize decide (x.rule ∈ ids) = hs at *
  cases ok
  · go_enter Try.func127, Try.ntmps127
    go_wp2_with fail
    refine A.out.mono ?_
    rintro e w1 ⟨rfl, b1⟩
    have B := Lib.hid (chainX w L.out b1)
    clear b1
    go_wp2
    go_ret
    exact ⟨rfl, B.out⟩
  · go_enter Try.func127, Try.ntmps127
    go_wp2_with fail
    refine A.out.mono ?_
    rintro e w1 ⟨rfl, b1⟩
    have B := Lib.hid (chainX w L.out b1)
    have b0 := (HB.out.later b1).cells 0 _ rfl
    have x5 := (X.out.later b1).cells 5 _ rfl
    clear b1
    go_wp2_with fail
    refine (C.out _ B.out).mono ?_
    rintro e w2 ⟨rfl, rfl⟩
    go_wp2
    go_ret
    exact ⟨rfl, B.out⟩
set_option maxRecDepth 100000 in
set_option maxHeartbeats 1000000 in
theorem devNot (T : TD) (mb p q bb : Nat) (x : Int) (w : World) (hr : (Lit.int .i64 x).wf = true) (h : Whole T mb p q w) (hb : BxN w bb [.map (some mb)]) :
    Calls Try.prog 131 #[.int .i64 x, .pointer (some ⟨bb, 0, none⟩)] w (RetW (.bool (notDev T x)) w) := by
  have LK := h.look x hr
  have KD := Lib.hid (h.kind x)
  have b0 := hb.cells 0 _ rfl
  clear h hb
  unfold notDev
  generalize Tm.thg T p q T.dn T.bn x = v at *
  generalize T.kd x = kr at *
  go_enter Try.func131, Try.ntmps131
  go_wp2_with fail
  refine KD.out.mono ?_
  rintro e w1 ⟨rfl, rfl⟩
  go_wp2
  go_ret
  refine ⟨?_, Below.refl _ _⟩
  by_cases h3 : kr = 0 <;> simp [h3]
set_option maxRecDepth 100000 in
set_option maxHeartbeats 1000000 in
theorem ruleIdFn (x : DRule) (w : World) : Calls Try.prog 163 #[.agg #[.int .i64 x.id, .int .i64 x.root, .int .i64 x.kind, .bool x.indep]] w (RetW (.int .i64 x.id) w) := by
  have L := Lib.hid (lay w (.cells #[.int .i64 x.id, .int .i64 x.root, .int .i64 x.kind, .bool x.indep] 94))
  go_enter Try.func163, Try.ntmps163
  go_wp2
  go_ret
  exact ⟨rfl, L.out⟩
set_option maxRecDepth 100000 in
set_option maxHeartbeats 1000000 in
theorem poolIdFn (x : DPool) (w : World) : Calls Try.prog 134 #[.agg #[.int .i64 x.id, .int .i64 x.code.k, .int .i64 x.code.m, .int .i64 x.min, .int .i64 x.pgs, .int .i64 x.rule]] w (RetW (.int .i64 x.id) w) := by
  have L := Lib.hid (lay w (.cells #[.int .i64 x.id, .int .i64 x.code.k, .int .i64 x.code.m, .int .i64 x.min, .int .i64 x.pgs, .int .i64 x.rule] 54))
  go_enter Try.func134, Try.ntmps134
  go_wp2
  go_ret
  exact ⟨rfl, L.out⟩
set_option maxRecDepth 100000 in
set_option maxHeartbeats 1000000 in
theorem numsRule (a : Option Addr) (cap : Nat) (l : List DRule) (w : World) (hl : l.length ≤ 2097152) {fr : Bool} {lo : Nat} (hc : Rows fr lo w a l) :
    Calls Try.prog 162 #[.slice a l.length cap, .func (.func 163) #[] #[]] w (SlC (l.map DRule.id) w) := by
  have HL := Lib.hid (fun k (h : k < l.length) => get_lt h)
  have ML := Lib.hid (fun k (x : DRule) (h : l[k]? = some x) => (show (l.map DRule.id)[k]? = some x.id by rw [List.getElem?_map, h]; rfl))
  have LN : (l.map DRule.id).length = l.length := List.length_map ..
  obtain ⟨n, hn⟩ : ∃ n, n = l.length := ⟨_, rfl⟩
  have FIN : ∀ e w', (e = .returned (.slice (some ⟨w.heap.size, 0, none⟩) n n) ∧ RndL w w' w.heap.size n n (l.map DRule.id)) → SlC (l.map DRule.id) w e w' := by
    rintro e w' ⟨h, R⟩; rw [hn, ← LN] at h; exact ⟨_, h, R.done (by rw [hn, LN]), R.new, R.lt, R.free, R.below⟩
  generalize l.map DRule.id = zs at *
  rw [← hn] at hl HL ⊢
  have HF := Lib.hid FIN
  clear hn FIN LN
  obtain ⟨i0, hi, hz0, hz1, hz2⟩ := info_parts MixC.info2
  go_enter Try.func162, Try.ntmps162
  go_wp2_with (at_make; refine wpList_make_full _ rfl _ _ 34 rfl w.heap.size 2 i0 (.int .i64 0) 1 Try.underlying34 hi hz0 hz1 .i64 .i64 n n n rfl rfl rfl rfl (by rw [hz2]; omega) (by unfold maxLen; omega) (Nat.le_refl _) ?_; intro w1 hown1 hgrow1)
  have R1 : RndL w w1 w.heap.size n 0 zs := RndL.made hown1 zs ((Below.refl _ _).grown hgrow1 (Nat.le_refl _) (by intro k hk; cases hk))
  clear hown1 hgrow1
  go_loopw [13] (fun i wr => ∃ k : Nat, k ≤ n ∧ i = .int .i64 k ∧ RndL w wr w.heap.size n k zs) (fun i _ => n - (intOf i).toNat)
  case atStart => exact ⟨0, by omega, rfl, R1⟩
  case round =>
    obtain ⟨k, hk, rfl, R⟩ := hrel
    clear R1
    by_cases hlt : k < n
    · obtain ⟨x, hx⟩ := HL.out k hlt
      obtain ⟨b, off, cs, rfl, -, hB, hr, hcc⟩ := (hc.below R.below).at' hx
      obtain ⟨rfl, f0_0, f0_1, f0_2⟩ := shape_Rule hr
      have c0 : wr.cell? ⟨b, off + k * 4, none⟩ = some (.int .i64 x.id) := hcc 0 _ rfl
      have c1 : wr.cell? ⟨b, off + k * 4 + 1, none⟩ = some (.int .i64 x.root) := hcc 1 _ rfl
      have c2 : wr.cell? ⟨b, off + k * 4 + 2, none⟩ = some (.int .i64 x.kind) := hcc 2 _ rfl
      have c3 : wr.cell? ⟨b, off + k * 4 + 3, none⟩ = some (.bool x.indep) := hcc 3 _ rfl
      have T := Lib.hid (ruleIdFn x)
      have RH := Lib.hid R
      have HX := Lib.hid (ML.out k x hx)
      clear R hx hcc hr hc
      have L2 := Lib.hid (lay wr (.cells #[.int .i64 x.id, .int .i64 x.root, .int .i64 x.kind, .bool x.indep] 94))
      go_wp2_with fail
      refine (T.out _).mono ?_
      rintro e w2 ⟨rfl, b2⟩
      have R2 := RH.out.later (chainX wr L2.out b2)
      obtain ⟨u0, d0⟩ := R2.there k (by show _ < n * 1; omega)
      have z0 := R2.free k
      have PUT := R2.put hlt HX.out (⟨rfl, f0_0⟩ : Rdb.rd true (w.heap.size + 1) w2 [.int .i64 x.id] x.id)
      rw [show k * Rdb.size Int = k from Nat.mul_one k] at PUT
      have R3 : RndL w (w2.setCell ⟨w.heap.size, k, none⟩ (.int .i64 x.id)) w.heap.size n (k + 1) zs := PUT
      have R3 := Lib.hid R3
      clear R2 RH b2 PUT L2 c0 c1 c2 c3
      go_wp2
      go_roundw
      case rel => exact ⟨k + 1, by omega, by go_num, R3.out⟩
      case measure => simp [intOf]; omega
    · obtain rfl : k = n := by omega
      have F := Lib.hid (HF.out _ _ ⟨rfl, R⟩)
      clear R hc
      go_wp2
      go_ret
      exact F.out
set_option maxRecDepth 100000 in
set_option maxHeartbeats 1000000 in
theorem numsPool (a : Option Addr) (cap : Nat) (l : List DPool) (w : World) (hl : l.length ≤ 2097152) {fr : Bool} {lo : Nat} (hc : Rows fr lo w a l) :
    Calls Try.prog 133 #[.slice a l.length cap, .func (.func 134) #[] #[]] w (SlC (l.map DPool.id) w) := by
  have HL := Lib.hid (fun k (h : k < l.length) => get_lt h)
  have ML := Lib.hid (fun k (x : DPool) (h : l[k]? = some x) => (show (l.map DPool.id)[k]? = some x.id by rw [List.getElem?_map, h]; rfl))
  have LN : (l.map DPool.id).length = l.length := List.length_map ..
  obtain ⟨n, hn⟩ : ∃ n, n = l.length := ⟨_, rfl⟩
  have FIN : ∀ e w', (e = .returned (.slice (some ⟨w.heap.size, 0, none⟩) n n) ∧ RndL w w' w.heap.size n n (l.map DPool.id)) → SlC (l.map DPool.id) w e w' := by
    rintro e w' ⟨h, R⟩; rw [hn, ← LN] at h; exact ⟨_, h, R.done (by rw [hn, LN]), R.new, R.lt, R.free, R.below⟩
  generalize l.map DPool.id = zs at *
  rw [← hn] at hl HL ⊢
  have HF := Lib.hid FIN
  clear hn FIN LN
  obtain ⟨i0, hi, hz0, hz1, hz2⟩ := info_parts MixC.info2
  go_enter Try.func133, Try.ntmps133
  go_wp2_with (at_make; refine wpList_make_full _ rfl _ _ 34 rfl w.heap.size 2 i0 (.int .i64 0) 1 Try.underlying34 hi hz0 hz1 .i64 .i64 n n n rfl rfl rfl rfl (by rw [hz2]; omega) (by unfold maxLen; omega) (Nat.le_refl _) ?_; intro w1 hown1 hgrow1)
  have R1 : RndL w w1 w.heap.size n 0 zs := RndL.made hown1 zs ((Below.refl _ _).grown hgrow1 (Nat.le_refl _) (by intro k hk; cases hk))
  clear hown1 hgrow1
  go_loopw [13] (fun i wr => ∃ k : Nat, k ≤ n ∧ i = .int .i64 k ∧ RndL w wr w.heap.size n k zs) (fun i _ => n - (intOf i).toNat)
  case atStart => exact ⟨0, by omega, rfl, R1⟩
  case round =>
    obtain ⟨k, hk, rfl, R⟩ := hrel
    clear R1
    by_cases hlt : k < n
    · obtain ⟨x, hx⟩ := HL.out k hlt
      obtain ⟨b, off, cs, rfl, -, hB, hr, hcc⟩ := (hc.below R.below).at' hx
      obtain ⟨rfl, f0_0, f0_1, f0_2, f0_3, f0_4, f0_5⟩ := shape_Pool hr
      have c0 : wr.cell? ⟨b, off + k * 6, none⟩ = some (.int .i64 x.id) := hcc 0 _ rfl
      have c1 : wr.cell? ⟨b, off + k * 6 + 1, none⟩ = some (.int .i64 x.code.k) := hcc 1 _ rfl
      have c2 : wr.cell? ⟨b, off + k * 6 + 2, none⟩ = some (.int .i64 x.code.m) := hcc 2 _ rfl
      have c3 : wr.cell? ⟨b, off + k * 6 + 3, none⟩ = some (.int .i64 x.min) := hcc 3 _ rfl
      have c4 : wr.cell? ⟨b, off + k * 6 + 4, none⟩ = some (.int .i64 x.pgs) := hcc 4 _ rfl
      have c5 : wr.cell? ⟨b, off + k * 6 + 5, none⟩ = some (.int .i64 x.rule) := hcc 5 _ rfl
      have T := Lib.hid (poolIdFn x)
      have RH := Lib.hid R
      have HX := Lib.hid (ML.out k x hx)
      clear R hx hcc hr hc
      have L2 := Lib.hid (lay wr (.cells #[.int .i64 x.id, .int .i64 x.code.k, .int .i64 x.code.m, .int .i64 x.min, .int .i64 x.pgs, .int .i64 x.rule] 54))
      go_wp2_with fail
      refine (T.out _).mono ?_
      rintro e w2 ⟨rfl, b2⟩
      have R2 := RH.out.later (chainX wr L2.out b2)
      obtain ⟨u0, d0⟩ := R2.there k (by show _ < n * 1; omega)
      have z0 := R2.free k
      have PUT := R2.put hlt HX.out (⟨rfl, f0_0⟩ : Rdb.rd true (w.heap.size + 1) w2 [.int .i64 x.id] x.id)
      rw [show k * Rdb.size Int = k from Nat.mul_one k] at PUT
      have R3 : RndL w (w2.setCell ⟨w.heap.size, k, none⟩ (.int .i64 x.id)) w.heap.size n (k + 1) zs := PUT
      have R3 := Lib.hid R3
      clear R2 RH b2 PUT L2 c0 c1 c2 c3 c4 c5
      go_wp2
      go_roundw
      case rel => exact ⟨k + 1, by omega, by go_num, R3.out⟩
      case measure => simp [intOf]; omega
    · obtain rfl : k = n := by omega
      have F := Lib.hid (HF.out _ _ ⟨rfl, R⟩)
      clear R hc
      go_wp2
      go_ret
      exact F.out
set_option maxRecDepth 100000 in
set_option maxHeartbeats 1000000 in
theorem ctRule_idx (T : TD) (mb p q bb : Nat) (a : Option Addr) (cap : Nat) (l : List DRule) (w : World) (hl : l.length ≤ 2097152) {fr : Bool} {lo : Nat} (hc : Rows fr lo w a l) (hw0 : Whole T mb p q w) (hb0 : BxN w bb [.map (some mb)]) :
    Calls Try.prog 164 #[.slice a l.length cap, .func (.func 124) #[] #[.pointer (some ⟨bb, 0, none⟩)]] w (IdxW (∃ x, x ∈ l ∧ (notRule T) x = true) w) := by
  have HL := Lib.hid (fun k (h : k < l.length) => get_lt h)
  have NO := Lib.hid (fun (h : ∀ i x, i < l.length → l[i]? = some x → (notRule T) x = false) => (show ¬ ∃ x, x ∈ l ∧ (notRule T) x = true from none_of h))
  have MEM := Lib.hid (fun k x (h : l[k]? = some x) => List.mem_of_getElem? h)
  obtain ⟨n, hn⟩ : ∃ n, n = l.length := ⟨_, rfl⟩
  rw [← hn] at hl HL NO ⊢
  clear hn
  go_enter Try.func164, Try.ntmps164
  go_wp2
  go_loopw [8] (fun i wr => ∃ k : Nat, k ≤ n ∧ i = .int .i64 k ∧ (∀ i x, i < k → l[i]? = some x → (notRule T) x = false) ∧ Below w.heap.size w wr) (fun i _ => n - (intOf i).toNat)
  case atStart => exact ⟨0, by omega, rfl, fun i x hi => absurd hi (Nat.not_lt_zero _), Below.refl _ _⟩
  case round =>
    obtain ⟨k, hk, rfl, HN, hw⟩ := hrel
    have HN := Lib.hid HN
    have HW := Lib.hid hw
    by_cases hlt : k < n
    · obtain ⟨x, hx⟩ := HL.out k hlt
      obtain ⟨b, off, cs, rfl, -, hB, hr, hcc⟩ := (hc.below hw).at' hx
      have r := hr
      obtain ⟨rfl, f0_0, f0_1, f0_2⟩ := shape_Rule hr
      have c0 : wr.cell? ⟨b, off + k * 4, none⟩ = some (.int .i64 x.id) := hcc 0 _ rfl
      have c1 : wr.cell? ⟨b, off + k * 4 + 1, none⟩ = some (.int .i64 x.root) := hcc 1 _ rfl
      have c2 : wr.cell? ⟨b, off + k * 4 + 2, none⟩ = some (.int .i64 x.kind) := hcc 2 _ rfl
      have c3 : wr.cell? ⟨b, off + k * 4 + 3, none⟩ = some (.bool x.indep) := hcc 3 _ rfl
      have P := ruleNot T mb p q bb x wr f0_1 (hw0.later HW.out) (hb0.later HW.out)
      have HX := Lib.hid hx
      clear hcc hc hw hx r
      cases hp : (notRule T) x
      · rw [hp] at P
        have P := Lib.hid P
        have HN2 := Lib.hid (show ∀ i y, i < k + 1 → l[i]? = some y → (notRule T) y = false from fun i y hi hy => by
          by_cases e : i = k
          · subst e; rw [HX.out] at hy; cases hy; exact hp
          · exact HN.out i y (by omega) hy)
        clear hp
        go_wp2_with fail
        refine P.out.mono ?_
        rintro e w1 ⟨rfl, b1⟩
        have B1 := Lib.hid (chainX w HW.out b1)
        clear b1 P
        go_wp2
        go_roundw
        case rel => exact ⟨k + 1, by omega, by go_num, HN2.out, B1.out⟩
        case measure => simp [intOf]; omega
      · rw [hp] at P
        have P := Lib.hid P
        have Y := Lib.hid (show ∃ x, x ∈ l ∧ (notRule T) x = true from ⟨x, MEM.out k x HX.out, hp⟩)
        clear hp
        go_wp2_with fail
        refine P.out.mono ?_
        rintro e w1 ⟨rfl, b1⟩
        have B1 := Lib.hid (chainX w HW.out b1)
        clear b1 P
        go_wp2
        go_ret
        exact ⟨_, rfl, B1.out, .inl ⟨by omega, Y.out⟩⟩
    · obtain rfl : k = n := by omega
      have N := Lib.hid (NO.out HN.out)
      clear hc hw
      go_wp2
      go_ret
      exact ⟨_, rfl, HW.out, .inr ⟨rfl, N.out⟩⟩
set_option maxRecDepth 100000 in
set_option maxHeartbeats 1000000 in
theorem ctRule (T : TD) (mb p q bb : Nat) (a : Option Addr) (cap : Nat) (l : List DRule) (w : World) (hl : l.length ≤ 2097152) {fr : Bool} {lo : Nat} (hc : Rows fr lo w a l) (hw0 : Whole T mb p q w) (hb0 : BxN w bb [.map (some mb)]) :
    Calls Try.prog 123 #[.slice a l.length cap, .func (.func 124) #[] #[.pointer (some ⟨bb, 0, none⟩)]] w (Tm.IffB (∃ x, x ∈ l ∧ (notRule T) x = true) w) := by
  have I := Lib.hid (ctRule_idx T mb p q bb a cap l w hl hc hw0 hb0)
  clear hc
  go_enter Try.func123, Try.ntmps123
  go_wp2_with fail
  refine I.out.mono ?_
  rintro e w1 ⟨i, rfl, b1, ⟨h0, Y⟩ | ⟨rfl, N⟩⟩
  · have h' : decide (0 ≤ i) = true := decide_eq_true h0
    have Y := Lib.hid Y
    have B := Lib.hid b1
    clear b1
    go_wp2
    go_ret
    exact Tm.IffB.yes Y.out B.out
  · have N := Lib.hid N
    have B := Lib.hid b1
    clear b1
    go_wp2
    go_ret
    exact Tm.IffB.no N.out B.out
set_option maxRecDepth 100000 in
set_option maxHeartbeats 1000000 in
theorem ctPool_idx (ids : List Int) (bb : Nat) (ai : Option Addr) (a : Option Addr) (cap : Nat) (l : List DPool) (w : World) (hl : l.length ≤ 2097152) {fr : Bool} {lo : Nat} (hc : Rows fr lo w a l) (hil : ids.length ≤ 2097152) {fr2 : Bool} {lo2 : Nat} (hi0 : Rows fr2 lo2 w ai ids) (hb0 : BxN w bb [.slice ai ids.length ids.length]) :
    Calls Try.prog 166 #[.slice a l.length cap, .func (.func 127) #[] #[.pointer (some ⟨bb, 0, none⟩)]] w (IdxW (∃ x, x ∈ l ∧ (notPool ids) x = true) w) := by
  have HL := Lib.hid (fun k (h : k < l.length) => get_lt h)
  have NO := Lib.hid (fun (h : ∀ i x, i < l.length → l[i]? = some x → (notPool ids) x = false) => (show ¬ ∃ x, x ∈ l ∧ (notPool ids) x = true from none_of h))
  have MEM := Lib.hid (fun k x (h : l[k]? = some x) => List.mem_of_getElem? h)
  obtain ⟨n, hn⟩ : ∃ n, n = l.length := ⟨_, rfl⟩
  rw [← hn] at hl HL NO ⊢
  clear hn
  go_enter Try.func166, Try.ntmps166
  go_wp2
  go_loopw [8] (fun i wr => ∃ k : Nat, k ≤ n ∧ i = .int .i64 k ∧ (∀ i x, i < k → l[i]? = some x → (notPool ids) x = false) ∧ Below w.heap.size w wr) (fun i _ => n - (intOf i).toNat)
  case atStart => exact ⟨0, by omega, rfl, fun i x hi => absurd hi (Nat.not_lt_zero _), Below.refl _ _⟩
  case round =>
    obtain ⟨k, hk, rfl, HN, hw⟩ := hrel
    have HN := Lib.hid HN
    have HW := Lib.hid hw
    by_cases hlt : k < n
    · obtain ⟨x, hx⟩ := HL.out k hlt
      obtain ⟨b, off, cs, rfl, -, hB, hr, hcc⟩ := (hc.below hw).at' hx
      have r := hr
      obtain ⟨rfl, f0_0, f0_1, f0_2, f0_3, f0_4, f0_5⟩ := shape_Pool hr
      have c0 : wr.cell? ⟨b, off + k * 6, none⟩ = some (.int .i64 x.id) := hcc 0 _ rfl
      have c1 : wr.cell? ⟨b, off + k * 6 + 1, none⟩ = some (.int .i64 x.code.k) := hcc 1 _ rfl
      have c2 : wr.cell? ⟨b, off + k * 6 + 2, none⟩ = some (.int .i64 x.code.m) := hcc 2 _ rfl
      have c3 : wr.cell? ⟨b, off + k * 6 + 3, none⟩ = some (.int .i64 x.min) := hcc 3 _ rfl
      have c4 : wr.cell? ⟨b, off + k * 6 + 4, none⟩ = some (.int .i64 x.pgs) := hcc 4 _ rfl
      have c5 : wr.cell? ⟨b, off + k * 6 + 5, none⟩ = some (.int .i64 x.rule) := hcc 5 _ rfl
      have P := poolNot ids bb ai x wr hil (hi0.below HW.out) (hb0.later HW.out)
      have HX := Lib.hid hx
      clear hcc hc hw hx r
      cases hp : (notPool ids) x
      · rw [hp] at P
        have P := Lib.hid P
        have HN2 := Lib.hid (show ∀ i y, i < k + 1 → l[i]? = some y → (notPool ids) y = false from fun i y hi hy => by
          by_cases e : i = k
          · subst e; rw [HX.out] at hy; cases hy; exact hp
          · exact HN.out i y (by omega) hy)
        clear hp
        go_wp2_with fail
        refine P.out.mono ?_
        rintro e w1 ⟨rfl, b1⟩
        have B1 := Lib.hid (chainX w HW.out b1)
        clear b1 P
        go_wp2
        go_roundw
        case rel => exact ⟨k + 1, by omega, by go_num, HN2.out, B1.out⟩
        case measure => simp [intOf]; omega
      · rw [hp] at P
        have P := Lib.hid P
        have Y := Lib.hid (show ∃ x, x ∈ l ∧ (notPool ids) x = true from ⟨x, MEM.out k x HX.out, hp⟩)
        clear hp
        go_wp2_with fail
        refine P.out.mono ?_
        rintro e w1 ⟨rfl, b1⟩
        have B1 := Lib.hid (chainX w HW.out b1)
        clear b1 P
        go_wp2
        go_ret
        exact ⟨_, rfl, B1.out, .inl ⟨by omega, Y.out⟩⟩
    · obtain rfl : k = n := by omega
      have N := Lib.hid (NO.out HN.out)
      clear hc hw
      go_wp2
      go_ret
      exact ⟨_, rfl, HW.out, .inr ⟨rfl, N.out⟩⟩
set_option maxRecDepth 100000 in
set_option maxHeartbeats 1000000 in
theorem ctPool (ids : List Int) (bb : Nat) (ai : Option Addr) (a : Option Addr) (cap : Nat) (l : List DPool) (w : World) (hl : l.length ≤ 2097152) {fr : Bool} {lo : Nat} (hc : Rows fr lo w a l) (hil : ids.length ≤ 2097152) {fr2 : Bool} {lo2 : Nat} (hi0 : Rows fr2 lo2 w ai ids) (hb0 : BxN w bb [.slice ai ids.length ids.length]) :
    Calls Try.prog 126 #[.slice a l.length cap, .func (.func 127) #[] #[.pointer (some ⟨bb, 0, none⟩)]] w (Tm.IffB (∃ x, x ∈ l ∧ (notPool ids) x = true) w) := by
  have I := Lib.hid (ctPool_idx ids bb ai a cap l w hl hc hil hi0 hb0)
  clear hc
  go_enter Try.func126, Try.ntmps126
  go_wp2_with fail
  refine I.out.mono ?_
  rintro e w1 ⟨i, rfl, b1, ⟨h0, Y⟩ | ⟨rfl, N⟩⟩
  · have h' : decide (0 ≤ i) = true := decide_eq_true h0
    have Y := Lib.hid Y
    have B := Lib.hid b1
    clear b1
    go_wp2
    go_ret
    exact Tm.IffB.yes Y.out B.out
  · have N := Lib.hid N
    have B := Lib.hid b1
    clear b1
    go_wp2
    go_ret
    exact Tm.IffB.no N.out B.out
set_option maxRecDepth 100000 in
set_option maxHeartbeats 1000000 in
theorem ctDev_idx (T : TD) (mb p q bb : Nat) (a : Option Addr) (cap : Nat) (l : List Int) (w : World) (hl : l.length ≤ 2097152) {fr : Bool} {lo : Nat} (hc : Rows fr lo w a l) (hw0 : Whole T mb p q w) (hb0 : BxN w bb [.map (some mb)]) :
    Calls Try.prog 169 #[.slice a l.length cap, .func (.func 131) #[] #[.pointer (some ⟨bb, 0, none⟩)]] w (IdxW (∃ x, x ∈ l ∧ (notDev T) x = true) w) := by
  have HL := Lib.hid (fun k (h : k < l.length) => get_lt h)
  have NO := Lib.hid (fun (h : ∀ i x, i < l.length → l[i]? = some x → (notDev T) x = false) => (show ¬ ∃ x, x ∈ l ∧ (notDev T) x = true from none_of h))
  have MEM := Lib.hid (fun k x (h : l[k]? = some x) => List.mem_of_getElem? h)
  obtain ⟨n, hn⟩ : ∃ n, n = l.length := ⟨_, rfl⟩
  rw [← hn] at hl HL NO ⊢
  clear hn
  go_enter Try.func169, Try.ntmps169
  go_wp2
  go_loopw [8] (fun i wr => ∃ k : Nat, k ≤ n ∧ i = .int .i64 k ∧ (∀ i x, i < k → l[i]? = some x → (notDev T) x = false) ∧ Below w.heap.size w wr) (fun i _ => n - (intOf i).toNat)
  case atStart => exact ⟨0, by omega, rfl, fun i x hi => absurd hi (Nat.not_lt_zero _), Below.refl _ _⟩
  case round =>
    obtain ⟨k, hk, rfl, HN, hw⟩ := hrel
    have HN := Lib.hid HN
    have HW := Lib.hid hw
    by_cases hlt : k < n
    · obtain ⟨x, hx⟩ := HL.out k hlt
      obtain ⟨b, off, cs, rfl, -, hB, hr, hcc⟩ := (hc.below hw).at' hx
      have r := hr
      obtain ⟨rfl, f0_0⟩ := hr
      have c0 : wr.cell? ⟨b, off + k, none⟩ = some (.int .i64 x) := by have := hcc 0 _ rfl; rwa [show off + k * Rdb.size Int + 0 = off + k from by show off + k * 1 + 0 = _; omega] at this
      have P := devNot T mb p q bb x wr f0_0 (hw0.later HW.out) (hb0.later HW.out)
      have HX := Lib.hid hx
      clear hcc hc hw hx r
      cases hp : (notDev T) x
      · rw [hp] at P
        have P := Lib.hid P
        have HN2 := Lib.hid (show ∀ i y, i < k + 1 → l[i]? = some y → (notDev T) y = false from fun i y hi hy => by
          by_cases e : i = k
          · subst e; rw [HX.out] at hy; cases hy; exact hp
          · exact HN.out i y (by omega) hy)
        clear hp
        go_wp2_with fail
        refine P.out.mono ?_
        rintro e w1 ⟨rfl, b1⟩
        have B1 := Lib.hid (chainX w HW.out b1)
        clear b1 P
        go_wp2
        go_roundw
        case rel => exact ⟨k + 1, by omega, by go_num, HN2.out, B1.out⟩
        case measure => simp [intOf]; omega
      · rw [hp] at P
        have P := Lib.hid P
        have Y := Lib.hid (show ∃ x, x ∈ l ∧ (notDev T) x = true from ⟨x, MEM.out k x HX.out, hp⟩)
        clear hp
        go_wp2_with fail
        refine P.out.mono ?_
        rintro e w1 ⟨rfl, b1⟩
        have B1 := Lib.hid (chainX w HW.out b1)
        clear b1 P
        go_wp2
        go_ret
        exact ⟨_, rfl, B1.out, .inl ⟨by omega, Y.out⟩⟩
    · obtain rfl : k = n := by omega
      have N := Lib.hid (NO.out HN.out)
      clear hc hw
      go_wp2
      go_ret
      exact ⟨_, rfl, HW.out, .inr ⟨rfl, N.out⟩⟩
set_option maxRecDepth 100000 in
set_option maxHeartbeats 1000000 in
theorem ctDev (T : TD) (mb p q bb : Nat) (a : Option Addr) (cap : Nat) (l : List Int) (w : World) (hl : l.length ≤ 2097152) {fr : Bool} {lo : Nat} (hc : Rows fr lo w a l) (hw0 : Whole T mb p q w) (hb0 : BxN w bb [.map (some mb)]) :
    Calls Try.prog 130 #[.slice a l.length cap, .func (.func 131) #[] #[.pointer (some ⟨bb, 0, none⟩)]] w (Tm.IffB (∃ x, x ∈ l ∧ (notDev T) x = true) w) := by
  have I := Lib.hid (ctDev_idx T mb p q bb a cap l w hl hc hw0 hb0)
  clear hc
  go_enter Try.func130, Try.ntmps130
  go_wp2_with fail
  refine I.out.mono ?_
  rintro e w1 ⟨i, rfl, b1, ⟨h0, Y⟩ | ⟨rfl, N⟩⟩
  · have h' : decide (0 ≤ i) = true := decide_eq_true h0
    have Y := Lib.hid Y
    have B := Lib.hid b1
    clear b1
    go_wp2
    go_ret
    exact Tm.IffB.yes Y.out B.out
  · have N := Lib.hid N
    have B := Lib.hid b1
    clear b1
    go_wp2
    go_ret
    exact Tm.IffB.no N.out B.out
end Go.Proofs.Yteogbfmghbaelaa.Rd
