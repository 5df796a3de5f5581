/-
  MapOk in the program.
-/
import Derived.Test.YteogbfmghbaelaaMpS
namespace Go.Proofs.Yteogbfmghbaelaa.Rd
open Go.RowKit Go.ChangeShapes Go.WideShapes Go.Proofs.Yteogbfmghbaelaa.GfI Go.Proofs.Yteogbfmghbaelaa.GfS
open Go.Proofs.Yteogbfmghbaelaa.Sg (BxN)
open Go.Proofs.Yteogbfmghbaelaa.Tm (TD TA TIn IffB RisN zF Whole Same isRising)
open Go.Proofs.Yteogbfmghbaelaa.MixC (Words)
set_option linter.unusedVariables false
set_option linter.unusedSimpArgs false

/-- The first index of id in a list, or -1. -/
def FndP (l : List Int) (id : Int) (r : Int) : Prop := (∃ k : Nat, r = k ∧ l[k]? = some id ∧ ∀ i, i < k → l[i]? ≠ some id) ∨ (r = -1 ∧ id ∉ l)
def FndW (l : List Int) (id : Int) (w : World) (e : Ending) (w' : World) : Prop := ∃ r : Int, e = .returned (.int .i64 r) ∧ Below w.heap.size w w' ∧ FndP l id r
theorem FndP.neg {l : List Int} {id r : Int} (h : FndP l id r) : r < 0 ↔ id ∉ l := by
  rcases h with ⟨k, rfl, h1, -⟩ | ⟨rfl, h⟩
  · exact ⟨fun q => by omega, fun q => absurd (List.mem_of_getElem? h1) q⟩
  · exact ⟨fun _ => h, fun _ => by omega⟩
theorem fnd_hit {α : Type} {l : List α} {g : α → Int} {id : Int} {k : Nat} {x : α} (h : l[k]? = some x) (hN : ∀ i y, i < k → l[i]? = some y → g y ≠ id) (e : g x = id) : FndP (l.map g) id k :=
  .inl ⟨k, rfl, by rw [List.getElem?_map, h]; exact congrArg some e, fun i hi q => by
    rw [List.getElem?_map] at q
    cases hy : l[i]? with
    | none => rw [hy] at q; cases q
    | some y => rw [hy] at q; exact hN i y hi hy (Option.some.inj q)⟩
theorem fnd_none {α : Type} {l : List α} {g : α → Int} {id : Int} (hN : ∀ i y, i < l.length → l[i]? = some y → g y ≠ id) : FndP (l.map g) id (-1) :=
  .inr ⟨rfl, fun h => by
    obtain ⟨y, hy, e⟩ := List.mem_map.1 h
    obtain ⟨i, hi, rfl⟩ := List.getElem_of_mem hy
    exact hN i _ hi (List.getElem?_eq_getElem hi) e⟩
set_option maxRecDepth 100000 in
set_option maxHeartbeats 1000000 in
theorem l11Rule {cs : List Value} {fr : Bool} {lo : Nat} (d : DMap) (id : Int) (w : World) (hl : d.rules.length ≤ 2097152) (h : Rdb.rd fr lo w cs d) :
    Calls Try.prog 116 #[.agg cs.toArray, .int .i64 id] w (FndW (d.rules.map DRule.id) id w) := by
  obtain ⟨a0_2, c0_2, a0_3, c0_3, a0_4, c0_4, a0_5, c0_5, a0_6, c0_6, a0_7, c0_7, rfl, f0_0, f0_1, f0_2, g0_2, f0_3, g0_3, f0_4, g0_4, f0_5, g0_5, f0_6, g0_6, f0_7, g0_7⟩ := shape_Map h
  have L := Lib.hid (lay w (.cells #[.int .i64 d.epoch, .int .i64 d.term, .slice a0_2 d.tree.devices.length c0_2, .slice a0_3 d.tree.buckets.length c0_3, .slice a0_4 d.rules.length c0_4, .slice a0_5 d.pools.length c0_5, .slice a0_6 d.up.length c0_6, .slice a0_7 d.out.length c0_7] 46))
  have X := BxN.new w #[.int .i64 d.epoch, .int .i64 d.term, .slice a0_2 d.tree.devices.length c0_2, .slice a0_3 d.tree.buckets.length c0_3, .slice a0_4 d.rules.length c0_4, .slice a0_5 d.pools.length c0_5, .slice a0_6 d.up.length c0_6, .slice a0_7 d.out.length c0_7] 46
  have x4 := X.cells 4 _ rfl
  have RO := Lib.hid (f0_4.below L.out)
  have HL := Lib.hid (fun k (h : k < d.rules.length) => get_lt h)
  have HIT := Lib.hid (fun (k : Nat) (x : DRule) (h : d.rules[k]? = some x) (hN : ∀ (i : Nat) (y : DRule), i < k → d.rules[i]? = some y → y.id ≠ id) (e : x.id = id) => (show FndP (d.rules.map DRule.id) id k from fnd_hit h hN e))
  have NON := Lib.hid (fun (hN : ∀ (i : Nat) (y : DRule), i < d.rules.length → d.rules[i]? = some y → y.id ≠ id) => (show FndP (d.rules.map DRule.id) id (-1) from fnd_none hN))
  obtain ⟨n, hn⟩ : ∃ n, n = d.rules.length := ⟨_, rfl⟩
  rw [← hn] at hl HL NON x4 L RO ⊢
  clear hn X h f0_2 f0_3 f0_4 f0_5 f0_6 f0_7
  go_enter Try.func116, Try.ntmps116
  go_wp2
  go_loop [5] (fun i => ∃ k : Nat, k ≤ n ∧ i = .int .i64 k ∧ (∀ (i : Nat) (y : DRule), i < k → d.rules[i]? = some y → y.id ≠ id)) (fun i => n - (intOf i).toNat)
  case atStart => exact ⟨0, by omega, rfl, fun i y hi => absurd hi (Nat.not_lt_zero _)⟩
  case round =>
    obtain ⟨k, hk, rfl, HN⟩ := hrel
    have HN := Lib.hid HN
    by_cases hlt : k < n
    · obtain ⟨x, hx⟩ := HL.out k hlt
      obtain ⟨b, off, cs, rfl, -, hB, hr, hcc⟩ := RO.out.at' hx
      obtain ⟨rfl, f1_0, f1_1, f1_2⟩ := shape_Rule hr
      have c0 : World.cell? _ ⟨b, off + k * 4, none⟩ = some (.int .i64 x.id) := hcc 0 _ rfl
      clear hcc hr
      by_cases e : x.id = id
      · have R := Lib.hid (HIT.out k x hx HN.out e)
        have e' : (x.id == id) = true := by simpa using e
        clear e hx
        generalize x.id = y at *
        go_wp2
        go_ret
        exact ⟨_, rfl, L.out, R.out⟩
      · have e' : (x.id == id) = false := by simpa using e
        have HN2 := Lib.hid (show ∀ (i : Nat) (y : DRule), i < k + 1 → d.rules[i]? = some y → y.id ≠ id from fun i y hi hy => by
          by_cases q : i = k
          · subst q; rw [hx] at hy; cases hy; exact e
          · exact HN.out i y (by omega) hy)
        clear e hx
        generalize x.id = y at *
        go_wp2
        go_round
        case rel => exact ⟨k + 1, by omega, by go_num, HN2.out⟩
        case measure => simp [intOf]; omega
    · obtain rfl : k = n := by omega
      have R := Lib.hid (NON.out HN.out)
      go_wp2
      go_ret
      exact ⟨_, rfl, L.out, R.out⟩
set_option maxRecDepth 100000 in
set_option maxHeartbeats 1000000 in
theorem l11Pool {cs : List Value} {fr : Bool} {lo : Nat} (d : DMap) (id : Int) (w : World) (hl : d.pools.length ≤ 2097152) (h : Rdb.rd fr lo w cs d) :
    Calls Try.prog 69 #[.agg cs.toArray, .int .i64 id] w (FndW (d.pools.map DPool.id) id w) := by
  obtain ⟨a0_2, c0_2, a0_3, c0_3, a0_4, c0_4, a0_5, c0_5, a0_6, c0_6, a0_7, c0_7, rfl, f0_0, f0_1, f0_2, g0_2, f0_3, g0_3, f0_4, g0_4, f0_5, g0_5, f0_6, g0_6, f0_7, g0_7⟩ := shape_Map h
  have L := Lib.hid (lay w (.cells #[.int .i64 d.epoch, .int .i64 d.term, .slice a0_2 d.tree.devices.length c0_2, .slice a0_3 d.tree.buckets.length c0_3, .slice a0_4 d.rules.length c0_4, .slice a0_5 d.pools.length c0_5, .slice a0_6 d.up.length c0_6, .slice a0_7 d.out.length c0_7] 46))
  have X := BxN.new w #[.int .i64 d.epoch, .int .i64 d.term, .slice a0_2 d.tree.devices.length c0_2, .slice a0_3 d.tree.buckets.length c0_3, .slice a0_4 d.rules.length c0_4, .slice a0_5 d.pools.length c0_5, .slice a0_6 d.up.length c0_6, .slice a0_7 d.out.length c0_7] 46
  have x5 := X.cells 5 _ rfl
  have RO := Lib.hid (f0_5.below L.out)
  have HL := Lib.hid (fun k (h : k < d.pools.length) => get_lt h)
  have HIT := Lib.hid (fun (k : Nat) (x : DPool) (h : d.pools[k]? = some x) (hN : ∀ (i : Nat) (y : DPool), i < k → d.pools[i]? = some y → y.id ≠ id) (e : x.id = id) => (show FndP (d.pools.map DPool.id) id k from fnd_hit h hN e))
  have NON := Lib.hid (fun (hN : ∀ (i : Nat) (y : DPool), i < d.pools.length → d.pools[i]? = some y → y.id ≠ id) => (show FndP (d.pools.map DPool.id) id (-1) from fnd_none hN))
  obtain ⟨n, hn⟩ : ∃ n, n = d.pools.length := ⟨_, rfl⟩
  rw [← hn] at hl HL NON x5 L RO ⊢
  clear hn X h f0_2 f0_3 f0_4 f0_5 f0_6 f0_7
  go_enter Try.func69, Try.ntmps69
  go_wp2
  go_loop [5] (fun i => ∃ k : Nat, k ≤ n ∧ i = .int .i64 k ∧ (∀ (i : Nat) (y : DPool), i < k → d.pools[i]? = some y → y.id ≠ id)) (fun i => n - (intOf i).toNat)
  case atStart => exact ⟨0, by omega, rfl, fun i y hi => absurd hi (Nat.not_lt_zero _)⟩
  case round =>
    obtain ⟨k, hk, rfl, HN⟩ := hrel
    have HN := Lib.hid HN
    by_cases hlt : k < n
    · obtain ⟨x, hx⟩ := HL.out k hlt
      obtain ⟨b, off, cs, rfl, -, hB, hr, hcc⟩ := RO.out.at' hx
      obtain ⟨rfl, f1_0, f1_1, f1_2, f1_3, f1_4, f1_5⟩ := shape_Pool hr
      have c0 : World.cell? _ ⟨b, off + k * 6, none⟩ = some (.int .i64 x.id) := hcc 0 _ rfl
      clear hcc hr
      by_cases e : x.id = id
      · have R := Lib.hid (HIT.out k x hx HN.out e)
        have e' : (x.id == id) = true := by simpa using e
        clear e hx
        generalize x.id = y at *
        go_wp2
        go_ret
        exact ⟨_, rfl, L.out, R.out⟩
      · have e' : (x.id == id) = false := by simpa using e
        have HN2 := Lib.hid (show ∀ (i : Nat) (y : DPool), i < k + 1 → d.pools[i]? = some y → y.id ≠ id from fun i y hi hy => by
          by_cases q : i = k
          · subst q; rw [hx] at hy; cases hy; exact e
          · exact HN.out i y (by omega) hy)
        clear e hx
        generalize x.id = y at *
        go_wp2
        go_round
        case rel => exact ⟨k + 1, by omega, by go_num, HN2.out⟩
        case measure => simp [intOf]; omega
    · obtain rfl : k = n := by omega
      have R := Lib.hid (NON.out HN.out)
      go_wp2
      go_ret
      exact ⟨_, rfl, L.out, R.out⟩
theorem map_sz {d : DMap} (h : Rdb.sz d ≤ 2097152) : Rdb.sz d.tree ≤ 2097152 ∧ d.rules.length ≤ 2097152 ∧ d.pools.length ≤ 2097152 ∧ d.up.length ≤ 2097152 ∧ d.out.length ≤ 2097152 := by
  have e : Rdb.sz d = Rdb.sz d.tree + Rdb.sz d.rules + Rdb.sz d.pools + Rdb.sz d.up + Rdb.sz d.out := rfl
  have e1 := sz_len d.rules
  have e2 := sz_len d.pools
  have e3 := sz_len d.up
  have e4 := sz_len d.out
  omega
theorem mok_mk {d : DMap} (e : inB d.epoch 1 60 = true) (t : inB d.term 0 d.epoch = true) (O : (TDof d.tree).Ok)
    (r : RisN (zF (d.rules.map DRule.id)) (d.rules.map DRule.id).length ∧ ∀ x, x ∈ d.rules → ruleC (TDof d.tree) x = true)
    (p : RisN (zF (d.pools.map DPool.id)) (d.pools.map DPool.id).length ∧ ∀ x, x ∈ d.pools → poolC (d.rules.map DRule.id) x = true) (u : lstOk (TDof d.tree) d.up) (o : lstOk (TDof d.tree) d.out) : MOk d :=
  ⟨e, t, O, by rw [← List.length_map (f := DRule.id)]; exact r.1, r.2, by rw [← List.length_map (f := DPool.id)]; exact p.1, p.2, u, o⟩
theorem mok_rules {d : DMap} (h : MOk d) : RisN (zF (d.rules.map DRule.id)) (d.rules.map DRule.id).length ∧ ∀ x, x ∈ d.rules → ruleC (TDof d.tree) x = true := ⟨by rw [List.length_map]; exact h.rr, h.ra⟩
theorem mok_pools {d : DMap} (h : MOk d) : RisN (zF (d.pools.map DPool.id)) (d.pools.map DPool.id).length ∧ ∀ x, x ∈ d.pools → poolC (d.rules.map DRule.id) x = true := ⟨by rw [List.length_map]; exact h.pr, h.pa⟩

set_option maxRecDepth 100000 in
set_option maxHeartbeats 4000000 in
theorem implMapOk {cs : List Value} {fr : Bool} {lo : Nat} (d : DMap) (w : World) (hs : Rdb.sz d ≤ 2097152) (h : Rdb.rd fr lo w cs d) :
    Calls Try.prog 20 #[.agg cs.toArray] w (IffB (MOk d) w) := by
  obtain ⟨z0, z1, z2, z3, z4⟩ := map_sz hs
  have RD := Lib.hid h
  obtain ⟨a0_2, c0_2, a0_3, c0_3, a0_4, c0_4, a0_5, c0_5, a0_6, c0_6, a0_7, c0_7, rfl, f0_0, f0_1, f0_2, g0_2, f0_3, g0_3, f0_4, g0_4, f0_5, g0_5, f0_6, g0_6, f0_7, g0_7⟩ := shape_Map h
  have L := Lib.hid (lay w (.cells #[.int .i64 d.epoch, .int .i64 d.term, .slice a0_2 d.tree.devices.length c0_2, .slice a0_3 d.tree.buckets.length c0_3, .slice a0_4 d.rules.length c0_4, .slice a0_5 d.pools.length c0_5, .slice a0_6 d.up.length c0_6, .slice a0_7 d.out.length c0_7] 46))
  have X := Lib.hid (BxN.new w #[.int .i64 d.epoch, .int .i64 d.term, .slice a0_2 d.tree.devices.length c0_2, .slice a0_3 d.tree.buckets.length c0_3, .slice a0_4 d.rules.length c0_4, .slice a0_5 d.pools.length c0_5, .slice a0_6 d.up.length c0_6, .slice a0_7 d.out.length c0_7] 46)
  obtain ⟨I, C, TI⟩ := tin_of (f0_2.below L.out) (f0_3.below L.out) c0_2 c0_3
  have PA := Lib.hid (Tm.partsOf (TDof d.tree) ⟨a0_2, c0_2, a0_3, c0_3, I, C⟩ _ (tsz_of z0) (twf_of f0_3) TI)
  have PA := Lib.hid (show Calls _ _ #[Value.agg #[.slice a0_2 d.tree.devices.length c0_2, .slice a0_3 d.tree.buckets.length c0_3]] _ _ from PA.out)
  have RU := Lib.hid (fun mb p q w' (b : Below w.heap.size w w') (hw : Whole (TDof d.tree) mb p q w') => rulesOk (TDof d.tree) mb p q d w' z1 (Rdb.below RD.out b) hw)
  have PO := Lib.hid (fun w' (b : Below w.heap.size w w') => poolsOk d w' z1 z2 (Rdb.below RD.out b))
  have LU := Lib.hid (fun mb p q w' (b : Below w.heap.size w w') (hw : Whole (TDof d.tree) mb p q w') => lists (TDof d.tree) mb p q a0_6 c0_6 d.up w' z3 (f0_6.below b) hw)
  have LO := Lib.hid (fun mb p q w' (b : Below w.heap.size w w') (hw : Whole (TDof d.tree) mb p q w') => lists (TDof d.tree) mb p q a0_7 c0_7 d.out w' z4 (f0_7.below b) hw)
  have MK := Lib.hid (@mok_mk d)
  have NT := Lib.hid (show ¬ (TDof d.tree).Ok → ¬ MOk d from fun n h => n h.tr)
  have NE := Lib.hid (show inB d.epoch 1 60 = false → ¬ MOk d from fun n h => by have := h.ep; rw [n] at this; cases this)
  have NM := Lib.hid (show inB d.term 0 d.epoch = false → ¬ MOk d from fun n h => by have := h.tm; rw [n] at this; cases this)
  have NR := Lib.hid (fun (n : ¬ (RisN (zF (d.rules.map DRule.id)) (d.rules.map DRule.id).length ∧ ∀ x, x ∈ d.rules → ruleC (TDof d.tree) x = true)) => show ¬ MOk d from fun h => n (mok_rules h))
  have NP := Lib.hid (fun (n : ¬ (RisN (zF (d.pools.map DPool.id)) (d.pools.map DPool.id).length ∧ ∀ x, x ∈ d.pools → poolC (d.rules.map DRule.id) x = true)) => show ¬ MOk d from fun h => n (mok_pools h))
  have NU := Lib.hid (fun (n : ¬ lstOk (TDof d.tree) d.up) => show ¬ MOk d from fun h => n h.up)
  have NO := Lib.hid (fun (n : ¬ lstOk (TDof d.tree) d.out) => show ¬ MOk d from fun h => n h.ou)
  have IW := Lib.hid (fun w' => Wi.isWithin d.epoch 1 60 (by omega) w')
  have IT := Lib.hid (fun (h : 0 ≤ d.epoch) w' => Wi.isWithin d.term 0 d.epoch h w')
  clear h TI RD f0_2 f0_3 f0_4 f0_5 f0_6 f0_7
  go_enter Try.func20, Try.ntmps20
  go_wp2_with fail
  refine PA.out.mono ?_
  rintro e w1 ⟨b1, ⟨N, rfl⟩ | ⟨Y, mb, p, q, base, U, S, rfl, hU, hP⟩⟩
  · have B1 := Lib.hid (chainX w L.out b1)
    have G := Lib.hid (NT.out N)
    clear N b1
    go_wp2
    go_ret
    exact IffB.no G.out B1.out
  · have B1 := Lib.hid (chainX w L.out b1)
    have HW := Lib.hid (hP.whole Y hU)
    have OK := Lib.hid Y
    have X1 := X.out.later b1
    have x0 := X1.cells 0 _ rfl
    have x1 := X1.cells 1 _ rfl
    have x2 := X1.cells 2 _ rfl
    have x3 := X1.cells 3 _ rfl
    have x4 := X1.cells 4 _ rfl
    have x5 := X1.cells 5 _ rfl
    have x6 := X1.cells 6 _ rfl
    have x7 := X1.cells 7 _ rfl
    have XH := Lib.hid X1
    clear b1 X1 hP hU Y X
    cases he : inB d.epoch 1 60
    · have G := Lib.hid (NE.out he)
      rw [he] at IW
      clear he
      go_wp2_with fail
      refine (IW.out _).mono ?_
      rintro e w2 ⟨rfl, rfl⟩
      go_wp2
      go_ret
      exact IffB.no G.out B1.out
    · have h0 : 0 ≤ d.epoch := by have := of_decide_eq_true he; omega
      have IT := Lib.hid (IT.out h0)
      have HE := Lib.hid he
      rw [he] at IW
      clear he h0
      cases ht : inB d.term 0 d.epoch
      · have G := Lib.hid (NM.out ht)
        rw [ht] at IT
        clear ht
        go_wp2_with fail
        refine (IW.out _).mono ?_
        rintro e w2 ⟨rfl, rfl⟩
        go_wp2_with fail
        refine (IT.out _).mono ?_
        rintro e w2 ⟨rfl, rfl⟩
        go_wp2
        go_ret
        exact IffB.no G.out B1.out
      · have HT := Lib.hid ht
        rw [ht] at IT
        clear ht
        go_wp2_with fail
        refine (IW.out _).mono ?_
        rintro e w2 ⟨rfl, rfl⟩
        go_wp2_with fail
        refine (IT.out _).mono ?_
        rintro e w2 ⟨rfl, rfl⟩
        go_wp2_with fail
        refine (RU.out mb p q _ B1.out HW.out).mono ?_
        rintro e w2 ⟨r, rfl, hr, b2⟩
        have B2 := Lib.hid (chainX w B1.out b2)
        have HW2 := Lib.hid (HW.out.later b2)
        have X2 := XH.out.later b2
        have HR := Lib.hid hr
        clear hr x0 x1 x2 x3 x4 x5 x6 x7
        have x0 := X2.cells 0 _ rfl
        have x1 := X2.cells 1 _ rfl
        have x2 := X2.cells 2 _ rfl
        have x3 := X2.cells 3 _ rfl
        have x4 := X2.cells 4 _ rfl
        have x5 := X2.cells 5 _ rfl
        have x6 := X2.cells 6 _ rfl
        have x7 := X2.cells 7 _ rfl
        have XH2 := Lib.hid X2
        clear X2 b2 HW XH
        cases r
        · have G := Lib.hid (NR.out (fun h => by have := HR.out.2 h; cases this))
          go_wp2
          go_ret
          exact IffB.no G.out B2.out
        · have KR := Lib.hid (HR.out.1 rfl)
          clear HR
          go_wp2_with fail
          refine (PO.out _ B2.out).mono ?_
          rintro e w3 ⟨r, rfl, hr, b3⟩
          have B3 := Lib.hid (chainX w B2.out b3)
          have HW3 := Lib.hid (HW2.out.later b3)
          have X3 := XH2.out.later b3
          have HR := Lib.hid hr
          clear hr x0 x1 x2 x3 x4 x5 x6 x7
          have x6 := X3.cells 6 _ rfl
          have XH3 := Lib.hid X3
          clear X3 b3 HW2 XH2
          cases r
          · have G := Lib.hid (NP.out (fun h => by have := HR.out.2 h; cases this))
            go_wp2
            go_ret
            exact IffB.no G.out B3.out
          · have KP := Lib.hid (HR.out.1 rfl)
            clear HR
            go_wp2_with fail
            refine (LU.out mb p q _ B3.out HW3.out).mono ?_
            rintro e w4 ⟨r, rfl, hr, b4⟩
            have B4 := Lib.hid (chainX w B3.out b4)
            have HW4 := Lib.hid (HW3.out.later b4)
            have X4 := XH3.out.later b4
            have HR := Lib.hid hr
            clear hr x6
            have x7 := X4.cells 7 _ rfl
            clear X4 b4 HW3 XH3
            cases r
            · have G := Lib.hid (NU.out (fun h => by have := HR.out.2 h; cases this))
              go_wp2
              go_ret
              exact IffB.no G.out B4.out
            · have KU := Lib.hid (HR.out.1 rfl)
              clear HR
              go_wp2_with fail
              refine (LO.out mb p q _ B4.out HW4.out).mono ?_
              rintro e w5 ⟨r, rfl, hr, b5⟩
              have B5 := Lib.hid (chainX w B4.out b5)
              have HR := Lib.hid hr
              clear hr b5
              cases r
              · have G := Lib.hid (NO.out (fun h => by have := HR.out.2 h; cases this))
                go_wp2
                go_ret
                exact IffB.no G.out B5.out
              · have G := Lib.hid (MK.out HE.out HT.out OK.out KR.out KP.out KU.out (HR.out.1 rfl))
                go_wp2
                go_ret
                exact IffB.yes G.out B5.out
end Go.Proofs.Yteogbfmghbaelaa.Rd
