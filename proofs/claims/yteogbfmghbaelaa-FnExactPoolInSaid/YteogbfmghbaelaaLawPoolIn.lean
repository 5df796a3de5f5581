/-
  PoolIn in the program.
-/
import Derived.Test.YteogbfmghbaelaaMpK
import Derived.Test.YteogbfmghbaelaaMpO
import Derived.Deep.RegionHeld3
namespace Go.Proofs.Yteogbfmghbaelaa.Rd
open Go.RowKit Go.ChangeShapes Go.WideShapes Go.Proofs.Yteogbfmghbaelaa.GfI Go.Proofs.Yteogbfmghbaelaa.GfS
open Go.Proofs.Yteogbfmghbaelaa.Sg (BxN)
open Go.Proofs.Yteogbfmghbaelaa.Tm (TD TA TIn IffB RisN zF Whole Same isRising)
open Go.Proofs.Yteogbfmghbaelaa.MixC (Words)
set_option linter.unusedVariables false
set_option linter.unusedSimpArgs false

/-- The first index of a number in a list, by the library. -/
def IdxX (z : List Int) (x : Int) (w : World) (e : Ending) (w' : World) : Prop := ∃ r : Int, e = .returned (.int .i64 r) ∧ w = w' ∧ FndP z x r
theorem fnd_first {z : List Int} {x : Int} {k : Nat} (hk : k < z.length) (N : x ∉ z.take k) (e : z.getD k 0 = x) : FndP z x k := by
  refine .inl ⟨k, rfl, ?_, fun i hi q => N ?_⟩
  · rw [List.getD_eq_getElem?_getD, List.getElem?_eq_getElem hk] at e; rw [List.getElem?_eq_getElem hk]; exact congrArg some e
  · exact List.mem_of_getElem? (i := i) (by rw [List.getElem?_take, if_pos hi]; exact q)
theorem FndP.uniq {z : List Int} {x r : Int} {k : Nat} (h : FndP z x r) (g : FndP z x k) : r = k := by
  rcases g with ⟨k', e, g1, g2⟩ | ⟨e, g⟩
  · obtain rfl : k = k' := by omega
    rcases h with ⟨j, rfl, h1, h2⟩ | ⟨rfl, h⟩
    · rcases Nat.lt_trichotomy j k with q | q | q
      · exact absurd h1 (g2 j q)
      · rw [q]
      · exact absurd g1 (h2 k q)
    · exact absurd (List.mem_of_getElem? g1) h
  · omega
theorem FndP.yes {z : List Int} {x r : Int} (h : FndP z x r) (m : x ∈ z) : ∃ k : Nat, r = k ∧ k < z.length := by
  rcases h with ⟨k, rfl, h1, -⟩ | ⟨rfl, h⟩
  · exact ⟨k, rfl, (List.getElem?_eq_some_iff.1 h1).1⟩
  · exact absurd m h
set_option maxRecDepth 100000 in
set_option maxHeartbeats 1000000 in
theorem slicesIndexX (a : Option Addr) (cap : Nat) (z : List Int) (x : Int) (w : World) (hz : z.length ≤ 2097152) (h : Words w a z) :
    Calls Try.prog 70 #[.slice a z.length cap, .int .i64 x] w (IdxX z x w) := by
  obtain ⟨n, hn⟩ : ∃ n, n = z.length := ⟨_, rfl⟩
  have HN := Lib.hid hn
  rw [← hn] at hz ⊢
  clear hn
  go_enter Try.func70, Try.ntmps70
  go_wp2
  go_loop [8] (fun i => ∃ k : Nat, k ≤ n ∧ i = .int .i64 k ∧ x ∉ z.take k) (fun i => n - (intOf i).toNat)
  case atStart => exact ⟨0, by omega, rfl, by simp⟩
  case round =>
    obtain ⟨k, hk, rfl, N⟩ := hrel
    have NH := Lib.hid N
    clear N
    by_cases hlt : k < n
    · have hkz : k < z.length := by rw [← HN.out]; exact hlt
      obtain ⟨b, off, rfl, hB, hcc⟩ := h.resolve_left (by intro e; rw [e] at hkz; simp at hkz)
      have c0 := hcc k hkz
      have HK := Lib.hid hkz
      clear hcc h
      by_cases q : z.getD k 0 = x
      · have R := Lib.hid (fnd_first HK.out NH.out q)
        generalize z.getD k 0 = y at *
        subst q
        go_wp2
        go_ret
        exact ⟨_, rfl, rfl, R.out⟩
      · have N2 := Lib.hid (Tm.mem_take_succ HK.out NH.out q)
        generalize z.getD k 0 = y at *
        have q' : (x == y) = false := by simpa using fun e => q e.symm
        clear q
        go_wp2
        go_round
        case rel => exact ⟨k + 1, by omega, by go_num, N2.out⟩
        case measure => simp [intOf]; omega
    · obtain rfl : k = n := by omega
      have R := Lib.hid (show x ∉ z from by have := NH.out; rw [HN.out, List.take_length] at this; exact this)
      clear h
      go_wp2
      go_ret
      exact ⟨_, rfl, rfl, .inr ⟨rfl, R.out⟩⟩
/-- What PoolIn answers. -/
def PlP (d : DMap) (id : Int) (p : DPool) (b : Bool) : Prop := (b = true ∧ MOk d ∧ ∃ k : Nat, d.pools[k]? = some p ∧ FndP (d.pools.map DPool.id) id k) ∨ (b = false ∧ p = ⟨0, ⟨0, 0⟩, 0, 0, 0⟩ ∧ ¬ (MOk d ∧ id ∈ d.pools.map DPool.id))
theorem plp_ex (d : DMap) (id : Int) : ∃ p b, PlP d id p b := by
  by_cases h : MOk d ∧ id ∈ d.pools.map DPool.id
  · obtain ⟨m, hm⟩ := h
    have : ∃ k : Nat, (d.pools.map DPool.id)[k]? = some id := by obtain ⟨k, hk, e⟩ := List.getElem_of_mem hm; exact ⟨k, by rw [List.getElem?_eq_getElem hk, e]⟩
    obtain ⟨k, hk, hmin⟩ : ∃ k : Nat, (d.pools.map DPool.id)[k]? = some id ∧ ∀ i, i < k → (d.pools.map DPool.id)[i]? ≠ some id := by
      obtain ⟨k0, h0⟩ := this
      induction k0 using Nat.strongRecOn with
      | _ k0 ih =>
        by_cases q : ∃ i, i < k0 ∧ (d.pools.map DPool.id)[i]? = some id
        · obtain ⟨i, hi, hq⟩ := q; exact ih i hi hq
        · exact ⟨k0, h0, fun i hi hq => q ⟨i, hi, hq⟩⟩
    have hl : k < d.pools.length := by have := (List.getElem?_eq_some_iff.1 hk).1; rwa [List.length_map] at this
    exact ⟨d.pools[k], true, .inl ⟨rfl, m, k, List.getElem?_eq_getElem hl, .inl ⟨k, rfl, hk, hmin⟩⟩⟩
  · exact ⟨_, false, .inr ⟨rfl, rfl, h⟩⟩
set_option maxRecDepth 100000 in
set_option maxHeartbeats 4000000 in
theorem implPoolIn {cs : List Value} {fr : Bool} {lo : Nat} (d : DMap) (id : Int) (p : DPool) (b : Bool) (w : World) (hs : Rdb.sz d ≤ 2097152) (h : Rdb.rd fr lo w cs d) (hv : PlP d id p b) :
    Calls Try.prog 22 #[.agg cs.toArray, .int .i64 id] w (RetW (.tuple #[.agg #[.int .i64 p.id, .int .i64 p.code.k, .int .i64 p.code.m, .int .i64 p.min, .int .i64 p.pgs, .int .i64 p.rule], .bool b]) w) := by
  obtain ⟨z0, z1, z2, z3, z4⟩ := map_sz hs
  have RD := Lib.hid h
  obtain ⟨a0_2, c0_2, a0_3, c0_3, a0_4, c0_4, a0_5, c0_5, a0_6, c0_6, a0_7, c0_7, rfl, f0_0, f0_1, f0_2, g0_2, f0_3, g0_3, f0_4, g0_4, f0_5, g0_5, f0_6, g0_6, f0_7, g0_7⟩ := shape_Map h
  have L := Lib.hid (chain (lay w (.cells #[.int .i64 d.epoch, .int .i64 d.term, .slice a0_2 d.tree.devices.length c0_2, .slice a0_3 d.tree.buckets.length c0_3, .slice a0_4 d.rules.length c0_4, .slice a0_5 d.pools.length c0_5, .slice a0_6 d.up.length c0_6, .slice a0_7 d.out.length c0_7] 46)) (lay _ (.cells #[.int .i64 0, .int .i64 0, .int .i64 0, .int .i64 0, .int .i64 0, .int .i64 0] 54)))
  have X := Lib.hid ((BxN.new w #[.int .i64 d.epoch, .int .i64 d.term, .slice a0_2 d.tree.devices.length c0_2, .slice a0_3 d.tree.buckets.length c0_3, .slice a0_4 d.rules.length c0_4, .slice a0_5 d.pools.length c0_5, .slice a0_6 d.up.length c0_6, .slice a0_7 d.out.length c0_7] 46).later (lay _ (.cells #[.int .i64 0, .int .i64 0, .int .i64 0, .int .i64 0, .int .i64 0, .int .i64 0] 54)))
  have Y0 := BxN.new (w.alloc (.cells #[.int .i64 d.epoch, .int .i64 d.term, .slice a0_2 d.tree.devices.length c0_2, .slice a0_3 d.tree.buckets.length c0_3, .slice a0_4 d.rules.length c0_4, .slice a0_5 d.pools.length c0_5, .slice a0_6 d.up.length c0_6, .slice a0_7 d.out.length c0_7] 46)) #[.int .i64 0, .int .i64 0, .int .i64 0, .int .i64 0, .int .i64 0, .int .i64 0] 54
  rw [World.size_alloc] at Y0
  have Y := Lib.hid Y0
  clear Y0
  have MK := Lib.hid (implMapOk d _ hs (Rdb.below RD.out L.out))
  have PI := Lib.hid (fun w' (b : Below w.heap.size w w') => poolIds d w' z2 (Rdb.below RD.out b))
  have LM : (d.pools.map DPool.id).length ≤ 2097152 := by rw [List.length_map]; exact z2
  have IX := Lib.hid (fun q' w' (R : Rows true w.heap.size w' (some ⟨q', 0, none⟩) (d.pools.map DPool.id)) => slicesIndexX (some ⟨q', 0, none⟩) (d.pools.map DPool.id).length (d.pools.map DPool.id) id w' LM (rows_words R))
  clear LM h
  rcases hv with ⟨rfl, hm, k, hk, hf⟩ | ⟨rfl, rfl, hn⟩
  · obtain ⟨b0, off, pcs, rfl, -, hB, hr, hcc⟩ := f0_5.at' hk
    obtain ⟨rfl, f9_0, f9_1, f9_2, f9_3, f9_4, f9_5⟩ := shape_Pool hr
    have kl : k < d.pools.length := (List.getElem?_eq_some_iff.1 hk).1
    have HM := Lib.hid hm
    have HF := Lib.hid hf
    have CC := Lib.hid (fun w' (bb : Below w.heap.size w w') i v (hv : [.int .i64 p.id, .int .i64 p.code.k, .int .i64 p.code.m, .int .i64 p.min, .int .i64 p.pgs, .int .i64 p.rule][i]? = some v) => (bb.cell (p := ⟨b0, off + k * 6 + i, none⟩) hB).trans (hcc i v hv))
    clear hm hf hk hr hcc RD f0_2 f0_3 f0_4 f0_5 f0_6 f0_7
    unfold SlC at PI
    generalize hz : d.pools.map DPool.id = zs at *
    clear hz
    generalize zs.length = nz at *
    go_enter Try.func22, Try.ntmps22
    go_wp2_with fail
    refine MK.out.mono ?_
    rintro e w1 ⟨r, rfl, hr, b1⟩
    cases r
    · exact absurd (hr.2 HM.out) (by simp)
    have B1 := Lib.hid (chainX w L.out b1)
    have XN := X.out.later b1
    have x0 := XN.cells 0 _ rfl
    have x1 := XN.cells 1 _ rfl
    have x2 := XN.cells 2 _ rfl
    have x3 := XN.cells 3 _ rfl
    have x4 := XN.cells 4 _ rfl
    have x5 := XN.cells 5 _ rfl
    have x6 := XN.cells 6 _ rfl
    have x7 := XN.cells 7 _ rfl
    have X1 := Lib.hid XN
    have Y1 := Lib.hid (Y.out.later b1)
    clear XN b1 hr X Y
    go_wp2_with fail
    refine (PI.out _ B1.out).mono ?_
    rintro e w2 h2
    obtain ⟨q2, rfl, R2, -, -, -, b2⟩ := h2
    have B2 := Lib.hid (chainX w B1.out b2)
    have XN := X1.out.later b2
    clear x0 x1 x2 x3 x4 x5 x6 x7
    have x0 := XN.cells 0 _ rfl
    have x1 := XN.cells 1 _ rfl
    have x2 := XN.cells 2 _ rfl
    have x3 := XN.cells 3 _ rfl
    have x4 := XN.cells 4 _ rfl
    have x5 := XN.cells 5 _ rfl
    have x6 := XN.cells 6 _ rfl
    have x7 := XN.cells 7 _ rfl
    have Y2 := Y1.out.later b2
    have IX2 := Lib.hid (IX.out q2 w2 (R2.weak B1.out.size (fun h => h)))
    clear XN b2 R2 X1 Y1
    go_wp2_with fail
    refine IX2.out.mono ?_
    rintro e w3 ⟨r, rfl, rfl, hF⟩
    obtain rfl := hF.uniq HF.out
    have k0 : (0 : Int) ≤ (k : Int) := by omega
    have k1 : (k : Int) < (d.pools.length : Int) := by omega
    have k2 : decide ((k : Int) < 0) = false := decide_eq_false (by omega)
    have c0 : w2.cell? ⟨b0, off + k * 6, none⟩ = some (.int .i64 p.id) := CC.out _ B2.out 0 _ rfl
    have c1 : w2.cell? ⟨b0, off + k * 6 + 1, none⟩ = some (.int .i64 p.code.k) := CC.out _ B2.out 1 _ rfl
    have c2 : w2.cell? ⟨b0, off + k * 6 + 2, none⟩ = some (.int .i64 p.code.m) := CC.out _ B2.out 2 _ rfl
    have c3 : w2.cell? ⟨b0, off + k * 6 + 3, none⟩ = some (.int .i64 p.min) := CC.out _ B2.out 3 _ rfl
    have c4 : w2.cell? ⟨b0, off + k * 6 + 4, none⟩ = some (.int .i64 p.pgs) := CC.out _ B2.out 4 _ rfl
    have c5 : w2.cell? ⟨b0, off + k * 6 + 5, none⟩ = some (.int .i64 p.rule) := CC.out _ B2.out 5 _ rfl
    clear hF IX2
    have y0 := Y2.cells 0 _ rfl
    have y1 := Y2.cells 1 _ rfl
    have y2 := Y2.cells 2 _ rfl
    have y3 := Y2.cells 3 _ rfl
    have y4 := Y2.cells 4 _ rfl
    have y5 := Y2.cells 5 _ rfl
    have yf0 := Y2.free 0
    have yf1 := Y2.free 1
    have yf2 := Y2.free 2
    have yf3 := Y2.free 3
    have yf4 := Y2.free 4
    have yf5 := Y2.free 5
    have YP := ((((((Y2.put 0 (by simp) (.int .i64 p.id)).put 1 (by simp) (.int .i64 p.code.k)).put 2 (by simp) (.int .i64 p.code.m)).put 3 (by simp) (.int .i64 p.min)).put 4 (by simp) (.int .i64 p.pgs)).put 5 (by simp) (.int .i64 p.rule))
    have v0 := YP.cells 0 _ rfl
    have v1 := YP.cells 1 _ rfl
    have v2 := YP.cells 2 _ rfl
    have v3 := YP.cells 3 _ rfl
    have v4 := YP.cells 4 _ rfl
    have v5 := YP.cells 5 _ rfl
    have FN := Lib.hid (show RetW (.tuple #[.agg #[.int .i64 p.id, .int .i64 p.code.k, .int .i64 p.code.m, .int .i64 p.min, .int .i64 p.pgs, .int .i64 p.rule], .bool true]) w (.returned (.tuple #[.agg #[.int .i64 p.id, .int .i64 p.code.k, .int .i64 p.code.m, .int .i64 p.min, .int .i64 p.pgs, .int .i64 p.rule], .bool true])) ((((((w2.setCell ⟨w.heap.size + 1, 0, none⟩ (.int .i64 p.id)).setCell ⟨w.heap.size + 1, 1, none⟩ (.int .i64 p.code.k)).setCell ⟨w.heap.size + 1, 2, none⟩ (.int .i64 p.code.m)).setCell ⟨w.heap.size + 1, 3, none⟩ (.int .i64 p.min)).setCell ⟨w.heap.size + 1, 4, none⟩ (.int .i64 p.pgs)).setCell ⟨w.heap.size + 1, 5, none⟩ (.int .i64 p.rule)) from ⟨rfl, ((((((B2.out.setCell (p := ⟨w.heap.size + 1, 0, none⟩) (by show _ ≤ w.heap.size + 1; omega) (.int .i64 p.id)).setCell (p := ⟨w.heap.size + 1, 1, none⟩) (by show _ ≤ w.heap.size + 1; omega) (.int .i64 p.code.k)).setCell (p := ⟨w.heap.size + 1, 2, none⟩) (by show _ ≤ w.heap.size + 1; omega) (.int .i64 p.code.m)).setCell (p := ⟨w.heap.size + 1, 3, none⟩) (by show _ ≤ w.heap.size + 1; omega) (.int .i64 p.min)).setCell (p := ⟨w.heap.size + 1, 4, none⟩) (by show _ ≤ w.heap.size + 1; omega) (.int .i64 p.pgs)).setCell (p := ⟨w.heap.size + 1, 5, none⟩) (by show _ ≤ w.heap.size + 1; omega) (.int .i64 p.rule))⟩)
    clear YP
    go_wp2
    exact bodyPost_ret (v := .tuple #[.agg #[.int .i64 p.id, .int .i64 p.code.k, .int .i64 p.code.m, .int .i64 p.min, .int .i64 p.pgs, .int .i64 p.rule], .bool true]) (by simp [results, Try.results22, go_sem, *]) rfl FN.out
  · have HN := Lib.hid (show MOk d → id ∉ d.pools.map DPool.id from fun a c => hn ⟨a, c⟩)
    clear hn RD f0_2 f0_3 f0_4 f0_5 f0_6 f0_7
    unfold SlC at PI
    generalize hz : d.pools.map DPool.id = zs at *
    clear hz
    generalize zs.length = nz at *
    dsimp only
    go_enter Try.func22, Try.ntmps22
    go_wp2_with fail
    refine MK.out.mono ?_
    rintro e w1 ⟨r, rfl, hr, b1⟩
    have B1 := Lib.hid (chainX w L.out b1)
    have Y1 := Y.out.later b1
    cases r
    · clear hr b1 X
      have y0 := Y1.cells 0 _ rfl
      have y1 := Y1.cells 1 _ rfl
      have y2 := Y1.cells 2 _ rfl
      have y3 := Y1.cells 3 _ rfl
      have y4 := Y1.cells 4 _ rfl
      have y5 := Y1.cells 5 _ rfl
      have yf0 := Y1.free 0
      have yf1 := Y1.free 1
      have yf2 := Y1.free 2
      have yf3 := Y1.free 3
      have yf4 := Y1.free 4
      have yf5 := Y1.free 5
      have YP := ((((((Y1.put 0 (by simp) (.int .i64 0)).put 1 (by simp) (.int .i64 0)).put 2 (by simp) (.int .i64 0)).put 3 (by simp) (.int .i64 0)).put 4 (by simp) (.int .i64 0)).put 5 (by simp) (.int .i64 0))
      have v0 := YP.cells 0 _ rfl
      have v1 := YP.cells 1 _ rfl
      have v2 := YP.cells 2 _ rfl
      have v3 := YP.cells 3 _ rfl
      have v4 := YP.cells 4 _ rfl
      have v5 := YP.cells 5 _ rfl
      have FN := Lib.hid (show RetW (.tuple #[.agg #[.int .i64 0, .int .i64 0, .int .i64 0, .int .i64 0, .int .i64 0, .int .i64 0], .bool false]) w (.returned (.tuple #[.agg #[.int .i64 0, .int .i64 0, .int .i64 0, .int .i64 0, .int .i64 0, .int .i64 0], .bool false])) ((((((w1.setCell ⟨w.heap.size + 1, 0, none⟩ (.int .i64 0)).setCell ⟨w.heap.size + 1, 1, none⟩ (.int .i64 0)).setCell ⟨w.heap.size + 1, 2, none⟩ (.int .i64 0)).setCell ⟨w.heap.size + 1, 3, none⟩ (.int .i64 0)).setCell ⟨w.heap.size + 1, 4, none⟩ (.int .i64 0)).setCell ⟨w.heap.size + 1, 5, none⟩ (.int .i64 0)) from ⟨rfl, ((((((B1.out.setCell (p := ⟨w.heap.size + 1, 0, none⟩) (by show _ ≤ w.heap.size + 1; omega) (.int .i64 0)).setCell (p := ⟨w.heap.size + 1, 1, none⟩) (by show _ ≤ w.heap.size + 1; omega) (.int .i64 0)).setCell (p := ⟨w.heap.size + 1, 2, none⟩) (by show _ ≤ w.heap.size + 1; omega) (.int .i64 0)).setCell (p := ⟨w.heap.size + 1, 3, none⟩) (by show _ ≤ w.heap.size + 1; omega) (.int .i64 0)).setCell (p := ⟨w.heap.size + 1, 4, none⟩) (by show _ ≤ w.heap.size + 1; omega) (.int .i64 0)).setCell (p := ⟨w.heap.size + 1, 5, none⟩) (by show _ ≤ w.heap.size + 1; omega) (.int .i64 0))⟩)
      clear YP
      go_wp2
      exact bodyPost_ret (v := .tuple #[.agg #[.int .i64 0, .int .i64 0, .int .i64 0, .int .i64 0, .int .i64 0, .int .i64 0], .bool false]) (by simp [results, Try.results22, go_sem, *]) rfl FN.out
    · have NI := Lib.hid (HN.out (hr.1 rfl))
      have XN := X.out.later b1
      have x0 := XN.cells 0 _ rfl
      have x1 := XN.cells 1 _ rfl
      have x2 := XN.cells 2 _ rfl
      have x3 := XN.cells 3 _ rfl
      have x4 := XN.cells 4 _ rfl
      have x5 := XN.cells 5 _ rfl
      have x6 := XN.cells 6 _ rfl
      have x7 := XN.cells 7 _ rfl
      have Y1H := Lib.hid Y1
      clear XN b1 hr X Y Y1
      go_wp2_with fail
      refine (PI.out _ B1.out).mono ?_
      rintro e w2 h2
      obtain ⟨q2, rfl, R2, -, -, -, b2⟩ := h2
      have B2 := Lib.hid (chainX w B1.out b2)
      have Y2 := Y1H.out.later b2
      have IX2 := Lib.hid (IX.out q2 w2 (R2.weak B1.out.size (fun h => h)))
      clear b2 R2 Y1H x0 x1 x2 x3 x4 x5 x6 x7
      go_wp2_with fail
      refine IX2.out.mono ?_
      rintro e w3 ⟨r, rfl, rfl, hF⟩
      have k2 : decide (r < 0) = true := decide_eq_true (hF.neg.2 NI.out)
      clear hF IX2
      have y0 := Y2.cells 0 _ rfl
      have y1 := Y2.cells 1 _ rfl
      have y2 := Y2.cells 2 _ rfl
      have y3 := Y2.cells 3 _ rfl
      have y4 := Y2.cells 4 _ rfl
      have y5 := Y2.cells 5 _ rfl
      have yf0 := Y2.free 0
      have yf1 := Y2.free 1
      have yf2 := Y2.free 2
      have yf3 := Y2.free 3
      have yf4 := Y2.free 4
      have yf5 := Y2.free 5
      have YP := ((((((Y2.put 0 (by simp) (.int .i64 0)).put 1 (by simp) (.int .i64 0)).put 2 (by simp) (.int .i64 0)).put 3 (by simp) (.int .i64 0)).put 4 (by simp) (.int .i64 0)).put 5 (by simp) (.int .i64 0))
      have v0 := YP.cells 0 _ rfl
      have v1 := YP.cells 1 _ rfl
      have v2 := YP.cells 2 _ rfl
      have v3 := YP.cells 3 _ rfl
      have v4 := YP.cells 4 _ rfl
      have v5 := YP.cells 5 _ rfl
      have FN := Lib.hid (show RetW (.tuple #[.agg #[.int .i64 0, .int .i64 0, .int .i64 0, .int .i64 0, .int .i64 0, .int .i64 0], .bool false]) w (.returned (.tuple #[.agg #[.int .i64 0, .int .i64 0, .int .i64 0, .int .i64 0, .int .i64 0, .int .i64 0], .bool false])) ((((((w2.setCell ⟨w.heap.size + 1, 0, none⟩ (.int .i64 0)).setCell ⟨w.heap.size + 1, 1, none⟩ (.int .i64 0)).setCell ⟨w.heap.size + 1, 2, none⟩ (.int .i64 0)).setCell ⟨w.heap.size + 1, 3, none⟩ (.int .i64 0)).setCell ⟨w.heap.size + 1, 4, none⟩ (.int .i64 0)).setCell ⟨w.heap.size + 1, 5, none⟩ (.int .i64 0)) from ⟨rfl, ((((((B2.out.setCell (p := ⟨w.heap.size + 1, 0, none⟩) (by show _ ≤ w.heap.size + 1; omega) (.int .i64 0)).setCell (p := ⟨w.heap.size + 1, 1, none⟩) (by show _ ≤ w.heap.size + 1; omega) (.int .i64 0)).setCell (p := ⟨w.heap.size + 1, 2, none⟩) (by show _ ≤ w.heap.size + 1; omega) (.int .i64 0)).setCell (p := ⟨w.heap.size + 1, 3, none⟩) (by show _ ≤ w.heap.size + 1; omega) (.int .i64 0)).setCell (p := ⟨w.heap.size + 1, 4, none⟩) (by show _ ≤ w.heap.size + 1; omega) (.int .i64 0)).setCell (p := ⟨w.heap.size + 1, 5, none⟩) (by show _ ≤ w.heap.size + 1; omega) (.int .i64 0))⟩)
      clear YP
      go_wp2
      exact bodyPost_ret (v := .tuple #[.agg #[.int .i64 0, .int .i64 0, .int .i64 0, .int .i64 0, .int .i64 0, .int .i64 0], .bool false]) (by simp [results, Try.results22, go_sem, *]) rfl FN.out
end Go.Proofs.Yteogbfmghbaelaa.Rd

/-
  PoolIn in the model.
-/
namespace Go.Proofs.Yteogbfmghbaelaa.Rd
open Go.RowKit Go.ChangeShapes Go.WideShapes Go.Proofs.Yteogbfmghbaelaa.GfI Go.Proofs.Yteogbfmghbaelaa.GfS
open Go.Proofs.Yteogbfmghbaelaa.Sg (BxN)
open Go.Proofs.Yteogbfmghbaelaa.Tm (TD TA TIn IffB RisN zF Whole Same isRising)
open Go.Proofs.Yteogbfmghbaelaa.MixC (Words)
set_option linter.unusedVariables false
set_option linter.unusedSimpArgs false

set_option maxRecDepth 100000 in
set_option maxHeartbeats 4000000 in
theorem specPoolIn {cs : List Value} {fr : Bool} {lo : Nat} (d : DMap) (id : Int) (p : DPool) (b : Bool) (w : World) (hs : Rdb.sz d ≤ 2097152) (h : Rdb.rd fr lo w cs d) (hv : PlP d id p b) :
    Calls Try.prog 21 #[.agg cs.toArray, .int .i64 id] w (RetW (.tuple #[.agg #[.int .i64 p.id, .int .i64 p.code.k, .int .i64 p.code.m, .int .i64 p.min, .int .i64 p.pgs, .int .i64 p.rule], .bool b]) w) := by
  obtain ⟨z0, z1, z2, z3, z4⟩ := map_sz hs
  have RD := Lib.hid h
  obtain ⟨a0_2, c0_2, a0_3, c0_3, a0_4, c0_4, a0_5, c0_5, a0_6, c0_6, a0_7, c0_7, rfl, f0_0, f0_1, f0_2, g0_2, f0_3, g0_3, f0_4, g0_4, f0_5, g0_5, f0_6, g0_6, f0_7, g0_7⟩ := shape_Map h
  have L := Lib.hid (chain (lay w (.cells #[.int .i64 d.epoch, .int .i64 d.term, .slice a0_2 d.tree.devices.length c0_2, .slice a0_3 d.tree.buckets.length c0_3, .slice a0_4 d.rules.length c0_4, .slice a0_5 d.pools.length c0_5, .slice a0_6 d.up.length c0_6, .slice a0_7 d.out.length c0_7] 46)) (lay _ (.cells #[.int .i64 0, .int .i64 0, .int .i64 0, .int .i64 0, .int .i64 0, .int .i64 0] 54)))
  have X := Lib.hid ((BxN.new w #[.int .i64 d.epoch, .int .i64 d.term, .slice a0_2 d.tree.devices.length c0_2, .slice a0_3 d.tree.buckets.length c0_3, .slice a0_4 d.rules.length c0_4, .slice a0_5 d.pools.length c0_5, .slice a0_6 d.up.length c0_6, .slice a0_7 d.out.length c0_7] 46).later (lay _ (.cells #[.int .i64 0, .int .i64 0, .int .i64 0, .int .i64 0, .int .i64 0, .int .i64 0] 54)))
  have Y0 := BxN.new (w.alloc (.cells #[.int .i64 d.epoch, .int .i64 d.term, .slice a0_2 d.tree.devices.length c0_2, .slice a0_3 d.tree.buckets.length c0_3, .slice a0_4 d.rules.length c0_4, .slice a0_5 d.pools.length c0_5, .slice a0_6 d.up.length c0_6, .slice a0_7 d.out.length c0_7] 46)) #[.int .i64 0, .int .i64 0, .int .i64 0, .int .i64 0, .int .i64 0, .int .i64 0] 54
  rw [World.size_alloc] at Y0
  have Y := Lib.hid Y0
  clear Y0
  have MK := Lib.hid (l11Ok d _ hs (Rdb.below RD.out L.out))
  have LP := Lib.hid (fun w' (b : Below w.heap.size w w') => l11Pool d id w' z2 (Rdb.below RD.out b))
  clear h
  rcases hv with ⟨rfl, hm, k, hk, hf⟩ | ⟨rfl, rfl, hn⟩
  · obtain ⟨b0, off, pcs, rfl, -, hB, hr, hcc⟩ := f0_5.at' hk
    obtain ⟨rfl, f9_0, f9_1, f9_2, f9_3, f9_4, f9_5⟩ := shape_Pool hr
    have kl : k < d.pools.length := (List.getElem?_eq_some_iff.1 hk).1
    have HM := Lib.hid hm
    have HF := Lib.hid hf
    have CC := Lib.hid (fun w' (bb : Below w.heap.size w w') i v (hv : [.int .i64 p.id, .int .i64 p.code.k, .int .i64 p.code.m, .int .i64 p.min, .int .i64 p.pgs, .int .i64 p.rule][i]? = some v) => (bb.cell (p := ⟨b0, off + k * 6 + i, none⟩) hB).trans (hcc i v hv))
    clear hm hf hk hr hcc RD f0_2 f0_3 f0_4 f0_5 f0_6 f0_7
    generalize hz : d.pools.map DPool.id = zs at *
    clear hz
    have k0 : (0 : Int) ≤ (k : Int) := by omega
    have k1 : (k : Int) < (d.pools.length : Int) := by omega
    have k2 : decide ((k : Int) < 0) = false := decide_eq_false (by omega)
    go_enter Try.func21, Try.ntmps21
    go_wp2_with fail
    refine MK.out.mono ?_
    rintro e w1 ⟨r, rfl, hr, b1⟩
    cases r
    · exact absurd (hr.2 HM.out) (by simp)
    have B1 := Lib.hid (chainX w L.out b1)
    have XN := X.out.later b1
    have x0 := XN.cells 0 _ rfl
    have x1 := XN.cells 1 _ rfl
    have x2 := XN.cells 2 _ rfl
    have x3 := XN.cells 3 _ rfl
    have x4 := XN.cells 4 _ rfl
    have x5 := XN.cells 5 _ rfl
    have x6 := XN.cells 6 _ rfl
    have x7 := XN.cells 7 _ rfl
    have X1 := Lib.hid XN
    have Y1 := Lib.hid (Y.out.later b1)
    clear XN b1 hr X Y
    go_wp2_with fail
    refine (LP.out _ B1.out).mono ?_
    rintro e w2 ⟨r, rfl, b2, hF⟩
    obtain rfl := hF.uniq HF.out
    have B2 := Lib.hid (chainX w B1.out b2)
    have XN := X1.out.later b2
    clear x0 x1 x2 x3 x4 x5 x6 x7
    have x0 := XN.cells 0 _ rfl
    have x1 := XN.cells 1 _ rfl
    have x2 := XN.cells 2 _ rfl
    have x3 := XN.cells 3 _ rfl
    have x4 := XN.cells 4 _ rfl
    have x5 := XN.cells 5 _ rfl
    have x6 := XN.cells 6 _ rfl
    have x7 := XN.cells 7 _ rfl
    have X2 := Lib.hid XN
    have Y2 := Lib.hid (Y1.out.later b2)
    have LP2 := Lib.hid (LP.out w2.drew B2.out.drew)
    clear XN b2 X1 Y1 hF
    go_wp2_with fail
    go_region_with (go_at_call 69; refine LP2.out.mono ?_; rintro e w3 ⟨r, rfl, b3, hF⟩; have b3 := undrewX b3; obtain rfl := hF.uniq HF.out; have B3 := Lib.hid (chainX w B2.out b3); have XN := X2.out.later b3; clear x0 x1 x2 x3 x4 x5 x6 x7; have x0 := XN.cells 0 _ rfl; have x1 := XN.cells 1 _ rfl; have x2 := XN.cells 2 _ rfl; have x3 := XN.cells 3 _ rfl; have x4 := XN.cells 4 _ rfl; have x5 := XN.cells 5 _ rfl; have x6 := XN.cells 6 _ rfl; have x7 := XN.cells 7 _ rfl; have Y3 := Y2.out.later b3; have c0 : w3.cell? ⟨b0, off + k * 6, none⟩ = some (.int .i64 p.id) := CC.out _ B3.out 0 _ rfl; have c1 : w3.cell? ⟨b0, off + k * 6 + 1, none⟩ = some (.int .i64 p.code.k) := CC.out _ B3.out 1 _ rfl; have c2 : w3.cell? ⟨b0, off + k * 6 + 2, none⟩ = some (.int .i64 p.code.m) := CC.out _ B3.out 2 _ rfl; have c3 : w3.cell? ⟨b0, off + k * 6 + 3, none⟩ = some (.int .i64 p.min) := CC.out _ B3.out 3 _ rfl; have c4 : w3.cell? ⟨b0, off + k * 6 + 4, none⟩ = some (.int .i64 p.pgs) := CC.out _ B3.out 4 _ rfl; have c5 : w3.cell? ⟨b0, off + k * 6 + 5, none⟩ = some (.int .i64 p.rule) := CC.out _ B3.out 5 _ rfl; have y0 := Y3.cells 0 _ rfl; have yf0 := Y3.free 0; have y1 := Y3.cells 1 _ rfl; have yf1 := Y3.free 1; have y2 := Y3.cells 2 _ rfl; have yf2 := Y3.free 2; have y3 := Y3.cells 3 _ rfl; have yf3 := Y3.free 3; have y4 := Y3.cells 4 _ rfl; have yf4 := Y3.free 4; have y5 := Y3.cells 5 _ rfl; have yf5 := Y3.free 5; clear hF b3 XN; have YP := ((((((Y3.put 0 (by simp) (.int .i64 p.id)).put 1 (by simp) (.int .i64 p.code.k)).put 2 (by simp) (.int .i64 p.code.m)).put 3 (by simp) (.int .i64 p.min)).put 4 (by simp) (.int .i64 p.pgs)).put 5 (by simp) (.int .i64 p.rule)); have v0 := YP.cells 0 _ rfl; have v1 := YP.cells 1 _ rfl; have v2 := YP.cells 2 _ rfl; have v3 := YP.cells 3 _ rfl; have v4 := YP.cells 4 _ rfl; have v5 := YP.cells 5 _ rfl; have FN := Lib.hid (show RetW (.tuple #[.agg #[.int .i64 p.id, .int .i64 p.code.k, .int .i64 p.code.m, .int .i64 p.min, .int .i64 p.pgs, .int .i64 p.rule], .bool true]) w (.returned (.tuple #[.agg #[.int .i64 p.id, .int .i64 p.code.k, .int .i64 p.code.m, .int .i64 p.min, .int .i64 p.pgs, .int .i64 p.rule], .bool true])) ((((((w3.setCell ⟨w.heap.size + 1, 0, none⟩ (.int .i64 p.id)).setCell ⟨w.heap.size + 1, 1, none⟩ (.int .i64 p.code.k)).setCell ⟨w.heap.size + 1, 2, none⟩ (.int .i64 p.code.m)).setCell ⟨w.heap.size + 1, 3, none⟩ (.int .i64 p.min)).setCell ⟨w.heap.size + 1, 4, none⟩ (.int .i64 p.pgs)).setCell ⟨w.heap.size + 1, 5, none⟩ (.int .i64 p.rule)) from ⟨rfl, ((((((B3.out.setCell (p := ⟨w.heap.size + 1, 0, none⟩) (by show _ ≤ w.heap.size + 1; omega) (.int .i64 p.id)).setCell (p := ⟨w.heap.size + 1, 1, none⟩) (by show _ ≤ w.heap.size + 1; omega) (.int .i64 p.code.k)).setCell (p := ⟨w.heap.size + 1, 2, none⟩) (by show _ ≤ w.heap.size + 1; omega) (.int .i64 p.code.m)).setCell (p := ⟨w.heap.size + 1, 3, none⟩) (by show _ ≤ w.heap.size + 1; omega) (.int .i64 p.min)).setCell (p := ⟨w.heap.size + 1, 4, none⟩) (by show _ ≤ w.heap.size + 1; omega) (.int .i64 p.pgs)).setCell (p := ⟨w.heap.size + 1, 5, none⟩) (by show _ ≤ w.heap.size + 1; omega) (.int .i64 p.rule))⟩); clear YP Y3)
    all_goals
      go_wp2
      exact bodyPost_ret (v := .tuple #[.agg #[.int .i64 p.id, .int .i64 p.code.k, .int .i64 p.code.m, .int .i64 p.min, .int .i64 p.pgs, .int .i64 p.rule], .bool true]) (by simp [results, Try.results21, go_sem, *]) rfl FN.out
  · have HN := Lib.hid (show MOk d → id ∉ d.pools.map DPool.id from fun a c => hn ⟨a, c⟩)
    clear hn RD f0_2 f0_3 f0_4 f0_5 f0_6 f0_7
    generalize hz : d.pools.map DPool.id = zs at *
    clear hz
    dsimp only
    go_enter Try.func21, Try.ntmps21
    go_wp2_with fail
    refine MK.out.mono ?_
    rintro e w1 ⟨r, rfl, hr, b1⟩
    have B1 := Lib.hid (chainX w L.out b1)
    have Y1 := Y.out.later b1
    cases r
    · clear hr b1 X
      have y0 := Y1.cells 0 _ rfl
      have y1 := Y1.cells 1 _ rfl
      have y2 := Y1.cells 2 _ rfl
      have y3 := Y1.cells 3 _ rfl
      have y4 := Y1.cells 4 _ rfl
      have y5 := Y1.cells 5 _ rfl
      have yf0 := Y1.free 0
      have yf1 := Y1.free 1
      have yf2 := Y1.free 2
      have yf3 := Y1.free 3
      have yf4 := Y1.free 4
      have yf5 := Y1.free 5
      have YP := ((((((Y1.put 0 (by simp) (.int .i64 0)).put 1 (by simp) (.int .i64 0)).put 2 (by simp) (.int .i64 0)).put 3 (by simp) (.int .i64 0)).put 4 (by simp) (.int .i64 0)).put 5 (by simp) (.int .i64 0))
      have v0 := YP.cells 0 _ rfl
      have v1 := YP.cells 1 _ rfl
      have v2 := YP.cells 2 _ rfl
      have v3 := YP.cells 3 _ rfl
      have v4 := YP.cells 4 _ rfl
      have v5 := YP.cells 5 _ rfl
      have FN := Lib.hid (show RetW (.tuple #[.agg #[.int .i64 0, .int .i64 0, .int .i64 0, .int .i64 0, .int .i64 0, .int .i64 0], .bool false]) w (.returned (.tuple #[.agg #[.int .i64 0, .int .i64 0, .int .i64 0, .int .i64 0, .int .i64 0, .int .i64 0], .bool false])) ((((((w1.setCell ⟨w.heap.size + 1, 0, none⟩ (.int .i64 0)).setCell ⟨w.heap.size + 1, 1, none⟩ (.int .i64 0)).setCell ⟨w.heap.size + 1, 2, none⟩ (.int .i64 0)).setCell ⟨w.heap.size + 1, 3, none⟩ (.int .i64 0)).setCell ⟨w.heap.size + 1, 4, none⟩ (.int .i64 0)).setCell ⟨w.heap.size + 1, 5, none⟩ (.int .i64 0)) from ⟨rfl, ((((((B1.out.setCell (p := ⟨w.heap.size + 1, 0, none⟩) (by show _ ≤ w.heap.size + 1; omega) (.int .i64 0)).setCell (p := ⟨w.heap.size + 1, 1, none⟩) (by show _ ≤ w.heap.size + 1; omega) (.int .i64 0)).setCell (p := ⟨w.heap.size + 1, 2, none⟩) (by show _ ≤ w.heap.size + 1; omega) (.int .i64 0)).setCell (p := ⟨w.heap.size + 1, 3, none⟩) (by show _ ≤ w.heap.size + 1; omega) (.int .i64 0)).setCell (p := ⟨w.heap.size + 1, 4, none⟩) (by show _ ≤ w.heap.size + 1; omega) (.int .i64 0)).setCell (p := ⟨w.heap.size + 1, 5, none⟩) (by show _ ≤ w.heap.size + 1; omega) (.int .i64 0))⟩)
      clear YP
      go_wp2
      exact bodyPost_ret (v := .tuple #[.agg #[.int .i64 0, .int .i64 0, .int .i64 0, .int .i64 0, .int .i64 0, .int .i64 0], .bool false]) (by simp [results, Try.results21, go_sem, *]) rfl FN.out
    · have NI := Lib.hid (HN.out (hr.1 rfl))
      have XN := X.out.later b1
      have x0 := XN.cells 0 _ rfl
      have x1 := XN.cells 1 _ rfl
      have x2 := XN.cells 2 _ rfl
      have x3 := XN.cells 3 _ rfl
      have x4 := XN.cells 4 _ rfl
      have x5 := XN.cells 5 _ rfl
      have x6 := XN.cells 6 _ rfl
      have x7 := XN.cells 7 _ rfl
      have Y1H := Lib.hid Y1
      clear XN b1 hr X Y Y1
      go_wp2_with fail
      refine (LP.out _ B1.out).mono ?_
      rintro e w2 ⟨r, rfl, b2, hF⟩
      have B2 := Lib.hid (chainX w B1.out b2)
      have Y2 := Y1H.out.later b2
      have k2 : decide (r < 0) = true := decide_eq_true (hF.neg.2 NI.out)
      clear hF b2 Y1H x0 x1 x2 x3 x4 x5 x6 x7
      have y0 := Y2.cells 0 _ rfl
      have y1 := Y2.cells 1 _ rfl
      have y2 := Y2.cells 2 _ rfl
      have y3 := Y2.cells 3 _ rfl
      have y4 := Y2.cells 4 _ rfl
      have y5 := Y2.cells 5 _ rfl
      have yf0 := Y2.free 0
      have yf1 := Y2.free 1
      have yf2 := Y2.free 2
      have yf3 := Y2.free 3
      have yf4 := Y2.free 4
      have yf5 := Y2.free 5
      have YP := ((((((Y2.put 0 (by simp) (.int .i64 0)).put 1 (by simp) (.int .i64 0)).put 2 (by simp) (.int .i64 0)).put 3 (by simp) (.int .i64 0)).put 4 (by simp) (.int .i64 0)).put 5 (by simp) (.int .i64 0))
      have v0 := YP.cells 0 _ rfl
      have v1 := YP.cells 1 _ rfl
      have v2 := YP.cells 2 _ rfl
      have v3 := YP.cells 3 _ rfl
      have v4 := YP.cells 4 _ rfl
      have v5 := YP.cells 5 _ rfl
      have FN := Lib.hid (show RetW (.tuple #[.agg #[.int .i64 0, .int .i64 0, .int .i64 0, .int .i64 0, .int .i64 0, .int .i64 0], .bool false]) w (.returned (.tuple #[.agg #[.int .i64 0, .int .i64 0, .int .i64 0, .int .i64 0, .int .i64 0, .int .i64 0], .bool false])) ((((((w2.setCell ⟨w.heap.size + 1, 0, none⟩ (.int .i64 0)).setCell ⟨w.heap.size + 1, 1, none⟩ (.int .i64 0)).setCell ⟨w.heap.size + 1, 2, none⟩ (.int .i64 0)).setCell ⟨w.heap.size + 1, 3, none⟩ (.int .i64 0)).setCell ⟨w.heap.size + 1, 4, none⟩ (.int .i64 0)).setCell ⟨w.heap.size + 1, 5, none⟩ (.int .i64 0)) from ⟨rfl, ((((((B2.out.setCell (p := ⟨w.heap.size + 1, 0, none⟩) (by show _ ≤ w.heap.size + 1; omega) (.int .i64 0)).setCell (p := ⟨w.heap.size + 1, 1, none⟩) (by show _ ≤ w.heap.size + 1; omega) (.int .i64 0)).setCell (p := ⟨w.heap.size + 1, 2, none⟩) (by show _ ≤ w.heap.size + 1; omega) (.int .i64 0)).setCell (p := ⟨w.heap.size + 1, 3, none⟩) (by show _ ≤ w.heap.size + 1; omega) (.int .i64 0)).setCell (p := ⟨w.heap.size + 1, 4, none⟩) (by show _ ≤ w.heap.size + 1; omega) (.int .i64 0)).setCell (p := ⟨w.heap.size + 1, 5, none⟩) (by show _ ≤ w.heap.size + 1; omega) (.int .i64 0))⟩)
      clear YP
      go_wp2
      exact bodyPost_ret (v := .tuple #[.agg #[.int .i64 0, .int .i64 0, .int .i64 0, .int .i64 0, .int .i64 0, .int .i64 0], .bool false]) (by simp [results, Try.results21, go_sem, *]) rfl FN.out
end Go.Proofs.Yteogbfmghbaelaa.Rd

/-
  The exact law of PoolIn: the program answers as the model, and the map is left as it was. No condition.
-/
namespace Go.Proofs.Yteogbfmghbaelaa.Rd
open Go.RowKit Go.ChangeShapes Go.WideShapes Go.Proofs.Yteogbfmghbaelaa.GfI Go.Proofs.Yteogbfmghbaelaa.GfS
open Go.Proofs.Yteogbfmghbaelaa.Sg (BxN)
open Go.Proofs.Yteogbfmghbaelaa.Tm (TD TA TIn IffB RisN zF Whole Same isRising)
open Go.Proofs.Yteogbfmghbaelaa.MixC (Words)
set_option linter.unusedVariables false
set_option linter.unusedSimpArgs false

set_option maxRecDepth 100000 in
set_option maxHeartbeats 4000000 in
theorem fnFnExactPoolIn {cs0 : List Value} (d0 : DMap) (x1 : Int) (p : DPool) (b : Bool) (w : World) (h0 : Rdb.rd false 0 w cs0 d0) (hp : ∀ w', Rdb.rd true 0 w' [.int .i64 p.id, .int .i64 p.code.k, .int .i64 p.code.m, .int .i64 p.min, .int .i64 p.pgs, .int .i64 p.rule] p) (hS : Rdb.sz d0 ≤ 1048576 → ∀ (es0 : List Value) w' (k0 : Rdb.rd true 0 w' es0 d0), Calls Try.prog 21 #[.agg es0.toArray, .int .i64 x1] w' (RetW (.tuple #[.agg #[.int .i64 p.id, .int .i64 p.code.k, .int .i64 p.code.m, .int .i64 p.min, .int .i64 p.pgs, .int .i64 p.rule], .bool b]) w')) (hI : Rdb.sz d0 ≤ 1048576 → ∀ (es0 : List Value) w' (k0 : Rdb.rd true 0 w' es0 d0), Calls Try.prog 22 #[.agg es0.toArray, .int .i64 x1] w' (RetW (.tuple #[.agg #[.int .i64 p.id, .int .i64 p.code.k, .int .i64 p.code.m, .int .i64 p.min, .int .i64 p.pgs, .int .i64 p.rule], .bool b]) w')) :
    Calls Try.prog 6 #[.agg cs0.toArray, .int .i64 x1] w (RetW (.bool true) w) := by
  obtain ⟨a0_2, c0_2, a0_3, c0_3, a0_4, c0_4, a0_5, c0_5, a0_6, c0_6, a0_7, c0_7, rfl, f0_0, f0_1, f0_2, g0_2, f0_3, g0_3, f0_4, g0_4, f0_5, g0_5, f0_6, g0_6, f0_7, g0_7⟩ := shape_Map h0
  have BH0 := Lib.hid (lay w (.cells #[.int .i64 d0.epoch, .int .i64 d0.term, .slice a0_2 d0.tree.devices.length c0_2, .slice a0_3 d0.tree.buckets.length c0_3, .slice a0_4 d0.rules.length c0_4, .slice a0_5 d0.pools.length c0_5, .slice a0_6 d0.up.length c0_6, .slice a0_7 d0.out.length c0_7] 36))
  have Q0 := BxN.new w #[.int .i64 d0.epoch, .int .i64 d0.term, .slice a0_2 d0.tree.devices.length c0_2, .slice a0_3 d0.tree.buckets.length c0_3, .slice a0_4 d0.rules.length c0_4, .slice a0_5 d0.pools.length c0_5, .slice a0_6 d0.up.length c0_6, .slice a0_7 d0.out.length c0_7] 36
  have XH0_0 := Lib.hid Q0
  clear Q0
  have SZ0 := Lib.hid (fun (lf : Int) (p0 : 0 ≤ lf) (p1 : lf ≤ 2097152) w' (b : Below w.heap.size w w') => szMap d0 lf p0 p1 w' (mk_Map (d := d0) (a2 := a0_2) (c2 := c0_2) (a3 := a0_3) (c3 := c0_3) (a4 := a0_4) (c4 := c0_4) (a5 := a0_5) (c5 := c0_5) (a6 := a0_6) (c6 := c0_6) (a7 := a0_7) (c7 := c0_7) f0_0 f0_1 (f0_2.below b) g0_2 (f0_3.below b) g0_3 (f0_4.below b) g0_4 (f0_5.below b) g0_5 (f0_6.below b) g0_6 (f0_7.below b) g0_7))
  have CP0 := Lib.hid (fun (z : Rdb.sz d0 ≤ 2097152) w' (b : Below w.heap.size w w') => toMap d0 w' z (mk_Map (d := d0) (a2 := a0_2) (c2 := c0_2) (a3 := a0_3) (c3 := c0_3) (a4 := a0_4) (c4 := c0_4) (a5 := a0_5) (c5 := c0_5) (a6 := a0_6) (c6 := c0_6) (a7 := a0_7) (c7 := c0_7) f0_0 f0_1 (f0_2.below b) g0_2 (f0_3.below b) g0_3 (f0_4.below b) g0_4 (f0_5.below b) g0_5 (f0_6.below b) g0_6 (f0_7.below b) g0_7))
  have EQ0 := Lib.hid (fun (z : Rdb.sz d0 ≤ 2097152) (cs ds : List Value) w' (k1 : Rdb.rd true 0 w' cs d0) (k2 : Rdb.rd true 0 w' ds d0) => eqMap d0 w' z k1 k2)
  have HS := Lib.hid hS
  have HI := Lib.hid hI
  clear hS hI
  have EQP := Lib.hid (fun w' => eqPool (fr := true) (lo := 0) (fr2 := true) (lo2 := 0) p w' (show (0 : Nat) ≤ _ by omega) (hp w') (hp w'))
  clear hp
  clear f0_2 f0_3 f0_4 f0_5 f0_6 f0_7
  generalize hs0 : Rdb.sz d0 = s0 at *
  clear hs0
  by_cases q0 : (s0 : Int) ≤ 1048576
  · skip
    go_enter Try.func6, Try.ntmps6
    have V0 := SZ0.out (1048576) (by omega) (by omega) _ BH0.out
    unfold SzB at V0
    rw [show szI (1048576) s0 = 1048576 - (s0 : Int) from szI_yes (by omega)] at V0
    have VH0 := Lib.hid V0
    clear V0
    go_wp2_with fail
    refine (VH0.out).mono ?_
    rintro e w1 ⟨rfl, b1⟩
    have Q := XH0_0.out.later b1
    have cXH0_1_0 := Q.cells 0 _ rfl
    have cXH0_1_1 := Q.cells 1 _ rfl
    have cXH0_1_2 := Q.cells 2 _ rfl
    have cXH0_1_3 := Q.cells 3 _ rfl
    have cXH0_1_4 := Q.cells 4 _ rfl
    have cXH0_1_5 := Q.cells 5 _ rfl
    have cXH0_1_6 := Q.cells 6 _ rfl
    have cXH0_1_7 := Q.cells 7 _ rfl
    have XH0_1 := Lib.hid Q
    clear Q
    have BH1 := Lib.hid (chainX w BH0.out b1)
    clear XH0_0
    have CPx := True.intro
    go_wp2_with fail
    refine (CP0.out (by omega) _ BH1.out).mono ?_
    rintro e w2 ⟨ess0, rfl, rs0, b2⟩
    have Q := XH0_1.out.later b2
    have cXH0_2_0 := Q.cells 0 _ rfl
    have cXH0_2_1 := Q.cells 1 _ rfl
    have cXH0_2_2 := Q.cells 2 _ rfl
    have cXH0_2_3 := Q.cells 3 _ rfl
    have cXH0_2_4 := Q.cells 4 _ rfl
    have cXH0_2_5 := Q.cells 5 _ rfl
    have cXH0_2_6 := Q.cells 6 _ rfl
    have cXH0_2_7 := Q.cells 7 _ rfl
    have XH0_2 := Lib.hid Q
    clear Q
    have BH2 := Lib.hid (chainX w BH1.out b2)
    clear XH0_1 cXH0_1_0 cXH0_1_1 cXH0_1_2 cXH0_1_3 cXH0_1_4 cXH0_1_5 cXH0_1_6 cXH0_1_7
    have RRs0_2 := Lib.hid (Rdb.weak rs0 (Nat.zero_le _) id)
    obtain ⟨avs0_2, cvs0_2, avs0_3, cvs0_3, avs0_4, cvs0_4, avs0_5, cvs0_5, avs0_6, cvs0_6, avs0_7, cvs0_7, rfl, fvs0_0, fvs0_1, fvs0_2, gvs0_2, fvs0_3, gvs0_3, fvs0_4, gvs0_4, fvs0_5, gvs0_5, fvs0_6, gvs0_6, fvs0_7, gvs0_7⟩ := shape_Map rs0
    clear rs0 fvs0_2 fvs0_3 fvs0_4 fvs0_5 fvs0_6 fvs0_7
    have ANS := Lib.hid (HS.out (by omega) ([.int .i64 d0.epoch, .int .i64 d0.term, .slice avs0_2 d0.tree.devices.length cvs0_2, .slice avs0_3 d0.tree.buckets.length cvs0_3, .slice avs0_4 d0.rules.length cvs0_4, .slice avs0_5 d0.pools.length cvs0_5, .slice avs0_6 d0.up.length cvs0_6, .slice avs0_7 d0.out.length cvs0_7]) _ RRs0_2.out)
    go_wp2_with fail
    refine (ANS.out).mono ?_
    rintro e w3 ⟨rfl, b3⟩
    have Q := XH0_2.out.later b3
    have cXH0_3_0 := Q.cells 0 _ rfl
    have cXH0_3_1 := Q.cells 1 _ rfl
    have cXH0_3_2 := Q.cells 2 _ rfl
    have cXH0_3_3 := Q.cells 3 _ rfl
    have cXH0_3_4 := Q.cells 4 _ rfl
    have cXH0_3_5 := Q.cells 5 _ rfl
    have cXH0_3_6 := Q.cells 6 _ rfl
    have cXH0_3_7 := Q.cells 7 _ rfl
    have XH0_3 := Lib.hid Q
    clear Q
    have RRs0_3 := Lib.hid (Rdb.below RRs0_2.out b3)
    have BH3 := Lib.hid (chainX w BH2.out b3)
    clear XH0_2 cXH0_2_0 cXH0_2_1 cXH0_2_2 cXH0_2_3 cXH0_2_4 cXH0_2_5 cXH0_2_6 cXH0_2_7 RRs0_2
    clear ANS
    have LY := lay w3 (.cells #[.int .i64 p.id, .int .i64 p.code.k, .int .i64 p.code.m, .int .i64 p.min, .int .i64 p.pgs, .int .i64 p.rule] 54)
    have YN := BxN.new w3 #[.int .i64 p.id, .int .i64 p.code.k, .int .i64 p.code.m, .int .i64 p.min, .int .i64 p.pgs, .int .i64 p.rule] 54
    have Q := XH0_3.out.later LY
    have cXH0_4_0 := Q.cells 0 _ rfl
    have cXH0_4_1 := Q.cells 1 _ rfl
    have cXH0_4_2 := Q.cells 2 _ rfl
    have cXH0_4_3 := Q.cells 3 _ rfl
    have cXH0_4_4 := Q.cells 4 _ rfl
    have cXH0_4_5 := Q.cells 5 _ rfl
    have cXH0_4_6 := Q.cells 6 _ rfl
    have cXH0_4_7 := Q.cells 7 _ rfl
    have XH0_4 := Lib.hid Q
    clear Q
    have cYW_4_0 := YN.cells 0 _ rfl
    have cYW_4_1 := YN.cells 1 _ rfl
    have cYW_4_2 := YN.cells 2 _ rfl
    have cYW_4_3 := YN.cells 3 _ rfl
    have cYW_4_4 := YN.cells 4 _ rfl
    have cYW_4_5 := YN.cells 5 _ rfl
    have YW_4 := Lib.hid YN
    have BH4 := Lib.hid (chainX w BH3.out LY)
    clear XH0_3 cXH0_3_0 cXH0_3_1 cXH0_3_2 cXH0_3_3 cXH0_3_4 cXH0_3_5 cXH0_3_6 cXH0_3_7
    clear LY YN
    go_wp2_with fail
    refine (CP0.out (by omega) _ BH4.out).mono ?_
    rintro e w5 ⟨esi0, rfl, ri0, b5⟩
    have Q := XH0_4.out.later b5
    have cXH0_5_0 := Q.cells 0 _ rfl
    have cXH0_5_1 := Q.cells 1 _ rfl
    have cXH0_5_2 := Q.cells 2 _ rfl
    have cXH0_5_3 := Q.cells 3 _ rfl
    have cXH0_5_4 := Q.cells 4 _ rfl
    have cXH0_5_5 := Q.cells 5 _ rfl
    have cXH0_5_6 := Q.cells 6 _ rfl
    have cXH0_5_7 := Q.cells 7 _ rfl
    have XH0_5 := Lib.hid Q
    clear Q
    have Q := YW_4.out.later b5
    have cYW_5_0 := Q.cells 0 _ rfl
    have cYW_5_1 := Q.cells 1 _ rfl
    have cYW_5_2 := Q.cells 2 _ rfl
    have cYW_5_3 := Q.cells 3 _ rfl
    have cYW_5_4 := Q.cells 4 _ rfl
    have cYW_5_5 := Q.cells 5 _ rfl
    have YW_5 := Lib.hid Q
    clear Q
    have BH5 := Lib.hid (chainX w BH4.out b5)
    clear XH0_4 YW_4 cXH0_4_0 cXH0_4_1 cXH0_4_2 cXH0_4_3 cXH0_4_4 cXH0_4_5 cXH0_4_6 cXH0_4_7 cYW_4_0 cYW_4_1 cYW_4_2 cYW_4_3 cYW_4_4 cYW_4_5
    have RRi0_5 := Lib.hid (Rdb.weak ri0 (Nat.zero_le _) id)
    obtain ⟨avi0_2, cvi0_2, avi0_3, cvi0_3, avi0_4, cvi0_4, avi0_5, cvi0_5, avi0_6, cvi0_6, avi0_7, cvi0_7, rfl, fvi0_0, fvi0_1, fvi0_2, gvi0_2, fvi0_3, gvi0_3, fvi0_4, gvi0_4, fvi0_5, gvi0_5, fvi0_6, gvi0_6, fvi0_7, gvi0_7⟩ := shape_Map ri0
    clear ri0 fvi0_2 fvi0_3 fvi0_4 fvi0_5 fvi0_6 fvi0_7
    have LY := lay w5 (.cells #[.int .i64 d0.epoch, .int .i64 d0.term, .slice avi0_2 d0.tree.devices.length cvi0_2, .slice avi0_3 d0.tree.buckets.length cvi0_3, .slice avi0_4 d0.rules.length cvi0_4, .slice avi0_5 d0.pools.length cvi0_5, .slice avi0_6 d0.up.length cvi0_6, .slice avi0_7 d0.out.length cvi0_7] 46)
    have YN := BxN.new w5 #[.int .i64 d0.epoch, .int .i64 d0.term, .slice avi0_2 d0.tree.devices.length cvi0_2, .slice avi0_3 d0.tree.buckets.length cvi0_3, .slice avi0_4 d0.rules.length cvi0_4, .slice avi0_5 d0.pools.length cvi0_5, .slice avi0_6 d0.up.length cvi0_6, .slice avi0_7 d0.out.length cvi0_7] 46
    have Q := XH0_5.out.later LY
    have cXH0_6_0 := Q.cells 0 _ rfl
    have cXH0_6_1 := Q.cells 1 _ rfl
    have cXH0_6_2 := Q.cells 2 _ rfl
    have cXH0_6_3 := Q.cells 3 _ rfl
    have cXH0_6_4 := Q.cells 4 _ rfl
    have cXH0_6_5 := Q.cells 5 _ rfl
    have cXH0_6_6 := Q.cells 6 _ rfl
    have cXH0_6_7 := Q.cells 7 _ rfl
    have XH0_6 := Lib.hid Q
    clear Q
    have Q := YW_5.out.later LY
    have cYW_6_0 := Q.cells 0 _ rfl
    have cYW_6_1 := Q.cells 1 _ rfl
    have cYW_6_2 := Q.cells 2 _ rfl
    have cYW_6_3 := Q.cells 3 _ rfl
    have cYW_6_4 := Q.cells 4 _ rfl
    have cYW_6_5 := Q.cells 5 _ rfl
    have YW_6 := Lib.hid Q
    clear Q
    have RRi0_6 := Lib.hid (Rdb.below RRi0_5.out LY)
    have cYH0_6_0 := YN.cells 0 _ rfl
    have cYH0_6_1 := YN.cells 1 _ rfl
    have cYH0_6_2 := YN.cells 2 _ rfl
    have cYH0_6_3 := YN.cells 3 _ rfl
    have cYH0_6_4 := YN.cells 4 _ rfl
    have cYH0_6_5 := YN.cells 5 _ rfl
    have cYH0_6_6 := YN.cells 6 _ rfl
    have cYH0_6_7 := YN.cells 7 _ rfl
    have YH0_6 := Lib.hid YN
    have BH6 := Lib.hid (chainX w BH5.out LY)
    clear XH0_5 YW_5 cXH0_5_0 cXH0_5_1 cXH0_5_2 cXH0_5_3 cXH0_5_4 cXH0_5_5 cXH0_5_6 cXH0_5_7 cYW_5_0 cYW_5_1 cYW_5_2 cYW_5_3 cYW_5_4 cYW_5_5 RRi0_5
    clear LY YN
    have ANS := Lib.hid (HI.out (by omega) ([.int .i64 d0.epoch, .int .i64 d0.term, .slice avi0_2 d0.tree.devices.length cvi0_2, .slice avi0_3 d0.tree.buckets.length cvi0_3, .slice avi0_4 d0.rules.length cvi0_4, .slice avi0_5 d0.pools.length cvi0_5, .slice avi0_6 d0.up.length cvi0_6, .slice avi0_7 d0.out.length cvi0_7]) _ RRi0_6.out)
    go_wp2_with fail
    refine (ANS.out).mono ?_
    rintro e w7 ⟨rfl, b7⟩
    have Q := XH0_6.out.later b7
    have cXH0_7_0 := Q.cells 0 _ rfl
    have cXH0_7_1 := Q.cells 1 _ rfl
    have cXH0_7_2 := Q.cells 2 _ rfl
    have cXH0_7_3 := Q.cells 3 _ rfl
    have cXH0_7_4 := Q.cells 4 _ rfl
    have cXH0_7_5 := Q.cells 5 _ rfl
    have cXH0_7_6 := Q.cells 6 _ rfl
    have cXH0_7_7 := Q.cells 7 _ rfl
    have XH0_7 := Lib.hid Q
    clear Q
    have Q := YW_6.out.later b7
    have cYW_7_0 := Q.cells 0 _ rfl
    have cYW_7_1 := Q.cells 1 _ rfl
    have cYW_7_2 := Q.cells 2 _ rfl
    have cYW_7_3 := Q.cells 3 _ rfl
    have cYW_7_4 := Q.cells 4 _ rfl
    have cYW_7_5 := Q.cells 5 _ rfl
    have YW_7 := Lib.hid Q
    clear Q
    have Q := YH0_6.out.later b7
    have cYH0_7_0 := Q.cells 0 _ rfl
    have cYH0_7_1 := Q.cells 1 _ rfl
    have cYH0_7_2 := Q.cells 2 _ rfl
    have cYH0_7_3 := Q.cells 3 _ rfl
    have cYH0_7_4 := Q.cells 4 _ rfl
    have cYH0_7_5 := Q.cells 5 _ rfl
    have cYH0_7_6 := Q.cells 6 _ rfl
    have cYH0_7_7 := Q.cells 7 _ rfl
    have YH0_7 := Lib.hid Q
    clear Q
    have RRi0_7 := Lib.hid (Rdb.below RRi0_6.out b7)
    have BH7 := Lib.hid (chainX w BH6.out b7)
    clear XH0_6 YW_6 YH0_6 cXH0_6_0 cXH0_6_1 cXH0_6_2 cXH0_6_3 cXH0_6_4 cXH0_6_5 cXH0_6_6 cXH0_6_7 cYW_6_0 cYW_6_1 cYW_6_2 cYW_6_3 cYW_6_4 cYW_6_5 cYH0_6_0 cYH0_6_1 cYH0_6_2 cYH0_6_3 cYH0_6_4 cYH0_6_5 cYH0_6_6 cYH0_6_7 RRi0_6
    clear ANS
    have LY := lay w7 (.cells #[.int .i64 p.id, .int .i64 p.code.k, .int .i64 p.code.m, .int .i64 p.min, .int .i64 p.pgs, .int .i64 p.rule] 54)
    have YN := BxN.new w7 #[.int .i64 p.id, .int .i64 p.code.k, .int .i64 p.code.m, .int .i64 p.min, .int .i64 p.pgs, .int .i64 p.rule] 54
    have Q := XH0_7.out.later LY
    have cXH0_8_0 := Q.cells 0 _ rfl
    have cXH0_8_1 := Q.cells 1 _ rfl
    have cXH0_8_2 := Q.cells 2 _ rfl
    have cXH0_8_3 := Q.cells 3 _ rfl
    have cXH0_8_4 := Q.cells 4 _ rfl
    have cXH0_8_5 := Q.cells 5 _ rfl
    have cXH0_8_6 := Q.cells 6 _ rfl
    have cXH0_8_7 := Q.cells 7 _ rfl
    have XH0_8 := Lib.hid Q
    clear Q
    have Q := YW_7.out.later LY
    have cYW_8_0 := Q.cells 0 _ rfl
    have cYW_8_1 := Q.cells 1 _ rfl
    have cYW_8_2 := Q.cells 2 _ rfl
    have cYW_8_3 := Q.cells 3 _ rfl
    have cYW_8_4 := Q.cells 4 _ rfl
    have cYW_8_5 := Q.cells 5 _ rfl
    have YW_8 := Lib.hid Q
    clear Q
    have Q := YH0_7.out.later LY
    have cYH0_8_0 := Q.cells 0 _ rfl
    have cYH0_8_1 := Q.cells 1 _ rfl
    have cYH0_8_2 := Q.cells 2 _ rfl
    have cYH0_8_3 := Q.cells 3 _ rfl
    have cYH0_8_4 := Q.cells 4 _ rfl
    have cYH0_8_5 := Q.cells 5 _ rfl
    have cYH0_8_6 := Q.cells 6 _ rfl
    have cYH0_8_7 := Q.cells 7 _ rfl
    have YH0_8 := Lib.hid Q
    clear Q
    have RRi0_8 := Lib.hid (Rdb.below RRi0_7.out LY)
    have cYG_8_0 := YN.cells 0 _ rfl
    have cYG_8_1 := YN.cells 1 _ rfl
    have cYG_8_2 := YN.cells 2 _ rfl
    have cYG_8_3 := YN.cells 3 _ rfl
    have cYG_8_4 := YN.cells 4 _ rfl
    have cYG_8_5 := YN.cells 5 _ rfl
    have YG_8 := Lib.hid YN
    have BH8 := Lib.hid (chainX w BH7.out LY)
    clear XH0_7 YW_7 YH0_7 cXH0_7_0 cXH0_7_1 cXH0_7_2 cXH0_7_3 cXH0_7_4 cXH0_7_5 cXH0_7_6 cXH0_7_7 cYW_7_0 cYW_7_1 cYW_7_2 cYW_7_3 cYW_7_4 cYW_7_5 cYH0_7_0 cYH0_7_1 cYH0_7_2 cYH0_7_3 cYH0_7_4 cYH0_7_5 cYH0_7_6 cYH0_7_7 RRi0_7
    clear LY YN
    go_wp2_with fail
    refine (EQP.out _).mono ?_
    rintro e w9 ⟨rfl, b9⟩
    have Q := XH0_8.out.later b9
    have cXH0_9_0 := Q.cells 0 _ rfl
    have cXH0_9_1 := Q.cells 1 _ rfl
    have cXH0_9_2 := Q.cells 2 _ rfl
    have cXH0_9_3 := Q.cells 3 _ rfl
    have cXH0_9_4 := Q.cells 4 _ rfl
    have cXH0_9_5 := Q.cells 5 _ rfl
    have cXH0_9_6 := Q.cells 6 _ rfl
    have cXH0_9_7 := Q.cells 7 _ rfl
    have XH0_9 := Lib.hid Q
    clear Q
    have Q := YW_8.out.later b9
    have cYW_9_0 := Q.cells 0 _ rfl
    have cYW_9_1 := Q.cells 1 _ rfl
    have cYW_9_2 := Q.cells 2 _ rfl
    have cYW_9_3 := Q.cells 3 _ rfl
    have cYW_9_4 := Q.cells 4 _ rfl
    have cYW_9_5 := Q.cells 5 _ rfl
    have YW_9 := Lib.hid Q
    clear Q
    have Q := YH0_8.out.later b9
    have cYH0_9_0 := Q.cells 0 _ rfl
    have cYH0_9_1 := Q.cells 1 _ rfl
    have cYH0_9_2 := Q.cells 2 _ rfl
    have cYH0_9_3 := Q.cells 3 _ rfl
    have cYH0_9_4 := Q.cells 4 _ rfl
    have cYH0_9_5 := Q.cells 5 _ rfl
    have cYH0_9_6 := Q.cells 6 _ rfl
    have cYH0_9_7 := Q.cells 7 _ rfl
    have YH0_9 := Lib.hid Q
    clear Q
    have Q := YG_8.out.later b9
    have cYG_9_0 := Q.cells 0 _ rfl
    have cYG_9_1 := Q.cells 1 _ rfl
    have cYG_9_2 := Q.cells 2 _ rfl
    have cYG_9_3 := Q.cells 3 _ rfl
    have cYG_9_4 := Q.cells 4 _ rfl
    have cYG_9_5 := Q.cells 5 _ rfl
    have YG_9 := Lib.hid Q
    clear Q
    have RRi0_9 := Lib.hid (Rdb.below RRi0_8.out b9)
    have BH9 := Lib.hid (chainX w BH8.out b9)
    clear XH0_8 YW_8 YH0_8 YG_8 cXH0_8_0 cXH0_8_1 cXH0_8_2 cXH0_8_3 cXH0_8_4 cXH0_8_5 cXH0_8_6 cXH0_8_7 cYW_8_0 cYW_8_1 cYW_8_2 cYW_8_3 cYW_8_4 cYW_8_5 cYH0_8_0 cYH0_8_1 cYH0_8_2 cYH0_8_3 cYH0_8_4 cYH0_8_5 cYH0_8_6 cYH0_8_7 cYG_8_0 cYG_8_1 cYG_8_2 cYG_8_3 cYG_8_4 cYG_8_5 RRi0_8
    go_wp2_with fail
    go_region_held3 (fun w' => w'.cell? ⟨w.heap.size, 0, none⟩ = some (.int .i64 d0.epoch) ∧ w'.cell? ⟨w.heap.size, 1, none⟩ = some (.int .i64 d0.term) ∧ w'.cell? ⟨w.heap.size, 2, none⟩ = some (.slice a0_2 d0.tree.devices.length c0_2) ∧ w'.cell? ⟨w.heap.size, 3, none⟩ = some (.slice a0_3 d0.tree.buckets.length c0_3) ∧ w'.cell? ⟨w.heap.size, 4, none⟩ = some (.slice a0_4 d0.rules.length c0_4) ∧ w'.cell? ⟨w.heap.size, 5, none⟩ = some (.slice a0_5 d0.pools.length c0_5) ∧ w'.cell? ⟨w.heap.size, 6, none⟩ = some (.slice a0_6 d0.up.length c0_6) ∧ w'.cell? ⟨w.heap.size, 7, none⟩ = some (.slice a0_7 d0.out.length c0_7) ∧ w'.cell? ⟨w3.heap.size, 0, none⟩ = some (.int .i64 p.id) ∧ w'.cell? ⟨w3.heap.size, 1, none⟩ = some (.int .i64 p.code.k) ∧ w'.cell? ⟨w3.heap.size, 2, none⟩ = some (.int .i64 p.code.m) ∧ w'.cell? ⟨w3.heap.size, 3, none⟩ = some (.int .i64 p.min) ∧ w'.cell? ⟨w3.heap.size, 4, none⟩ = some (.int .i64 p.pgs) ∧ w'.cell? ⟨w3.heap.size, 5, none⟩ = some (.int .i64 p.rule) ∧ w'.cell? ⟨w5.heap.size, 0, none⟩ = some (.int .i64 d0.epoch) ∧ w'.cell? ⟨w5.heap.size, 1, none⟩ = some (.int .i64 d0.term) ∧ w'.cell? ⟨w5.heap.size, 2, none⟩ = some (.slice avi0_2 d0.tree.devices.length cvi0_2) ∧ w'.cell? ⟨w5.heap.size, 3, none⟩ = some (.slice avi0_3 d0.tree.buckets.length cvi0_3) ∧ w'.cell? ⟨w5.heap.size, 4, none⟩ = some (.slice avi0_4 d0.rules.length cvi0_4) ∧ w'.cell? ⟨w5.heap.size, 5, none⟩ = some (.slice avi0_5 d0.pools.length cvi0_5) ∧ w'.cell? ⟨w5.heap.size, 6, none⟩ = some (.slice avi0_6 d0.up.length cvi0_6) ∧ w'.cell? ⟨w5.heap.size, 7, none⟩ = some (.slice avi0_7 d0.out.length cvi0_7) ∧ w'.cell? ⟨w7.heap.size, 0, none⟩ = some (.int .i64 p.id) ∧ w'.cell? ⟨w7.heap.size, 1, none⟩ = some (.int .i64 p.code.k) ∧ w'.cell? ⟨w7.heap.size, 2, none⟩ = some (.int .i64 p.code.m) ∧ w'.cell? ⟨w7.heap.size, 3, none⟩ = some (.int .i64 p.min) ∧ w'.cell? ⟨w7.heap.size, 4, none⟩ = some (.int .i64 p.pgs) ∧ w'.cell? ⟨w7.heap.size, 5, none⟩ = some (.int .i64 p.rule)) (go_keep)
      (first
        | (go_at_call 16; refine (CP0.out (by omega) _ BH9.out.drew).mono ?_; rintro e w10 ⟨ese0, rfl, re0, b10⟩; have b10 := undrewX b10; have Q := XH0_9.out.later b10; have cXH0_10_0 := Q.cells 0 _ rfl; have cXH0_10_1 := Q.cells 1 _ rfl; have cXH0_10_2 := Q.cells 2 _ rfl; have cXH0_10_3 := Q.cells 3 _ rfl; have cXH0_10_4 := Q.cells 4 _ rfl; have cXH0_10_5 := Q.cells 5 _ rfl; have cXH0_10_6 := Q.cells 6 _ rfl; have cXH0_10_7 := Q.cells 7 _ rfl; have XH0_10 := Lib.hid Q; clear Q; have Q := YW_9.out.later b10; have cYW_10_0 := Q.cells 0 _ rfl; have cYW_10_1 := Q.cells 1 _ rfl; have cYW_10_2 := Q.cells 2 _ rfl; have cYW_10_3 := Q.cells 3 _ rfl; have cYW_10_4 := Q.cells 4 _ rfl; have cYW_10_5 := Q.cells 5 _ rfl; have YW_10 := Lib.hid Q; clear Q; have Q := YH0_9.out.later b10; have cYH0_10_0 := Q.cells 0 _ rfl; have cYH0_10_1 := Q.cells 1 _ rfl; have cYH0_10_2 := Q.cells 2 _ rfl; have cYH0_10_3 := Q.cells 3 _ rfl; have cYH0_10_4 := Q.cells 4 _ rfl; have cYH0_10_5 := Q.cells 5 _ rfl; have cYH0_10_6 := Q.cells 6 _ rfl; have cYH0_10_7 := Q.cells 7 _ rfl; have YH0_10 := Lib.hid Q; clear Q; have Q := YG_9.out.later b10; have cYG_10_0 := Q.cells 0 _ rfl; have cYG_10_1 := Q.cells 1 _ rfl; have cYG_10_2 := Q.cells 2 _ rfl; have cYG_10_3 := Q.cells 3 _ rfl; have cYG_10_4 := Q.cells 4 _ rfl; have cYG_10_5 := Q.cells 5 _ rfl; have YG_10 := Lib.hid Q; clear Q; have RRi0_10 := Lib.hid (Rdb.below RRi0_9.out b10); have BH10 := Lib.hid (chainX w BH9.out b10); clear b10; have RRe0_10 := Lib.hid (Rdb.weak re0 (Nat.zero_le _) id); obtain ⟨ave0_2, cve0_2, ave0_3, cve0_3, ave0_4, cve0_4, ave0_5, cve0_5, ave0_6, cve0_6, ave0_7, cve0_7, rfl, fve0_0, fve0_1, fve0_2, gve0_2, fve0_3, gve0_3, fve0_4, gve0_4, fve0_5, gve0_5, fve0_6, gve0_6, fve0_7, gve0_7⟩ := shape_Map re0; clear re0 fve0_2 fve0_3 fve0_4 fve0_5 fve0_6 fve0_7)
        | (go_at_call 18; refine (EQ0.out (by omega) ([.int .i64 d0.epoch, .int .i64 d0.term, .slice avi0_2 d0.tree.devices.length cvi0_2, .slice avi0_3 d0.tree.buckets.length cvi0_3, .slice avi0_4 d0.rules.length cvi0_4, .slice avi0_5 d0.pools.length cvi0_5, .slice avi0_6 d0.up.length cvi0_6, .slice avi0_7 d0.out.length cvi0_7]) ([.int .i64 d0.epoch, .int .i64 d0.term, .slice ave0_2 d0.tree.devices.length cve0_2, .slice ave0_3 d0.tree.buckets.length cve0_3, .slice ave0_4 d0.rules.length cve0_4, .slice ave0_5 d0.pools.length cve0_5, .slice ave0_6 d0.up.length cve0_6, .slice ave0_7 d0.out.length cve0_7]) _ RRi0_10.out RRe0_10.out).mono ?_; rintro e w11 ⟨rfl, b11⟩; have Q := XH0_10.out.later b11; have cXH0_11_0 := Q.cells 0 _ rfl; have cXH0_11_1 := Q.cells 1 _ rfl; have cXH0_11_2 := Q.cells 2 _ rfl; have cXH0_11_3 := Q.cells 3 _ rfl; have cXH0_11_4 := Q.cells 4 _ rfl; have cXH0_11_5 := Q.cells 5 _ rfl; have cXH0_11_6 := Q.cells 6 _ rfl; have cXH0_11_7 := Q.cells 7 _ rfl; have XH0_11 := Lib.hid Q; clear Q; have Q := YW_10.out.later b11; have cYW_11_0 := Q.cells 0 _ rfl; have cYW_11_1 := Q.cells 1 _ rfl; have cYW_11_2 := Q.cells 2 _ rfl; have cYW_11_3 := Q.cells 3 _ rfl; have cYW_11_4 := Q.cells 4 _ rfl; have cYW_11_5 := Q.cells 5 _ rfl; have YW_11 := Lib.hid Q; clear Q; have Q := YH0_10.out.later b11; have cYH0_11_0 := Q.cells 0 _ rfl; have cYH0_11_1 := Q.cells 1 _ rfl; have cYH0_11_2 := Q.cells 2 _ rfl; have cYH0_11_3 := Q.cells 3 _ rfl; have cYH0_11_4 := Q.cells 4 _ rfl; have cYH0_11_5 := Q.cells 5 _ rfl; have cYH0_11_6 := Q.cells 6 _ rfl; have cYH0_11_7 := Q.cells 7 _ rfl; have YH0_11 := Lib.hid Q; clear Q; have Q := YG_10.out.later b11; have cYG_11_0 := Q.cells 0 _ rfl; have cYG_11_1 := Q.cells 1 _ rfl; have cYG_11_2 := Q.cells 2 _ rfl; have cYG_11_3 := Q.cells 3 _ rfl; have cYG_11_4 := Q.cells 4 _ rfl; have cYG_11_5 := Q.cells 5 _ rfl; have YG_11 := Lib.hid Q; clear Q; have RRi0_11 := Lib.hid (Rdb.below RRi0_10.out b11); have RRe0_11 := Lib.hid (Rdb.below RRe0_10.out b11); have BH11 := Lib.hid (chainX w BH10.out b11); clear b11))
    all_goals
      go_wp2
      go_ret
      exact ⟨rfl, BH11.out⟩
  · skip
    go_enter Try.func6, Try.ntmps6
    have V0 := SZ0.out (1048576) (by omega) (by omega) _ BH0.out
    unfold SzB at V0
    rw [show szI (1048576) s0 = -1 from szI_no (by omega)] at V0
    have VH0 := Lib.hid V0
    clear V0
    go_wp2_with fail
    refine (VH0.out).mono ?_
    rintro e w1 ⟨rfl, b1⟩
    have Q := XH0_0.out.later b1
    have cXH0_1_0 := Q.cells 0 _ rfl
    have cXH0_1_1 := Q.cells 1 _ rfl
    have cXH0_1_2 := Q.cells 2 _ rfl
    have cXH0_1_3 := Q.cells 3 _ rfl
    have cXH0_1_4 := Q.cells 4 _ rfl
    have cXH0_1_5 := Q.cells 5 _ rfl
    have cXH0_1_6 := Q.cells 6 _ rfl
    have cXH0_1_7 := Q.cells 7 _ rfl
    have XH0_1 := Lib.hid Q
    clear Q
    have BH1 := Lib.hid (chainX w BH0.out b1)
    clear XH0_0
    go_wp2
    go_ret
    exact ⟨rfl, BH1.out⟩
theorem lawPoolIn (cs : List Value) (d : DMap) (i : Int) (w : World) (h : Rdb.rd false 0 w cs d) (hi : (Lit.int .i64 i).wf = true) :
    Calls Try.prog 6 #[.agg cs.toArray, .int .i64 i] w fun e w' => e = .returned (.bool true) ∧ Below w.heap.size w w' := by
  obtain ⟨p, b, hv⟩ := plp_ex d i
  have hp : ∀ w', Rdb.rd true 0 w' [.int .i64 p.id, .int .i64 p.code.k, .int .i64 p.code.m, .int .i64 p.min, .int .i64 p.pgs, .int .i64 p.rule] p := by
    rcases hv with ⟨-, -, k, hk, -⟩ | ⟨-, rfl, -⟩
    · obtain ⟨a0_2, c0_2, a0_3, c0_3, a0_4, c0_4, a0_5, c0_5, a0_6, c0_6, a0_7, c0_7, -, -, -, -, -, -, -, -, -, f5, -⟩ := shape_Map h
      obtain ⟨b0, off, pcs, -, -, -, hr, -⟩ := f5.at' hk
      obtain ⟨-, g0, g1, g2, g3, g4, g5⟩ := shape_Pool hr
      exact fun w' => mk_Pool g0 g1 g2 g3 g4 g5
    · exact fun w' => mk_Pool rfl rfl rfl rfl rfl rfl
  exact fnFnExactPoolIn d i p b w h hp (fun z es w' k => specPoolIn d i p b w' (by omega) k hv) (fun z es w' k => implPoolIn d i p b w' (by omega) k hv)
end Go.Proofs.Yteogbfmghbaelaa.Rd
