/-
  IntervalAt in the program.
-/
import Derived.Test.YthimpcfodbmhkaaPickI
namespace Go.Proofs.Ythimpcfodbmhkaa.Ac
open Go.RowKit Go.Proofs.Ythimpcfodbmhkaa.GfI Go.Proofs.Ythimpcfodbmhkaa.GfS Go.Proofs.Ythimpcfodbmhkaa.MixC
open Go.Proofs.Ythimpcfodbmhkaa.Gf2 (Ib wpList_append_int)
open Go.Proofs.Ythimpcfodbmhkaa.Rd (lay chain chainX RetW Rdb rows_words rows_wf GOne AnsI AnsR gone_of_own rows_of_words DInterval shape_Interval mk_Interval)
open Go.Proofs.Ythimpcfodbmhkaa.Rd (OwnV wpList_append_V wpList_append_Vb ElV undrewX AnsV)
open Go.Proofs.Ythimpcfodbmhkaa.Sg (BxN)
set_option linter.unusedVariables false
set_option linter.unusedSimpArgs false

def atB (x : Int) (v : DInterval) : Bool := inB x v.first v.last
/-- The first interval of a valid list that holds the epoch. -/
def AtR (x : Int) (l : List DInterval) (d : DInterval) (b : Bool) : Prop :=
  (IvP l ∧ b = true ∧ ∃ k : Nat, l[k]? = some d ∧ atB x d = true ∧ ∀ (i : Nat) v, i < k → l[i]? = some v → atB x v = false) ∨ (d = default ∧ b = false ∧ (IvP l → ∀ v, v ∈ l → atB x v = false))
theorem at_ex (x : Int) (l : List DInterval) : ∃ d b, AtR x l d b := by
  by_cases h : IvP l
  · by_cases q : ∃ k : Nat, ∃ d, l[k]? = some d ∧ atB x d = true
    · have key : ∀ n : Nat, (∃ d, l[n]? = some d ∧ atB x d = true) → ∃ (k : Nat) (d : DInterval), l[k]? = some d ∧ atB x d = true ∧ ∀ (i : Nat) v, i < k → l[i]? = some v → atB x v = false := by
        intro n
        induction n using Nat.strongRecOn with
        | _ n ih =>
          rintro ⟨d, hd, hq⟩
          by_cases z : ∃ i, i < n ∧ ∃ e, l[i]? = some e ∧ atB x e = true
          · obtain ⟨i, hi, e, he, hq'⟩ := z
            exact ih i hi ⟨e, he, hq'⟩
          · refine ⟨n, d, hd, hq, fun i v hi hv => ?_⟩
            cases y : atB x v
            · rfl
            · exact absurd ⟨i, hi, v, hv, y⟩ z
      obtain ⟨k, d, hd, hq⟩ := q
      obtain ⟨k', d', h1, h2, h3⟩ := key k ⟨d, hd, hq⟩
      exact ⟨d', true, .inl ⟨h, rfl, k', h1, h2, h3⟩⟩
    · refine ⟨default, false, .inr ⟨rfl, rfl, fun _ v hv => ?_⟩⟩
      obtain ⟨i, hi, rfl⟩ := List.getElem_of_mem hv
      cases y : atB x l[i]
      · rfl
      · exact absurd ⟨i, _, List.getElem?_eq_getElem hi, y⟩ q
  · exact ⟨default, false, .inr ⟨rfl, rfl, fun q => absurd q h⟩⟩
theorem filter_first {l : List DInterval} {p : DInterval → Bool} {k : Nat} {d : DInterval} (hd : l[k]? = some d) (hp : p d = true) (hn : ∀ (i : Nat) v, i < k → l[i]? = some v → p v = false) : ∃ r, l.filter p = d :: r := by
  induction l generalizing k with
  | nil => simp at hd
  | cons a l ih =>
    cases k with
    | zero =>
      obtain rfl : a = d := by simpa using hd
      exact ⟨_, List.filter_cons_of_pos hp⟩
    | succ k =>
      have ha := hn 0 a (by omega) rfl
      obtain ⟨r, hr⟩ := ih (k := k) (by simpa using hd) (fun i v hi hv => hn (i + 1) v (by omega) (by simpa using hv))
      exact ⟨r, by rw [List.filter_cons_of_neg (by simp [ha])]; exact hr⟩
/-- What is handed back: an interval with its places in a block of their own, and a bool. -/
def AnsS (d : DInterval) (b : Bool) (w : World) (e : Ending) (w' : World) : Prop := ∃ a c, e = .returned (.tuple #[.agg #[.int .i64 d.first, .int .i64 d.last, .slice a d.acting.length c, .bool d.may], .bool b]) ∧ Rd.GOne w.heap.size w' a d.acting ∧ d.acting.length ≤ c ∧ Below w.heap.size w w'
set_option maxRecDepth 100000 in
set_option maxHeartbeats 2000000 in
theorem hasFn (v : DInterval) (a0_2 : Option Addr) (c0_2 : Nat) (x : Int) (w : World) (hv : v.first ≤ v.last) :
    Calls Try.prog 67 #[.agg #[.int .i64 v.first, .int .i64 v.last, .slice a0_2 v.acting.length c0_2, .bool v.may], .int .i64 x] w (RetW (.bool (atB x v)) w) := by
  have LY := lay w (.cells #[.int .i64 v.first, .int .i64 v.last, .slice a0_2 v.acting.length c0_2, .bool v.may] 38)
  have YN := BxN.new w #[.int .i64 v.first, .int .i64 v.last, .slice a0_2 v.acting.length c0_2, .bool v.may] 38
  have y0 := YN.cells 0 _ rfl
  have y1 := YN.cells 1 _ rfl
  have LH := Lib.hid LY
  have WI := Lib.hid (fun w' => Wi.isWithin x v.first v.last hv w')
  unfold atB
  clear YN LY hv
  generalize inB x v.first v.last = b at *
  generalize v.first = x0 at *
  generalize v.last = x1 at *
  go_enter Try.func67, Try.ntmps67
  go_wp2_with fail
  refine (WI.out _).mono ?_
  rintro e w1 ⟨rfl, rfl⟩
  go_wp2
  go_ret
  exact ⟨rfl, LH.out⟩
set_option maxRecDepth 100000 in
set_option maxHeartbeats 2000000 in
theorem atFn (v : DInterval) (a0_2 : Option Addr) (c0_2 : Nat) (bE : Nat) (x : Int) (w : World) (hv : v.first ≤ v.last) (hlt : bE < w.heap.size) (hE : w.cell? ⟨bE, 0, none⟩ = some (.int .i64 x)) :
    Calls Try.prog 66 #[.agg #[.int .i64 v.first, .int .i64 v.last, .slice a0_2 v.acting.length c0_2, .bool v.may], .pointer (some ⟨bE, 0, none⟩)] w (RetW (.bool (atB x v)) w) := by
  have LY := lay w (.cells #[.int .i64 v.first, .int .i64 v.last, .slice a0_2 v.acting.length c0_2, .bool v.may] 38)
  have YN := BxN.new w #[.int .i64 v.first, .int .i64 v.last, .slice a0_2 v.acting.length c0_2, .bool v.may] 38
  have y0 := YN.cells 0 _ rfl
  have y1 := YN.cells 1 _ rfl
  have y2 := YN.cells 2 _ rfl
  have y3 := YN.cells 3 _ rfl
  have cE := (LY.cell (p := ⟨bE, 0, none⟩) hlt).trans hE
  have LH := Lib.hid LY
  have HS := Lib.hid (hasFn v a0_2 c0_2 x (w.alloc (.cells #[.int .i64 v.first, .int .i64 v.last, .slice a0_2 v.acting.length c0_2, .bool v.may] 38)) hv)
  clear YN LY hE hv hlt
  generalize atB x v = b at *
  go_enter Try.func66, Try.ntmps66
  go_wp2_with fail
  refine HS.out.mono ?_
  rintro e w1 ⟨rfl, b1⟩
  have B1 := Lib.hid (chainX w LH.out b1)
  clear b1
  go_wp2
  go_ret
  exact ⟨rfl, B1.out⟩
set_option maxRecDepth 100000 in
set_option maxHeartbeats 4000000 in
theorem atNo (a : Option Addr) (cap : Nat) (l : List DInterval) (s : Int) (w : World) {fr : Bool} {lo : Nat} (hl : l.length ≤ 2097152) (hs : Rdb.sz l ≤ 2097152) (h : Rd.Rows fr lo w a l) (hp : ¬ IvP l) :
    Calls Try.prog 35 #[.slice a l.length cap, .int .i64 s] w (AnsS default false w) := by
  have L1 := lay w (.cells #[.int .i64 s] 2)
  have L2 := chainX w L1 (lay (w.alloc (.cells #[.int .i64 s] 2)) (.cells #[.int .i64 0, .int .i64 0, .slice none 0 0, .bool false] 38))
  have kS : ((w.alloc (.cells #[.int .i64 s] 2)).alloc (.cells #[.int .i64 0, .int .i64 0, .slice none 0 0, .bool false] 38)).cell? ⟨w.heap.size, 0, none⟩ = some (.int .i64 s) := ((BxN.new w #[.int .i64 s] 2).later (lay (w.alloc (.cells #[.int .i64 s] 2)) (.cells #[.int .i64 0, .int .i64 0, .slice none 0 0, .bool false] 38))).cells 0 _ rfl
  have Z0 := BxN.new (w.alloc (.cells #[.int .i64 s] 2)) #[.int .i64 0, .int .i64 0, .slice none 0 0, .bool false] 38
  rw [World.size_alloc] at Z0
  have ZH := Lib.hid Z0
  have S2 : ((w.alloc (.cells #[.int .i64 s] 2)).alloc (.cells #[.int .i64 0, .int .i64 0, .slice none 0 0, .bool false] 38)).heap.size = w.heap.size + 1 + 1 := by simp
  have TH := Lib.hid ((thoseNo 66 #[.pointer (some ⟨w.heap.size, 0, none⟩)] a cap l ((w.alloc (.cells #[.int .i64 s] 2)).alloc (.cells #[.int .i64 0, .int .i64 0, .slice none 0 0, .bool false] 38)) hl hs (h.below L2) hp).mono fun e w' q => q)
  have L2 := Lib.hid L2
  clear L1 kS Z0 h hs hp 
  generalize l.length = n at *
  go_enter Try.func35, Try.ntmps35
  go_wp2_with fail
  refine TH.out.mono ?_
  rintro e w3 ⟨rfl, b3⟩
  have Z3 := ZH.out.later b3
  have z0 := Z3.cells 0 _ rfl
  have zf0 := Z3.free 0
  have z1 := Z3.cells 1 _ rfl
  have zf1 := Z3.free 1
  have z2 := Z3.cells 2 _ rfl
  have zf2 := Z3.free 2
  have z3 := Z3.cells 3 _ rfl
  have zf3 := Z3.free 3
  have BW := chainX w L2.out b3
  have F := Lib.hid (show AnsS default false w (.returned (.tuple #[.agg #[.int .i64 0, .int .i64 0, .slice none 0 0, .bool false], .bool false])) ((((w3.setCell ⟨w.heap.size + 1, 0, none⟩ (.int .i64 0)).setCell ⟨w.heap.size + 1, 1, none⟩ (.int .i64 0)).setCell ⟨w.heap.size + 1, 2, none⟩ (.slice none 0 0)).setCell ⟨w.heap.size + 1, 3, none⟩ (.bool false)) from ⟨none, 0, rfl, .inl rfl, Nat.le_refl _, ((((BW.setCell (p := ⟨w.heap.size + 1, 0, none⟩) (by show _ ≤ w.heap.size + 1; omega) _).setCell (p := ⟨w.heap.size + 1, 1, none⟩) (by show _ ≤ w.heap.size + 1; omega) _).setCell (p := ⟨w.heap.size + 1, 2, none⟩) (by show _ ≤ w.heap.size + 1; omega) _).setCell (p := ⟨w.heap.size + 1, 3, none⟩) (by show _ ≤ w.heap.size + 1; omega) _)⟩)
  clear BW Z3 b3
  go_wp2
  exact bodyPost_ret (v := .tuple #[.agg #[.int .i64 0, .int .i64 0, .slice none 0 0, .bool false], .bool false]) (by simp [results, Try.results35, go_sem, *]) rfl F.out
set_option maxRecDepth 100000 in
set_option maxHeartbeats 4000000 in
theorem atNone (a : Option Addr) (cap : Nat) (l : List DInterval) (s : Int) (w : World) {fr : Bool} {lo : Nat} (hl : l.length ≤ 2097152) (hs : Rdb.sz l ≤ 2097152) (h : Rd.Rows fr lo w a l) (hp : IvP l) (he : l.filter (atB s) = []) :
    Calls Try.prog 35 #[.slice a l.length cap, .int .i64 s] w (AnsS default false w) := by
  have L1 := lay w (.cells #[.int .i64 s] 2)
  have L2 := chainX w L1 (lay (w.alloc (.cells #[.int .i64 s] 2)) (.cells #[.int .i64 0, .int .i64 0, .slice none 0 0, .bool false] 38))
  have kS : ((w.alloc (.cells #[.int .i64 s] 2)).alloc (.cells #[.int .i64 0, .int .i64 0, .slice none 0 0, .bool false] 38)).cell? ⟨w.heap.size, 0, none⟩ = some (.int .i64 s) := ((BxN.new w #[.int .i64 s] 2).later (lay (w.alloc (.cells #[.int .i64 s] 2)) (.cells #[.int .i64 0, .int .i64 0, .slice none 0 0, .bool false] 38))).cells 0 _ rfl
  have Z0 := BxN.new (w.alloc (.cells #[.int .i64 s] 2)) #[.int .i64 0, .int .i64 0, .slice none 0 0, .bool false] 38
  rw [World.size_alloc] at Z0
  have ZH := Lib.hid Z0
  have S2 : ((w.alloc (.cells #[.int .i64 s] 2)).alloc (.cells #[.int .i64 0, .int .i64 0, .slice none 0 0, .bool false] 38)).heap.size = w.heap.size + 1 + 1 := by simp
  have eg : ∀ args w, (callFunc 66 args).run Try.prog w = .ok (.enter 66 args) w := enters_of Try.func66 (by kernel_rfl) rfl
  have FL : ∀ v, v ∈ l → v.first ≤ v.last := fun v hv => by
    obtain ⟨i, hi, rfl⟩ := List.getElem_of_mem hv
    exact (inB_iff.1 (hp i _ hi (List.getElem?_eq_getElem hi)).2.1).1
  have TH := thoseOf 66 #[.pointer (some ⟨w.heap.size, 0, none⟩)] eg (atB s) a cap l ((w.alloc (.cells #[.int .i64 s] 2)).alloc (.cells #[.int .i64 0, .int .i64 0, .slice none 0 0, .bool false] 38)) hl hs (h.below L2) hp (fun v a2 c2 w' hv _ _ bb => atFn v a2 c2 w.heap.size s w' (FL v hv) (by have := bb.size; omega) ((bb.cell (p := ⟨w.heap.size, 0, none⟩) (by show w.heap.size < _; omega)).trans kS))
  rw [he] at TH
  have TH := Lib.hid TH
  clear eg FL
  have L2 := Lib.hid L2
  clear L1 kS Z0 h hs hp he
  generalize l.length = n at *
  go_enter Try.func35, Try.ntmps35
  go_wp2_with fail
  refine TH.out.mono ?_
  rintro e w3 ⟨v, rfl, V3, b3⟩
  obtain ⟨av, cv3, rfl⟩ := OwnV.shape V3
  clear V3
  have Z3 := ZH.out.later b3
  have z0 := Z3.cells 0 _ rfl
  have zf0 := Z3.free 0
  have z1 := Z3.cells 1 _ rfl
  have zf1 := Z3.free 1
  have z2 := Z3.cells 2 _ rfl
  have zf2 := Z3.free 2
  have z3 := Z3.cells 3 _ rfl
  have zf3 := Z3.free 3
  have BW := chainX w L2.out b3
  have F := Lib.hid (show AnsS default false w (.returned (.tuple #[.agg #[.int .i64 0, .int .i64 0, .slice none 0 0, .bool false], .bool false])) ((((w3.setCell ⟨w.heap.size + 1, 0, none⟩ (.int .i64 0)).setCell ⟨w.heap.size + 1, 1, none⟩ (.int .i64 0)).setCell ⟨w.heap.size + 1, 2, none⟩ (.slice none 0 0)).setCell ⟨w.heap.size + 1, 3, none⟩ (.bool false)) from ⟨none, 0, rfl, .inl rfl, Nat.le_refl _, ((((BW.setCell (p := ⟨w.heap.size + 1, 0, none⟩) (by show _ ≤ w.heap.size + 1; omega) _).setCell (p := ⟨w.heap.size + 1, 1, none⟩) (by show _ ≤ w.heap.size + 1; omega) _).setCell (p := ⟨w.heap.size + 1, 2, none⟩) (by show _ ≤ w.heap.size + 1; omega) _).setCell (p := ⟨w.heap.size + 1, 3, none⟩) (by show _ ≤ w.heap.size + 1; omega) _)⟩)
  clear BW Z3 b3
  go_wp2
  exact bodyPost_ret (v := .tuple #[.agg #[.int .i64 0, .int .i64 0, .slice none 0 0, .bool false], .bool false]) (by simp [results, Try.results35, go_sem, *]) rfl F.out
set_option maxRecDepth 100000 in
set_option maxHeartbeats 4000000 in
theorem atYes (a : Option Addr) (cap : Nat) (l : List DInterval) (s : Int) (w : World) {fr : Bool} {lo : Nat} (hl : l.length ≤ 2097152) (hs : Rdb.sz l ≤ 2097152) (h : Rd.Rows fr lo w a l) (hp : IvP l) (d : DInterval) (rs : List DInterval) (he : l.filter (atB s) = d :: rs) :
    Calls Try.prog 35 #[.slice a l.length cap, .int .i64 s] w (AnsS d true w) := by
  have L1 := lay w (.cells #[.int .i64 s] 2)
  have L2 := chainX w L1 (lay (w.alloc (.cells #[.int .i64 s] 2)) (.cells #[.int .i64 0, .int .i64 0, .slice none 0 0, .bool false] 38))
  have kS : ((w.alloc (.cells #[.int .i64 s] 2)).alloc (.cells #[.int .i64 0, .int .i64 0, .slice none 0 0, .bool false] 38)).cell? ⟨w.heap.size, 0, none⟩ = some (.int .i64 s) := ((BxN.new w #[.int .i64 s] 2).later (lay (w.alloc (.cells #[.int .i64 s] 2)) (.cells #[.int .i64 0, .int .i64 0, .slice none 0 0, .bool false] 38))).cells 0 _ rfl
  have Z0 := BxN.new (w.alloc (.cells #[.int .i64 s] 2)) #[.int .i64 0, .int .i64 0, .slice none 0 0, .bool false] 38
  rw [World.size_alloc] at Z0
  have ZH := Lib.hid Z0
  have S2 : ((w.alloc (.cells #[.int .i64 s] 2)).alloc (.cells #[.int .i64 0, .int .i64 0, .slice none 0 0, .bool false] 38)).heap.size = w.heap.size + 1 + 1 := by simp
  have eg : ∀ args w, (callFunc 66 args).run Try.prog w = .ok (.enter 66 args) w := enters_of Try.func66 (by kernel_rfl) rfl
  have FL : ∀ v, v ∈ l → v.first ≤ v.last := fun v hv => by
    obtain ⟨i, hi, rfl⟩ := List.getElem_of_mem hv
    exact (inB_iff.1 (hp i _ hi (List.getElem?_eq_getElem hi)).2.1).1
  have TH := thoseOf 66 #[.pointer (some ⟨w.heap.size, 0, none⟩)] eg (atB s) a cap l ((w.alloc (.cells #[.int .i64 s] 2)).alloc (.cells #[.int .i64 0, .int .i64 0, .slice none 0 0, .bool false] 38)) hl hs (h.below L2) hp (fun v a2 c2 w' hv _ _ bb => atFn v a2 c2 w.heap.size s w' (FL v hv) (by have := bb.size; omega) ((bb.cell (p := ⟨w.heap.size, 0, none⟩) (by show w.heap.size < _; omega)).trans kS))
  rw [he] at TH
  have TH := Lib.hid TH
  clear eg FL
  have L2 := Lib.hid L2
  clear L1 kS Z0 h hs hp he
  generalize l.length = n at *
  go_enter Try.func35, Try.ntmps35
  go_wp2_with fail
  refine TH.out.mono ?_
  rintro e w3 ⟨v, rfl, V3, b3⟩
  obtain ⟨av, cv3, rfl⟩ := OwnV.shape V3
  obtain ⟨QS, k1, O, k3, k4⟩ := V3
  obtain ⟨g, cp, eg, hg1, hg2⟩ := World.ownsRow.form O (by simp)
  obtain ⟨rfl, -, rfl⟩ : av = some ⟨g, 0, none⟩ ∧ (d :: rs).length = (d :: rs).length ∧ cv3 = cp := by simpa using eg
  obtain ⟨p, hp⟩ := Rd.get_lt (show 0 < QS.length by rw [k1]; simp)
  have el := k3 0 d p rfl hp
  have cell : ∀ k u, k < 4 → (Rd.cV d p)[k]? = some u → w3.cell? ⟨g, k, none⟩ = some u := fun k u hk hu => by
    have h1 := World.ownsRow.cellAt O k (by simp; omega)
    have h2 := Rd.rowV_at (ds := d :: rs) (Q := QS) (i := 0) (k := k) rfl hp hk
    rw [Nat.zero_mul, Nat.zero_add] at h2
    rw [h2, hu] at h1; exact h1
  obtain ⟨q, c⟩ := p
  have g0 : w3.cell? ⟨g, 0, none⟩ = some (.int .i64 d.first) := cell 0 _ (by omega) rfl
  have g1 : w3.cell? ⟨g, 1, none⟩ = some (.int .i64 d.last) := cell 1 _ (by omega) rfl
  have g2 : w3.cell? ⟨g, 2, none⟩ = some (.slice (some ⟨q, 0, none⟩) d.acting.length c) := cell 2 _ (by omega) rfl
  have g3 : w3.cell? ⟨g, 3, none⟩ = some (.bool d.may) := cell 3 _ (by omega) rfl
  have qlow : w.heap.size + 1 + 1 ≤ q := by have := el.low; omega
  have qlt : q < w3.heap.size := el.lt
  have qcap : d.acting.length ≤ c := el.cap
  have qr := el.rows
  have ln : (d :: rs).length = rs.length + 1 := rfl
  rw [ln]
  generalize rs.length = rl at *
  clear k1 O k3 k4 eg el cell ln hp
  have Z3 := ZH.out.later b3
  have z0 := Z3.cells 0 _ rfl
  have zf0 := Z3.free 0
  have z1 := Z3.cells 1 _ rfl
  have zf1 := Z3.free 1
  have z2 := Z3.cells 2 _ rfl
  have zf2 := Z3.free 2
  have z3 := Z3.cells 3 _ rfl
  have zf3 := Z3.free 3
  have BW := chainX w L2.out b3
  have F := Lib.hid (show AnsS d true w (.returned (.tuple #[.agg #[.int .i64 d.first, .int .i64 d.last, .slice (some ⟨q, 0, none⟩) d.acting.length c, .bool d.may], .bool true])) ((((w3.setCell ⟨w.heap.size + 1, 0, none⟩ (.int .i64 d.first)).setCell ⟨w.heap.size + 1, 1, none⟩ (.int .i64 d.last)).setCell ⟨w.heap.size + 1, 2, none⟩ (.slice (some ⟨q, 0, none⟩) d.acting.length c)).setCell ⟨w.heap.size + 1, 3, none⟩ (.bool d.may)) from ⟨_, c, rfl, .inr ⟨q, rfl, ((Rd.Rows.far (p := ⟨w.heap.size + 1, 3, none⟩) (v := .bool d.may) ((Rd.Rows.far (p := ⟨w.heap.size + 1, 2, none⟩) (v := .slice (some ⟨q, 0, none⟩) d.acting.length c) ((Rd.Rows.far (p := ⟨w.heap.size + 1, 1, none⟩) (v := .int .i64 d.last) ((Rd.Rows.far (p := ⟨w.heap.size + 1, 0, none⟩) (v := .int .i64 d.first) (qr.weak (lo' := w.heap.size + 1 + 1) (by omega) (id : true = true → true = true)) (by show w.heap.size + 1 < _; omega))) (by show w.heap.size + 1 < _; omega))) (by show w.heap.size + 1 < _; omega))) (by show w.heap.size + 1 < _; omega))).weak (by omega) id, by omega, by simpa using qlt⟩, qcap, ((((BW.setCell (p := ⟨w.heap.size + 1, 0, none⟩) (by show _ ≤ w.heap.size + 1; omega) _).setCell (p := ⟨w.heap.size + 1, 1, none⟩) (by show _ ≤ w.heap.size + 1; omega) _).setCell (p := ⟨w.heap.size + 1, 2, none⟩) (by show _ ≤ w.heap.size + 1; omega) _).setCell (p := ⟨w.heap.size + 1, 3, none⟩) (by show _ ≤ w.heap.size + 1; omega) _)⟩)
  clear BW Z3 b3 qr
  go_wp2
  exact bodyPost_ret (v := .tuple #[.agg #[.int .i64 d.first, .int .i64 d.last, .slice (some ⟨q, 0, none⟩) d.acting.length c, .bool d.may], .bool true]) (by simp [results, Try.results35, go_sem, *]) rfl F.out
theorem implIntervalAt (a : Option Addr) (cap : Nat) (l : List DInterval) (s : Int) (d : DInterval) (b : Bool) (w : World) {fr : Bool} {lo : Nat} (hl : l.length ≤ 2097152) (hs : Rdb.sz l ≤ 2097152) (h : Rd.Rows fr lo w a l) (hr : AtR s l d b) :
    Calls Try.prog 35 #[.slice a l.length cap, .int .i64 s] w (AnsS d b w) := by
  rcases hr with ⟨hp, rfl, k, hd, hq, hn⟩ | ⟨rfl, rfl, hn⟩
  · obtain ⟨r, hr⟩ := filter_first (p := atB s) hd hq hn
    exact atYes a cap l s w hl hs h hp d r hr
  · by_cases hp : IvP l
    · exact atNone a cap l s w hl hs h hp (List.filter_eq_nil_iff.2 (fun v hv => by rw [hn hp v hv]; simp))
    · exact atNo a cap l s w hl hs h hp
end Go.Proofs.Ythimpcfodbmhkaa.Ac
