/-
  A choice among the items of a bucket: in the program.
-/
import Derived.Test.YtgfpngjfhmiphaaTund
import Derived.Test.YtgfpngjfhmiphaaChoose2
namespace Go.Proofs.Ytgfpngjfhmiphaa.Tm
open Go.RowKit Go.Proofs.Ytgfpngjfhmiphaa.GfI Go.Proofs.Ytgfpngjfhmiphaa.GfS Go.Proofs.Ytgfpngjfhmiphaa.MixC
open Go.Proofs.Ytgfpngjfhmiphaa.It (lay chain okI okI_yes Two)
open Go.Proofs.Ytgfpngjfhmiphaa.Ch (chA chB implChoose1 l07Choose IntBoolB tsN sel cellsT recs_own own_shape)
open Go.Proofs.Ytgfpngjfhmiphaa.Rc (Recs Rnd)
open Go.Proofs.Ytgfpngjfhmiphaa.Bk (Bks tval bval)
open Go.Proofs.Ytgfpngjfhmiphaa.Sg (BxN)
set_option linter.unusedVariables false
set_option linter.unusedSimpArgs false

theorem sorted_len {l : List Int} (h : l.Pairwise (· < ·)) (hm : ∀ z, z ∈ l → 0 ≤ z ∧ z ≤ 15) : l.length ≤ 16 :=
  rise_le (f := fun i => l.getD i 0) (n := l.length) (fun i hi => hm _ (getD_mem hi)) (fun i hi => by
    have := (List.pairwise_iff_getElem.1 h) i (i + 1) (by omega) hi (by omega)
    rw [List.getD_eq_getElem?_getD, List.getD_eq_getElem?_getD, List.getElem?_eq_getElem (by omega : i < l.length), List.getElem?_eq_getElem hi]
    exact this)
theorem wt_128 {T : TD} (O : T.Ok) {x : Int} (h0 : 0 ≤ T.kd x) : 0 ≤ wt T 4 x ∧ wt T 4 x ≤ 128 := by
  have hk := kd_top O x
  rw [← sum_undr O (f := 4) h0 (by omega)]
  have h := sumW_le (dwt_le O) (undr T 4 x)
  have hl := sorted_len (sorted_undr T 4 x) (fun z hz => by
    have hz0 := undr_dev O h0 (by omega) hz
    rcases T.kd_cases z with ⟨i, hi, e, _⟩ | ⟨_, j, hj, _, e⟩ | ⟨_, _, e⟩
    · have := O.dev.each i hi; omega
    · have := (O.bkt.each j hj).2.2.1; omega
    · omega)
  have : ((undr T 4 x).length : Int) * 8 ≤ 16 * 8 := Int.mul_le_mul_of_nonneg_right (by omega) (by omega)
  omega
def itF (l : List Int) (i : Nat) : Int := l.getD i 0
def itG (T : TD) (l : List Int) (i : Nat) : Int := wt T 4 (l.getD i 0)
theorem it_ok {T : TD} (O : T.Ok) {j : Nat} (hj : j < T.bn) : ∀ i, i < (T.L j).length → okI (itF (T.L j) i) (itG T (T.L j) i) = true := by
  intro i hi
  have hx := getD_mem hi
  have k := kd_up O hj hx
  have w := wt_128 O k.1
  refine okI_yes ⟨?_, ?_, w.1, w.2⟩
  · unfold itF
    rcases T.kd_cases ((T.L j).getD i 0) with ⟨d, hd, e, _⟩ | ⟨_, b, hb, e, _⟩ | ⟨_, _, e⟩
    · have := O.dev.each d hd; omega
    · have := O.bkt.each b hb; omega
    · omega
  · unfold itF
    rcases T.kd_cases ((T.L j).getD i 0) with ⟨d, hd, e, _⟩ | ⟨_, b, hb, e, _⟩ | ⟨_, _, e⟩
    · have := O.dev.each d hd; omega
    · have := O.bkt.each b hb; omega
    · omega

/-- All parts of a valid tree; the buckets' own lists can be read. -/
structure Whole2 (T : TD) (mb p q : Nat) (w : World) : Prop where
  whole : Whole T mb p q w
  items : ∀ j, j < T.bn → ∃ a c u lo hi, BxN w (q + 2 * j) [upv q (T.par (T.bf j)), .int .i64 (T.bf j), .int .i64 (T.bg j), .slice a (T.L j).length c, u] ∧ Words w a (T.L j) ∧ Rw w lo hi u (things T p q (T.L j))
theorem Prt.whole2 {T : TD} {I : Nat → Option Addr} {C : Nat → Nat} {N0 mb p q base : Nat} {U : Int → Option Nat} {S : Nat → Value} {w : World} (O : T.Ok) (hU : Up T T.bn 0 U) (h : Prt T I C N0 mb p q T.bn 0 base U S w) (hW : ∀ j, j < T.bn → Words w (I j) (T.L j)) : Whole2 T mb p q w := by
  have e := hU.par
  subst e
  exact ⟨h.whole O hU, fun j hj => ⟨_, _, _, _, _, h.br j hj, hW j hj, h.row j hj⟩⟩
theorem Whole2.later {T : TD} {mb p q : Nat} {w w' : World} (h : Whole2 T mb p q w) (b : Below w.heap.size w w') : Whole2 T mb p q w' :=
  ⟨h.whole.later b, fun j hj => by
    obtain ⟨a, c, u, lo, hi, x, wd, r⟩ := h.items j hj
    exact ⟨a, c, u, lo, hi, x.later b, wd.below b, r.grown (r := none) ⟨b.os, b.tape, b.output, b.size, fun c hc _ => b.block c hc⟩ (fun c hc => by cases hc)⟩⟩
theorem bks_words {T : TD} {A : TA} {w : World} (h : TIn w T A) {j : Nat} (hj : j < T.bn) : Words w (A.I j) (T.L j) := by
  obtain ⟨_, _, _, _, hcc⟩ := h.bkts.resolve_left (by omega)
  exact (hcc j hj).2.2.2
theorem infoIt : (Try.prog.info? 160).map (fun i => (i.zero, i.size, i.bytes)) = some (some (.agg #[.int .i64 0, .int .i64 0]), 2, 16) := by kernel_rfl
/-- The items of a bucket, with their weights. -/
def ItemsB (T : TD) (l : List Int) (w : World) (e : Ending) (w' : World) : Prop := ∃ a, e = .returned (.slice a l.length l.length) ∧ Recs w' a l.length (itF l) (itG T l) ∧ Below w.heap.size w w'

set_option maxRecDepth 100000 in
set_option maxHeartbeats 4000000 in
theorem itemsOf (T : TD) (mb p q j : Nat) (w : World) (h : Whole2 T mb p q w) (hj : j < T.bn) :
    Calls Try.prog 112 #[.pointer (some ⟨q + 2 * j, 0, none⟩)] w (ItemsB T (T.L j) w) := by
  obtain ⟨i0, hi, hz0, hz1, hz2⟩ := info_parts infoIt
  obtain ⟨a, c, u, lo, hi', X, WD, R⟩ := h.items j hj
  have O := h.whole.ok
  have HH := Lib.hid h
  have IT := Lib.hid (fun y (hy : y ∈ T.L j) w' (b : Below w.heap.size w w') => (HH.out.later b).whole.weight (kd_up O hj hy).1)
  have h8 := (O.bkt.each j hj).2.2.2.2
  have c3 := X.cells 3 _ rfl
  have c4 := X.cells 4 _ rfl
  have hXl := Lib.hid X.lt
  obtain ⟨ra, rcap, rfl, hr⟩ := R
  unfold things at c4 hr
  rw [List.length_map] at c4
  clear X O h
  generalize T.L j = l at *
  obtain ⟨n, hn⟩ : ∃ n, n = l.length := ⟨_, rfl⟩
  rw [← hn] at c3 c4 h8
  have HN := Lib.hid hn
  have C3 := Lib.hid (fun w' (b : Below w.heap.size w w') => (b.cell (p := ⟨q + 2 * j, 3, none⟩) hXl.out).trans c3)
  have C4 := Lib.hid (fun w' (b : Below w.heap.size w w') => (b.cell (p := ⟨q + 2 * j, 4, none⟩) hXl.out).trans c4)
  have WDH := Lib.hid WD
  have HR := Lib.hid hr
  clear hn hj WD hr
  go_enter Try.func112, Try.ntmps112
  go_wp2_with (at_make; refine wpList_make_full _ rfl _ _ 159 rfl w.heap.size 160 i0 (.agg #[.int .i64 0, .int .i64 0]) 2 Try.underlying159 hi hz0 hz1 .i64 .i64 n n n rfl rfl rfl rfl (by rw [hz2]; omega) (by unfold maxLen; omega) (Nat.le_refl _) ?_; intro w1 hown1 hgrow1; have R1 := Lib.hid (Rnd.made hown1 (itF l) (itG T l) ((Below.refl _ _).grown hgrow1 (Nat.le_refl _) (by intro k hk; cases hk))); have e4 := C4.out w1 R1.out.below; clear hown1 hgrow1)
  go_loopw [17] (fun i wr => ∃ k : Nat, k ≤ n ∧ i = .int .i64 k ∧ Rnd w wr w.heap.size n k (itF l) (itG T l)) (fun i _ => n - (intOf i).toNat)
  case atStart => exact ⟨0, by omega, rfl, R1.out⟩
  case round =>
    clear R1 e4
    obtain ⟨k, hk, rfl, RN⟩ := hrel
    have RH := Lib.hid RN
    have c3 := C3.out wr RN.below
    have c4 := C4.out wr RN.below
    by_cases hlt : k < n
    · have hl : k < l.length := by rw [← HN.out]; exact hlt
      obtain ⟨b, off, rfl, -, -, hRb, hc⟩ := HR.out.resolve_left (by intro e; have := congrArg List.length e; rw [List.length_map] at this; simp at this; rw [this] at hl; simp at hl)
      have d0 := hc k (thg T p q T.dn T.bn (l.getD k 0)) (by rw [List.getElem?_map, List.getElem?_eq_getElem hl, List.getD_eq_getElem?_getD, List.getElem?_eq_getElem hl]; rfl)
      have d := (RN.below.cell (p := ⟨b, off + k, none⟩) hRb).trans d0
      obtain ⟨bi, oi, rfl, hBi, nums⟩ := WDH.out.resolve_left (by intro e; rw [e] at hl; simp at hl)
      have di := (RN.below.cell (p := ⟨bi, oi + k, none⟩) hBi).trans (nums k hl)
      have ne1 : w.heap.size ≠ q + 2 * j := by have := hXl.out; omega
      have ne2 : w.heap.size ≠ bi := by omega
      have ne3 : q + 2 * j ≠ w.heap.size := by omega
      have ne4 : bi ≠ w.heap.size := by omega
      obtain ⟨t, dd, ht, hcall⟩ := IT.out _ (getD_mem hl) wr.drew RN.below.drew
      rw [ht] at d
      obtain ⟨u0, p0⟩ := RN.there (k * 2) (by omega)
      obtain ⟨u1, p1⟩ := RN.there (k * 2 + 1) (by omega)
      have f0 := RN.free (k * 2)
      have f1 := RN.free (k * 2 + 1)
      have lt := RN.lt
      have R3 := Lib.hid ((RN.put hlt).later (Below.refl _ _).drew)
      have GK : itG T l k = wt T 4 (l.getD k 0) := rfl
      have FK : itF l k = l.getD k 0 := rfl
      rw [GK, FK] at R3
      clear hc d0 nums RN RH IT GK FK
      generalize wt T 4 (l.getD k 0) = wv at *
      generalize l.getD k 0 = y at *
      rcases hcall with ⟨rfl, CL⟩ | ⟨rfl, CL⟩
      · have M := weightML dd
        have CL := Lib.hid CL
        go_wp2
        go_region_held3 (fun w' => w'.cell? ⟨q + 2 * j, 3, none⟩ = some (.slice (some ⟨bi, oi, none⟩) n c) ∧ w'.cell? ⟨bi, oi + k, none⟩ = some (.int .i64 y)) (go_keep)
          (first
            | (go_at_call 185; refine CL.out.mono ?_; rintro e w2 ⟨rfl, rfl⟩))
        go_wp2
        go_roundw
        case rel => exact ⟨k + 1, by omega, by go_num, R3.out⟩
        case measure => simp [intOf]; omega
      · have M := weightMB dd
        have CL := Lib.hid CL
        go_wp2
        go_region_held3 (fun w' => w'.cell? ⟨q + 2 * j, 3, none⟩ = some (.slice (some ⟨bi, oi, none⟩) n c) ∧ w'.cell? ⟨bi, oi + k, none⟩ = some (.int .i64 y)) (go_keep)
          (first
            | (go_at_call 186; refine CL.out.mono ?_; rintro e w2 ⟨rfl, rfl⟩))
        go_wp2
        go_roundw
        case rel => exact ⟨k + 1, by omega, by go_num, R3.out⟩
        case measure => simp [intOf]; omega
    · obtain rfl : k = n := by omega
      have F := Lib.hid (show ItemsB T l w (.returned (.slice (some ⟨w.heap.size, 0, none⟩) k k)) wr from ⟨_, by rw [HN.out], by rw [← HN.out]; exact RN.done.recs, RN.below⟩)
      clear RN RH
      go_wp2
      go_ret
      exact F.out

/-- The choice in a bucket: what it answers. -/
def ciA (T : TD) (x seed try' : Int) : Int := match ix T.bf x T.bn with
  | none => 0
  | some j => chA (T.L j).length (itF (T.L j)) (itG T (T.L j)) seed try'
def ciB (T : TD) (x seed try' : Int) : Int := match ix T.bf x T.bn with
  | none => 3
  | some j => chB (T.L j).length (itF (T.L j)) (itG T (T.L j)) seed try'
theorem thg_ix {T : TD} (p q : Nat) (x : Int) : (∃ j, ix T.bf x T.bn = some j ∧ ix T.df x T.dn = none ∧ thg T p q T.dn T.bn x = .iface 141 (.pointer (some ⟨q + 2 * j, 0, none⟩))) ∨ (∃ i, i < T.dn ∧ T.df i = x ∧ thg T p q T.dn T.bn x = .iface 140 (.pointer (some ⟨p + 2 * i, 0, none⟩))) ∨ (ix T.bf x T.bn = none ∧ thg T p q T.dn T.bn x = .nilIface) := by
  unfold thg
  cases h : ix T.df x T.dn with
  | some i => exact .inr (.inl ⟨i, (ix_some h).1, (ix_some h).2.1, rfl⟩)
  | none =>
    dsimp only
    cases r : ix T.bf x T.bn with
    | some j => exact .inl ⟨j, rfl, rfl, rfl⟩
    | none => exact .inr (.inr ⟨rfl, rfl⟩)
theorem asLB (v : Value) (w : World) : (Instr.typeAssert (.iface 140 v) 87 141 true).run Try.prog w = .ok (.tuple #[.pointer none, .bool false]) w := by kernel_rfl

set_option maxRecDepth 100000 in
set_option maxHeartbeats 1000000 in
theorem chooseIn (T : TD) (mb p q : Nat) (x seed try' : Int) (w : World) (h : Whole2 T mb p q w) (hx : (Lit.int .i64 x).wf = true) :
    Calls Try.prog 66 #[.map (some mb), .int .i64 x, .int .i64 seed, .int .i64 try'] w (Two (ciA T x seed try') (ciB T x seed try') w) := by
  have LK := h.whole.look x hx
  rcases thg_ix (T := T) p q x with ⟨j, hj, hd, ht⟩ | ⟨i, hi, e, ht⟩ | ⟨hb, ht⟩
  · obtain ⟨hjn, -, -⟩ := ix_some hj
    have IO := Lib.hid (itemsOf T mb p q j w h hjn)
    have OKS := Lib.hid (it_ok h.whole.ok hjn)
    have h8 := (h.whole.ok.bkt.each j hjn).2.2.2.2
    have e1 : ciA T x seed try' = chA (T.L j).length (itF (T.L j)) (itG T (T.L j)) seed try' := by unfold ciA; rw [hj]
    have e2 : ciB T x seed try' = chB (T.L j).length (itF (T.L j)) (itG T (T.L j)) seed try' := by unfold ciB; rw [hj]
    rw [e1, e2]
    rw [ht] at LK
    have A1 := asBB (.pointer (some ⟨q + 2 * j, 0, none⟩)) w
    have CH := Lib.hid (fun a w' (R : Recs w' a (T.L j).length (itF (T.L j)) (itG T (T.L j))) => implChoose1 a (T.L j).length (T.L j).length (itF (T.L j)) (itG T (T.L j)) seed try' w' (by omega) R OKS.out)
    clear h hj hd ht e1 e2 hx OKS h8
    generalize chA (T.L j).length (itF (T.L j)) (itG T (T.L j)) seed try' = r0 at *
    generalize chB (T.L j).length (itF (T.L j)) (itG T (T.L j)) seed try' = r1 at *
    go_enter Try.func66, Try.ntmps66
    go_wp2_with fail
    refine IO.out.mono ?_
    rintro e w1 ⟨a, rfl, R, b1⟩
    have CH1 := Lib.hid (CH.out a w1 R)
    have B1 := Lib.hid b1
    clear R b1 CH
    generalize (T.L j).length = n at *
    go_wp2_with fail
    refine CH1.out.mono ?_
    rintro e w2 ⟨rfl, b2⟩
    have B2 := Lib.hid (chain B1.out b2)
    clear b2
    go_wp2
    go_ret2
    exact ⟨rfl, B2.out⟩
  · have nb : ix T.bf x T.bn = none := by rw [← e]; exact ix_devb h.whole.ok hi
    have e1 : ciA T x seed try' = 0 := by unfold ciA; rw [nb]
    have e2 : ciB T x seed try' = 3 := by unfold ciB; rw [nb]
    rw [e1, e2]
    rw [ht] at LK
    have A1 := asLB (.pointer (some ⟨p + 2 * i, 0, none⟩)) w
    clear h ht e1 e2 nb e hi hx
    go_enter Try.func66, Try.ntmps66
    go_wp2
    go_ret2
    exact ⟨rfl, Below.refl _ _⟩
  · have e1 : ciA T x seed try' = 0 := by unfold ciA; rw [hb]
    have e2 : ciB T x seed try' = 3 := by unfold ciB; rw [hb]
    rw [e1, e2]
    rw [ht] at LK
    have A1 := asNB w
    clear h ht e1 e2 hb hx
    go_enter Try.func66, Try.ntmps66
    go_wp2
    go_ret2
    exact ⟨rfl, Below.refl _ _⟩
end Go.Proofs.Ytgfpngjfhmiphaa.Tm
