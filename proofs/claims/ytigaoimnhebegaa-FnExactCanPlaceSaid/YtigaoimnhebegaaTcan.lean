/-
  CanPlace: in how many domains a rule finds a device; the program's function.
-/
import Derived.Test.YtigaoimnhebegaaTnok
import Derived.Maps.OwnRows
import Derived.Test.YtigaoimnhebegaaTnod
import Derived.Test.YtigaoimnhebegaaTrule
namespace Go.Proofs.Ytigaoimnhebegaa.Tm
open Go.RowKit Go.Proofs.Ytigaoimnhebegaa.GfI Go.Proofs.Ytigaoimnhebegaa.GfS Go.Proofs.Ytigaoimnhebegaa.MixC
open Go.Maps
open Go.Proofs.Ytigaoimnhebegaa.Gf2 (Ib OwnS)
open Go.Proofs.Ytigaoimnhebegaa.It (lay chain)
open Go.Proofs.Ytigaoimnhebegaa.Bk (Bks tval bval)
open Go.Proofs.Ytigaoimnhebegaa.Sg (BxN)
open Go.Proofs.Ytigaoimnhebegaa.Rc (ownsMap_later wpList_lookup_bool plainElem_bool_inv keys zeroB)
set_option linter.unusedVariables false
set_option linter.unusedSimpArgs false

/-- A device that can be taken. -/
def tk (T : TD) (k : Int) (out : List Int) (y : Int) : Bool := decide (0 < dwt T y) && (decide (y ∉ out) && (decide (k = 0) || decide (dom8 T k y ≠ 0)))
def addS (s : List Int) (x : Int) : List Int := if x ∈ s then s else s ++ [x]
def stp (T : TD) (k : Int) (out : List Int) (s : List Int) (y : Int) : List Int := if tk T k out y = true then addS s (dom8 T k y) else s
/-- The domains of what can be taken, in the order met. -/
def sn (T : TD) (k : Int) (out l : List Int) : List Int := l.foldl (stp T k out) []
theorem sn_snoc (T : TD) (k : Int) (out l : List Int) (y : Int) : sn T k out (l ++ [y]) = stp T k out (sn T k out l) y := by unfold sn; rw [List.foldl_append]; rfl
theorem mem_addS {s : List Int} {x z : Int} : z ∈ addS s x ↔ z ∈ s ∨ z = x := by
  unfold addS
  split
  · rename_i h; exact ⟨.inl, fun q => q.elim id (fun e => by rw [e]; exact h)⟩
  · simp
theorem nodup_addS {s : List Int} {x : Int} (h : s.Nodup) : (addS s x).Nodup := by
  unfold addS
  split
  · exact h
  · rename_i q; exact nodup_snoc h q
theorem sn_aux (T : TD) (k : Int) (out : List Int) : ∀ (l s : List Int), s.Nodup → (l.foldl (stp T k out) s).Nodup ∧ ∀ z, z ∈ l.foldl (stp T k out) s ↔ z ∈ s ∨ ∃ y, y ∈ l ∧ tk T k out y = true ∧ dom8 T k y = z
  | [], s, h => ⟨h, fun z => by simp⟩
  | a :: l, s, h => by
    rw [List.foldl_cons]
    unfold stp
    by_cases q : tk T k out a = true
    · rw [if_pos q]
      obtain ⟨h1, h2⟩ := sn_aux T k out l (addS s (dom8 T k a)) (nodup_addS h)
      refine ⟨h1, fun z => (h2 z).trans ?_⟩
      rw [mem_addS]
      constructor
      · rintro ((e | e) | ⟨y, hy, e⟩)
        · exact .inl e
        · exact .inr ⟨a, by simp, q, e.symm⟩
        · exact .inr ⟨y, by simp [hy], e⟩
      · rintro (e | ⟨y, hy, t, e⟩)
        · exact .inl (.inl e)
        · rcases List.mem_cons.1 hy with rfl | hy
          · exact .inl (.inr e.symm)
          · exact .inr ⟨y, hy, t, e⟩
    · rw [if_neg q]
      obtain ⟨h1, h2⟩ := sn_aux T k out l s h
      refine ⟨h1, fun z => (h2 z).trans ?_⟩
      constructor
      · rintro (e | ⟨y, hy, e⟩)
        · exact .inl e
        · exact .inr ⟨y, by simp [hy], e⟩
      · rintro (e | ⟨y, hy, t, e⟩)
        · exact .inl e
        · rcases List.mem_cons.1 hy with rfl | hy
          · exact absurd t q
          · exact .inr ⟨y, hy, t, e⟩
theorem sn_same (T : TD) (k : Int) (out l m : List Int) (h : ∀ y, y ∈ l ↔ y ∈ m) : (sn T k out l).length = (sn T k out m).length := by
  obtain ⟨a1, a2⟩ := sn_aux T k out l [] List.nodup_nil
  obtain ⟨b1, b2⟩ := sn_aux T k out m [] List.nodup_nil
  refine ((List.perm_ext_iff_of_nodup a1 b1).2 (fun z => (a2 z).trans ((b2 z).trans ?_).symm)).length_eq
  constructor
  · rintro (e | ⟨y, hy, e⟩)
    · exact .inl e
    · exact .inr ⟨y, (h y).2 hy, e⟩
  · rintro (e | ⟨y, hy, e⟩)
    · exact .inl e
    · exact .inr ⟨y, (h y).1 hy, e⟩
theorem addS_len (s : List Int) (x : Int) : (addS s x).length ≤ s.length + 1 := by
  unfold addS; split <;> simp
theorem sn_len (T : TD) (k : Int) (out : List Int) : ∀ (l s : List Int), (l.foldl (stp T k out) s).length ≤ s.length + l.length
  | [], s => by simp
  | a :: l, s => by
    rw [List.foldl_cons]
    have h := sn_len T k out l (stp T k out s a)
    have : (stp T k out s a).length ≤ s.length + 1 := by
      unfold stp
      split
      · exact addS_len _ _
      · omega
    rw [List.length_cons]; omega
/-- A map whose keys are the numbers of s. -/
structure MapS (D : DataW Unit) (s : List Int) : Prop where
  tidy : Tidy D
  has : ∀ x : Int, Maps.has D (.int .i64 x) = decide (x ∈ s)
  size : Maps.size D = s.length
theorem MapS.empty : MapS (.map []) [] := ⟨tidy_empty, fun x => rfl, rfl⟩
theorem MapS.putd {D : DataW Unit} {s : List Int} (h : MapS D s) (x : Int) (d : DataW Unit) : MapS (D.put (.int .i64 x) d) (addS s x) := by
  refine ⟨h.tidy.put (by trivial) _, fun y => ?_, ?_⟩
  · by_cases e : y = x
    · subst e
      rw [has_put_same h.tidy.isMap (by trivial), decide_eq_true (mem_addS.2 (.inr rfl))]
    · rw [has_put_other (by intro q; cases q; exact e rfl), h.has y]
      rw [Bool.eq_iff_iff, decide_eq_true_iff, decide_eq_true_iff, mem_addS]
      exact ⟨.inl, fun q => q.resolve_right e⟩
  · rw [size_put h.tidy, h.has x, h.size]
    unfold addS
    by_cases e : x ∈ s
    · rw [decide_eq_true e, if_pos e]; rfl
    · rw [decide_eq_false e, if_neg e]; simp
theorem MapS.put {D : DataW Unit} {s : List Int} (h : MapS D s) (x : Int) : MapS (D.put (.int .i64 x) (.lit (.bool true))) (addS s x) := by
  refine ⟨h.tidy.put (by trivial) _, fun y => ?_, ?_⟩
  · by_cases e : y = x
    · subst e
      rw [has_put_same h.tidy.isMap (by trivial), decide_eq_true (mem_addS.2 (.inr rfl))]
    · rw [has_put_other (by intro q; cases q; exact e rfl), h.has y]
      rw [Bool.eq_iff_iff, decide_eq_true_iff, decide_eq_true_iff, mem_addS]
      exact ⟨.inl, fun q => q.resolve_right e⟩
  · rw [size_put h.tidy, h.has x, h.size]
    unfold addS
    by_cases e : x ∈ s
    · rw [decide_eq_true e, if_pos e]; rfl
    · rw [decide_eq_false e, if_neg e]; simp
theorem wt_dev {T : TD} (O : T.Ok) {y : Int} (h : T.kd y = 0) : wt T 4 y = dwt T y := by
  rcases T.kd_cases y with ⟨i, hi, e, _⟩ | ⟨_, j, hj, _, e⟩ | ⟨_, _, e⟩
  · exact wt_no (by rw [← e]; exact ix_devb O hi)
  · have := (O.bkt.each j hj).2.2.1; omega
  · omega
/-- What CanPlace answers. -/
def CpV (ok : Bool) (n : Nat) : Value := if ok = true then .tuple #[.int .i64 n, .bool true] else .tuple #[.int .i64 0, .bool false]
structure CpP (T : TD) (i r k : Int) (out : List Int) : Prop where
  rule : RuleIn T i r k
  out : OutP out
theorem tk_no1 {T : TD} {k : Int} {out : List Int} {y : Int} (h : ¬ 0 < dwt T y) : tk T k out y = false := by unfold tk; rw [decide_eq_false h]; rfl
theorem tk_no2 {T : TD} {k : Int} {out : List Int} {y : Int} (h : y ∈ out) : tk T k out y = false := by unfold tk; rw [decide_eq_false (not_not_intro h)]; simp
theorem tk_no3 {T : TD} {k : Int} {out : List Int} {y : Int} (h0 : k ≠ 0) (h : dom8 T k y = 0) : tk T k out y = false := by unfold tk; simp [h0, h]
theorem tk_yes {T : TD} {k : Int} {out : List Int} {y : Int} (h1 : 0 < dwt T y) (h2 : y ∉ out) (h3 : k = 0 ∨ dom8 T k y ≠ 0) : tk T k out y = true := by unfold tk; simp [h1, h2, h3]
theorem stp_no {T : TD} {k : Int} {out s : List Int} {y : Int} (h : tk T k out y = false) : stp T k out s y = s := by unfold stp; rw [h]; rfl
theorem stp_yes {T : TD} {k : Int} {out s : List Int} {y : Int} (h : tk T k out y = true) : stp T k out s y = addS s (dom8 T k y) := by unfold stp; rw [if_pos h]
theorem dev_ge2 {T : TD} (O : T.Ok) {x : Int} (h : T.kd x = 0) : 0 ≤ x ∧ x ≤ 15 := by
  rcases T.kd_cases x with ⟨i, hi, e, _⟩ | ⟨_, j, hj, _, e⟩ | ⟨_, _, e⟩
  · have := O.dev.each i hi; omega
  · have := (O.bkt.each j hj).2.2.1; omega
  · omega
theorem words_past {w w' : World} {a : Option Addr} {zs : List Int} {r : Option Nat} (h : Words w a zs) (g : w.grownBy w' r) (hr : ∀ b o, a = some ⟨b, o, none⟩ → ∀ x, r = some x → b ≠ x) : Words w' a zs := by
  rcases h with h | ⟨b, off, ha, hB, hc⟩
  · exact .inl h
  · have e : w'.heap[b]? = w.heap[b]? := g.block b hB (fun q => hr b off ha b q.symm rfl)
    exact .inr ⟨b, off, ha, Nat.lt_of_lt_of_le hB g.size, fun i hi => (World.cell?_of_block e).trans (hc i hi)⟩
theorem nds_dev {T : TD} (O : T.Ok) {x y : Int} (h0 : 0 ≤ T.kd x) (hy : y ∈ nds T 4 x) : T.kd y = 0 :=
  undr_dev O h0 (by have := kd_top O x; omega) ((mem_nds.mem_any 4 x).1 hy)

theorem zeroG (w : World) : (zeroValue 39).run Try.prog w = .ok (.slice none 0 0) w := by kernel_rfl
theorem groups_rebase {P : Program} {k : TypeId} {w : World} {base base' : Nat} {e : TypeId} {q : IntKind} {b : Nat} {D : DataW Unit} (h : w.ownsGroups P k base e q b 0 D) (hb : base ≤ base') : w.ownsGroups P k base' e q b 0 D := by
  obtain ⟨es, clock, hh, F, hs, rfl, hbb, hl, hap⟩ := h
  have e0 : es = #[] := Array.size_eq_zero_iff.1 (by omega)
  subst e0
  obtain ⟨F1, hmap, _⟩ := F.stay (R' := rowElem w base' e q) (fun x hx z _ => by simp at hx)
  exact ⟨#[], clock, hh, F1, hs, by rw [hmap], by omega, fun x hx => by simp at hx, fun x hx => by simp at hx⟩
theorem groups_map {P : Program} {k : TypeId} {w : World} {base : Nat} {e : TypeId} {q : IntKind} {b n : Nat} {D : DataW Unit} (h : w.ownsGroups P k base e q b n D) : w.ownsMap P k (rowElem w base e q) b n D := by
  obtain ⟨es, clock, hh, F, hs, hD, _⟩ := h
  exact ⟨es, clock, hh, F, hs, hD⟩
/-- A map of groups over the numbers of s. -/
def OpnB (s : List Int) (w : World) (e : Ending) (w' : World) : Prop := ∃ (b N c : Nat) (D : DataW Unit), e = .returned (.map (some b)) ∧ w'.ownsGroups Try.prog 2 N 2 .i64 b c D ∧ MapS D s ∧ Below w.heap.size w w'
set_option maxRecDepth 100000 in
set_option maxHeartbeats 4000000 in
theorem openS (T : TD) (mb p q : Nat) (i r k : Int) (dd : Bool) (a : Option Addr) (cap : Nat) (out : List Int) (w : World) (O0 : T.Ok) (RT0 : T.kd r = 3) (hr : (Lit.int .i64 r).wf = true) (ho : out.length ≤ 2097152) (H0 : Whole T mb p q w) (hw0 : Words w a out) :
    Calls Try.prog 67 #[.agg #[.map (some mb), .int .i64 i, .int .i64 r, .int .i64 k, .bool dd], .slice a out.length cap] w (OpnB (sn T k out (nds T 4 r)) w) := by
  have O := Lib.hid O0
  have RT := Lib.hid RT0
  have H2 := Lib.hid H0
  have CT := Lib.hid (fun y w' (b : Below w.heap.size w w') => slicesContains a cap out y w' ho (hw0.below b))
  have L := Lib.hid (lay w (.cells #[.map (some mb), .int .i64 i, .int .i64 r, .int .i64 k, .bool dd] 97))
  have LM := Lib.hid (chain L.out (lay _ (.map #[] 0)))
  have XS3 := Lib.hid ((BxN.new w #[.map (some mb), .int .i64 i, .int .i64 r, .int .i64 k, .bool dd] 97).later (lay _ (.map #[] 0)))
  have LK := (H2.out.later LM.out).look r hr
  have ND := Lib.hid (nodesUnder T mb p q 4 r _ (Nat.le_refl _) (by rw [RT0]; omega) (by rw [RT0]; omega) (H2.out.later LM.out))
  have DEV := Lib.hid (fun y (hy : y ∈ nds T 4 r) => nds_dev O0 (by rw [RT0]; omega) hy)
  have NL := Lib.hid (show (nds T 4 r).length ≤ 4096 from by rw [nds_len O0]; have := undr_len O0.bkt 4 r; rwa [show (8 : Nat) ^ 4 = 4096 from by decide] at this)
  have hmm := @run_makeMap Try.prog
  have M0 := Lib.hid (World.ownsGroups_made (H := Unit) (w.alloc (.cells #[.map (some mb), .int .i64 i, .int .i64 r, .int .i64 k, .bool dd] 97)) Try.prog 2 2 .i64)
  have s0 := XS3.out.cells 0 _ rfl
  have s2 := XS3.out.cells 2 _ rfl
  obtain ⟨i0, hi, hz0, hz1, hz2⟩ := info_parts info2
  clear O0 RT0 H0 hw0
  generalize nds T 4 r = l at *
  generalize thg T p q T.dn T.bn r = tv at *
  go_enter Try.func67, Try.ntmps67
  go_wp2_with fail
  refine ND.out.mono ?_
  rintro e w3 ⟨al, cl, rfl, hn, I3, b3⟩
  have B23 := Lib.hid (chain LM.out b3)
  have SZ3 := Lib.hid (show w.heap.size + 1 + 1 ≤ w3.heap.size from by have := b3.size; simp only [World.size_alloc] at this; exact this)
  have M3 := Lib.hid (groups_rebase (D := .map []) (base' := w3.heap.size) (by
    have h := M0.out
    obtain ⟨es, clock, hh, F, hs, hD, hbb, hl, hap⟩ := h
    have e0 : es = #[] := Array.size_eq_zero_iff.1 (by omega)
    subst e0
    obtain ⟨F1, hmap, _⟩ := F.stay (R' := rowElem w3 _ 2 .i64) (fun x hx z _ => by simp at hx)
    exact ⟨#[], clock, (b3.block _ (by simp)).trans hh, F1, hs, by rw [hmap]; exact hD, hbb, fun x hx => by simp at hx, fun x hx => by simp at hx⟩) (by simpa using SZ3.out))
  have WL := Lib.hid ((Gf2.Ib.own (w0 := (w.alloc (.cells #[.map (some mb), .int .i64 i, .int .i64 r, .int .i64 k, .bool dd] 97)).alloc (.map #[] 0)) I3 (Nat.le_refl _)).1.words)
  have BI := Lib.hid (show l ≠ [] → ∀ b o, al = some ⟨b, o, none⟩ → w.heap.size + 1 + 1 ≤ b ∧ b < w3.heap.size from fun hl b o e => by
    rcases (Gf2.Ib.own (w0 := (w.alloc (.cells #[.map (some mb), .int .i64 i, .int .i64 r, .int .i64 k, .bool dd] 97)).alloc (.map #[] 0)) I3 (Nat.le_refl _)).1 with h | ⟨b', e', h0, h1, _⟩
    · exact absurd h hl
    · rw [e] at e'
      obtain ⟨rfl, -⟩ : b = b' ∧ o = 0 := by simpa using e'
      simp only [World.size_alloc] at h0
      exact ⟨h0, h1⟩)
  have XS4 := Lib.hid (XS3.out.later b3)
  obtain ⟨n, hn'⟩ : ∃ n, n = l.length := ⟨_, rfl⟩
  have HN := Lib.hid hn'
  have NL2 : n ≤ 4096 := by rw [hn']; exact NL.out
  rw [← hn']
  clear I3 b3 hn hn' M0 s0 s2 XS3 LK
  simp only [World.size_alloc] at M3
  go_wp2
  go_loopw [19] (fun v wr => ∃ (t c : Nat) (D : DataW Unit), t ≤ n ∧ c ≤ t ∧ v = .int .i64 t ∧ MapS D (sn T k out (l.take t)) ∧ wr.ownsGroups Try.prog 2 w3.heap.size 2 .i64 (w.heap.size + 1) c D ∧ Words wr al l ∧ BxN wr w.heap.size [.map (some mb), .int .i64 i, .int .i64 r, .int .i64 k, .bool dd] ∧ Below w.heap.size w wr ∧ w3.heap.size ≤ wr.heap.size) (fun v _ => n - (intOf v).toNat)
  case atStart => exact ⟨0, 0, _, by omega, by omega, rfl, MapS.empty, M3.out, WL.out, XS4.out, B23.out, Nat.le_refl _⟩
  case round =>
    clear M3 WL XS4 B23
    obtain ⟨t, c, D, ht, hc, rfl, MS, own, WL, XS5, hw, hsz⟩ := hrel
    have MSH := Lib.hid MS
    have OWN := Lib.hid own
    have WLH := Lib.hid WL
    have XSH := Lib.hid XS5
    have WH := Lib.hid hw
    have SZH := Lib.hid hsz
    have s0 := XS5.cells 0 _ rfl
    have s3 := XS5.cells 3 _ rfl
    clear MS own XS5 hsz
    by_cases hlt : t < n
    · have hkl : t < l.length := by rw [← HN.out]; exact hlt
      obtain ⟨bi, oi, rfl, hBi, nums⟩ := WL.resolve_left (by intro e; rw [e] at hkl; simp at hkl)
      have d := nums t hkl
      have YM := getD_mem hkl
      have TS := Lib.hid (show sn T k out (l.take (t + 1)) = stp T k out (sn T k out (l.take t)) (l.getD t 0) from by rw [take_snoc _ _ hkl, sn_snoc])
      have KD0 := DEV.out _ YM
      have YR := dev_ge2 O.out KD0
      have WX := WalkArith.wf_i64 (n := l.getD t 0) (by omega)
      have HWr := H2.out.later hw
      have LK := HWr.look _ WX
      obtain ⟨ty, dp, htg, hcall⟩ := HWr.weight (x := l.getD t 0) (by omega)
      have DC := domainOf T mb p q k (l.getD t 0) wr HWr WX
      have WD := wt_dev O.out KD0
      rw [WD] at hcall
      have CO := CT.out (l.getD t 0) wr hw
      have KW := dom8_wf O.out (g := k) KD0
      rw [htg] at LK
      have LFT : ty = 208 := by
        rcases thg_cases (T := T) p q (l.getD t 0) with ⟨_, _, _, _, ht⟩ | ⟨j, hj, _, e, _⟩ | ⟨e, _⟩
        · rw [ht] at htg; cases htg; rfl
        · have := (O.out.bkt.each j hj).2.2.1; omega
        · omega
      subst LFT
      have CL : Calls Try.prog 225 #[.pointer (some ⟨dp, 0, none⟩)] wr (Same (.int .i64 (dwt T (l.getD t 0))) wr) := by
        rcases hcall with ⟨_, h⟩ | ⟨e, _⟩
        · exact h
        · exact absurd e (by decide)
      have M := weightML dp
      have CL := Lib.hid CL
      have BI2 := Lib.hid (BI.out (by intro q; rw [q] at hkl; simp at hkl) bi oi rfl)
      clear nums WL hw HWr hcall YM htg WD
      by_cases hg : gdom T k (l.getD t 0)
      · rw [DomV_yes hg] at DC
        have DC := Lib.hid DC
        by_cases h1 : 0 < dwt T (l.getD t 0)
        · have h1' : decide (0 < dwt T (l.getD t 0)) = true := decide_eq_true h1
          unfold HasB at CO
          by_cases h2 : l.getD t 0 ∈ out
          · rw [decide_eq_true h2] at CO
            have CO := Lib.hid CO
            have E := Lib.hid (show sn T k out (l.take (t + 1)) = sn T k out (l.take t) from by rw [TS.out, stp_no (tk_no2 h2)])
            clear h2 h1 hg KD0 TS hi hz0 hz1 hz2
            generalize dom8 T k (l.getD t 0) = dv at *
            generalize dwt T (l.getD t 0) = wv at *
            generalize l.getD t 0 = y at *
            go_wp2_with fail
            refine DC.out.mono ?_
            rintro e w4 ⟨rfl, rfl⟩
            go_wp2_with fail
            refine CL.out.mono ?_
            rintro e w4 ⟨rfl, rfl⟩
            go_wp2_with fail
            refine CO.out.mono ?_
            rintro e w4 ⟨rfl, rfl⟩
            go_wp2
            go_roundw
            case rel => exact ⟨t + 1, c, D, by omega, by omega, by go_num, by rw [E.out]; exact MSH.out, OWN.out, WLH.out, XSH.out, WH.out, SZH.out⟩
            case measure => simp [intOf]; omega
          · rw [decide_eq_false h2] at CO
            have CO := Lib.hid CO
            have E := Lib.hid (show sn T k out (l.take (t + 1)) = addS (sn T k out (l.take t)) (dom8 T k (l.getD t 0)) from by rw [TS.out, stp_yes (tk_yes h1 h2 hg.2)])
            have KY := keyOf_int_mk (P := Try.prog) Try.underlying2 (WalkArith.wf_i64 (n := dom8 T k (l.getD t 0)) (by omega))
            have hk8 : c < maxLen := by unfold maxLen; omega
            have LE := Lib.hid WH.out.size
            clear h2 h1 hg KD0 TS
            generalize dom8 T k (l.getD t 0) = dv at *
            generalize dwt T (l.getD t 0) = wv at *
            generalize l.getD t 0 = y at *
            go_wp2_with fail
            refine DC.out.mono ?_
            rintro e w4 ⟨rfl, rfl⟩
            go_wp2_with fail
            refine CL.out.mono ?_
            rintro e w4 ⟨rfl, rfl⟩
            go_wp2_with fail
            refine CO.out.mono ?_
            rintro e w4 ⟨rfl, rfl⟩
            go_wp2_with (first
              | (at_lookup; refine wpList_lookup_groups _ rfl _ _ 110 rfl 2 39 2 .i64 keys Try.underlying110 (zeroG _) w3.heap.size (w.heap.size + 1) c _ rfl OWN.out hk8 _ _ rfl KY ?_; intro gv zs hat hoi hzl hback)
              | (at_builtin; refine wpList_append_own_at _ rfl _ _ 39 rfl w3.heap.size 2 i0 (.int .i64 0) 1 8 Try.underlying39 hi hz0 hz1 hz2 rfl (by decide) _ _ _ rfl (hoi.1.alloc _) ⟨wr.heap.size, 0, none⟩ 1 1 [.int .i64 y] rfl rfl (cell_one_new _ _ _) (ints_oneCell .i64 [y]) (by unfold maxLen; omega) (by omega) (by have := SZH.out; simp; omega) ?_; intro v' w5 hown' hgrow hnil hloc)
              | (at_mapUpdate; refine wpList_mapUpdate_back _ rfl _ _ _ 110 rfl hback rfl rfl rfl ((World.grownBy_alloc _ _ _).trans hgrow) (hoi.appended hown' WX) (by simp; omega) (hloc.imp id (fun h => ⟨_, h, by simp⟩)) ?_; intro w6 hown2 hgrow2)
              | go_in)
            have hall := (World.grownBy_alloc wr _ _).trans hgrow
            have B6 := Lib.hid (WH.out.groups hoi hall hgrow2 LE.out (by have := SZ3.out; omega) (by omega))
            have S6 := Lib.hid (Nat.le_trans SZH.out (Nat.le_trans hall.size hgrow2.size))
            have OW6 := Lib.hid hown2
            have X6 := Lib.hid ((XSH.out.grown hall (fun x hx => by have := (hoi.1.lt x hx).1; have := SZ3.out; omega)).grown hgrow2 (fun x hx => by cases hx; omega))
            have W6 := Lib.hid (words_past (words_past WLH.out hall (fun b o e x hx => by cases e; have := (hoi.1.lt x hx).1; have := BI2.out; omega)) hgrow2 (fun b o e x hx => by cases e; cases hx; have := BI2.out; omega))
            go_roundw
            case rel => exact ⟨t + 1, c + 1, _, by omega, by omega, by go_num, by rw [E.out]; exact MSH.out.putd _ _, OW6.out, W6.out, X6.out, B6.out, S6.out⟩
            case measure => simp [intOf]; omega
        · have h1' : decide (0 < dwt T (l.getD t 0)) = false := decide_eq_false h1
          have E := Lib.hid (show sn T k out (l.take (t + 1)) = sn T k out (l.take t) from by rw [TS.out, stp_no (tk_no1 h1)])
          clear h1 hg KD0 TS CO hi hz0 hz1 hz2
          generalize dom8 T k (l.getD t 0) = dv at *
          generalize dwt T (l.getD t 0) = wv at *
          generalize l.getD t 0 = y at *
          go_wp2_with fail
          refine DC.out.mono ?_
          rintro e w4 ⟨rfl, rfl⟩
          go_wp2_with fail
          refine CL.out.mono ?_
          rintro e w4 ⟨rfl, rfl⟩
          go_wp2
          go_roundw
          case rel => exact ⟨t + 1, c, D, by omega, by omega, by go_num, by rw [E.out]; exact MSH.out, OWN.out, WLH.out, XSH.out, WH.out, SZH.out⟩
          case measure => simp [intOf]; omega
      · rw [DomV_no hg] at DC
        have DC := Lib.hid DC
        have E := Lib.hid (show sn T k out (l.take (t + 1)) = sn T k out (l.take t) from by
          rw [TS.out, stp_no (tk_no3 (fun e => hg ⟨KD0, .inl e⟩) (Classical.byContradiction fun n => hg ⟨KD0, .inr n⟩))])
        clear hg KD0 TS CO CL hi hz0 hz1 hz2
        generalize dA T k (l.getD t 0) = dv at *
        generalize dwt T (l.getD t 0) = wv at *
        generalize l.getD t 0 = y at *
        go_wp2_with fail
        refine DC.out.mono ?_
        rintro e w4 ⟨rfl, rfl⟩
        go_wp2
        go_roundw
        case rel => exact ⟨t + 1, c, D, by omega, by omega, by go_num, by rw [E.out]; exact MSH.out, OWN.out, WLH.out, XSH.out, WH.out, SZH.out⟩
        case measure => simp [intOf]; omega
    · obtain rfl : t = n := by omega
      have E : l.take t = l := by rw [HN.out]; exact List.take_length
      have MS := MSH.out
      rw [E] at MS
      have MSF := Lib.hid MS
      clear WL E MS hw
      go_wp2
      go_ret
      exact ⟨_, _, _, D, rfl, OWN.out, MSF.out, WH.out⟩
set_option maxRecDepth 100000 in
set_option maxHeartbeats 4000000 in
theorem implCanPlace (T : TD) (A : TA) (i r k : Int) (dd : Bool) (a : Option Addr) (cap : Nat) (out : List Int) (w : World) (Z : T.Sz) (WF : T.Wf) (hr : (Lit.int .i64 r).wf = true) (ho : out.length ≤ 2097152) (h : TIn w T A) (hw0 : Words w a out) {ok : Bool} (hok : ok = true ↔ CpP T i r k out) :
    Calls Try.prog 20 #[A.val T, rval i r k dd, .slice a out.length cap] w (Ret (CpV ok (sn T k out (undr T 4 r)).length) w) := by
  have LH := Lib.hid (chain (lay w (.cells #[.slice A.da T.dn A.dc, .slice A.ba T.bn A.bc] 33)) (lay _ (.cells #[.int .i64 i, .int .i64 r, .int .i64 k, .bool dd] 35)))
  have XR := (BxN.new (w.alloc (.cells #[.slice A.da T.dn A.dc, .slice A.ba T.bn A.bc] 33)) #[.int .i64 i, .int .i64 r, .int .i64 k, .bool dd] 35)
  rw [World.size_alloc] at XR
  have XR := Lib.hid XR
  have K := Lib.hid (siteOf T A i r k dd _ Z WF hr (h.below LH.out))
  have OK := Lib.hid (fun w' (b : Below w.heap.size w w') => nodesOk a cap out w' ho (hw0.below b))
  have OW := Lib.hid (fun w' (b : Below w.heap.size w w') => hw0.below b)
  clear h Z hw0 WF
  obtain ⟨da, dc, ba, bc, I, C⟩ := A
  dsimp only at K LH XR ⊢
  go_enter Try.func20, Try.ntmps20
  go_wp2_with fail
  refine K.out.mono ?_
  rintro e w1 ⟨b1, ⟨N, rfl⟩ | ⟨Y, mb, p, q, rfl, HW⟩⟩
  · have B1 := Lib.hid (chain LH.out b1)
    obtain rfl : ok = false := by cases ok; rfl; exact absurd (hok.1 rfl).rule N
    clear hok N
    go_wp2
    go_ret2
    exact ⟨rfl, chain B1.out (lay _ _)⟩
  · have B1 := Lib.hid (chain LH.out b1)
    have X1 := Lib.hid (XR.out.later b1)
    have O := Lib.hid Y.ok
    have RT := Lib.hid Y.root
    have KR := Lib.hid Y.kind
    have S1 := Lib.hid (show w.heap.size + 1 < w1.heap.size from X1.out.lt)
    have XS := Lib.hid (BxN.new w1 #[.map (some mb), .int .i64 i, .int .i64 r, .int .i64 k, .bool dd] 97)
    have LS := Lib.hid (lay w1 (.cells #[.map (some mb), .int .i64 i, .int .i64 r, .int .i64 k, .bool dd] 97))
    have HW := Lib.hid HW
    clear b1
    go_wp2_with fail
    refine (OK.out _ (chain B1.out LS.out)).mono ?_
    rintro e w2 ⟨b, rfl, hb, b2⟩
    have B12 := Lib.hid (chain LS.out b2)
    have XS2 := Lib.hid (XS.out.later b2)
    clear b2
    cases b
    · obtain rfl : ok = false := by cases ok; rfl; exact absurd (hb.2 (hok.1 rfl).out) (by simp)
      clear hok hb
      go_wp2
      go_ret2
      exact ⟨rfl, chain B1.out B12.out⟩
    · obtain rfl : ok = true := hok.2 ⟨Y, hb.1 rfl⟩
      clear hok hb Y
      have H2 := Lib.hid (HW.out.later B12.out)
      have SAME := Lib.hid (sn_same T k out (nds T 4 r) (undr T 4 r) (fun y => mem_nds.mem_any 4 r))
      have OP := Lib.hid (openS T mb p q i r k dd a cap out w2 O.out RT.out hr ho H2.out (OW.out _ (chain B1.out B12.out)))
      have s0 := XS2.out.cells 0 _ rfl
      have s1 := XS2.out.cells 1 _ rfl
      have s2 := XS2.out.cells 2 _ rfl
      have s3 := XS2.out.cells 3 _ rfl
      have s4 := XS2.out.cells 4 _ rfl
      go_wp2_with fail
      refine OP.out.mono ?_
      rintro e w3 ⟨b, N, c, D, rfl, own, MS, b3⟩
      have LN := (groups_map own).len Try.underlying110 3
      have SZ := MS.size
      rw [SAME.out] at SZ
      rw [SZ] at LN
      have B2 := Lib.hid (chain B1.out (chain B12.out b3))
      clear b3 own MS SZ SAME
      generalize (sn T k out (undr T 4 r)).length = sz at *
      go_wp2
      go_ret2
      exact ⟨rfl, B2.out⟩
end Go.Proofs.Ytigaoimnhebegaa.Tm
