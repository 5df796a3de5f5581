/-
  CanPlace: in how many domains a rule finds a device; the program's function.
-/
import Derived.Test.YtgfpngjfhmiphaaTout
import Derived.Test.YtgfpngjfhmiphaaTnod
import Derived.Test.YtgfpngjfhmiphaaTrule2
namespace Go.Proofs.Ytgfpngjfhmiphaa.Tm
open Go.RowKit Go.Proofs.Ytgfpngjfhmiphaa.GfI Go.Proofs.Ytgfpngjfhmiphaa.GfS Go.Proofs.Ytgfpngjfhmiphaa.MixC
open Go.Maps
open Go.Proofs.Ytgfpngjfhmiphaa.Gf2 (Ib OwnS)
open Go.Proofs.Ytgfpngjfhmiphaa.It (lay chain)
open Go.Proofs.Ytgfpngjfhmiphaa.Bk (Bks tval bval)
open Go.Proofs.Ytgfpngjfhmiphaa.Sg (BxN)
open Go.Proofs.Ytgfpngjfhmiphaa.Rc (ownsMap_later wpList_lookup_bool plainElem_bool_inv keys zeroB)
set_option linter.unusedVariables false
set_option linter.unusedSimpArgs false

/-- A device that can be taken. -/
def tk (T : TD) (k : Int) (out : List Int) (y : Int) : Bool := decide (0 < dwt T y) && (decide (y ∉ out) && (decide (k = 0) || decide (dom8 T k y ≠ 0)))
def addS (s : List Int) (x : Int) : List Int := if x ∈ s then s else s ++ [x]
def stp (T : TD) (k : Int) (out : List Int) (s : List Int) (y : Int) : List Int := if tk T k out y = true then addS s (dom8 T k y) else s
/-- The domains of what can be taken, in the order met. -/
def sn (T : TD) (k : Int) (out l : List Int) : List Int := l.foldl (stp T k out) []
theorem sn_snoc (T : TD) (k : Int) (out l : List Int) (y : Int) : sn T k out (l ++ [y]) = stp T k out (sn T k out l) y := by unfold sn; rw [List.foldl_append]; rfl
theorem mem_addS {s : List Int} {x z : Int} : z ∈ addS s x ↔ z ∈ s ∨ z = x := by
  unfold addS
  split
  · rename_i h; exact ⟨.inl, fun q => q.elim id (fun e => by rw [e]; exact h)⟩
  · simp
theorem nodup_addS {s : List Int} {x : Int} (h : s.Nodup) : (addS s x).Nodup := by
  unfold addS
  split
  · exact h
  · rename_i q; exact nodup_snoc h q
theorem sn_aux (T : TD) (k : Int) (out : List Int) : ∀ (l s : List Int), s.Nodup → (l.foldl (stp T k out) s).Nodup ∧ ∀ z, z ∈ l.foldl (stp T k out) s ↔ z ∈ s ∨ ∃ y, y ∈ l ∧ tk T k out y = true ∧ dom8 T k y = z
  | [], s, h => ⟨h, fun z => by simp⟩
  | a :: l, s, h => by
    rw [List.foldl_cons]
    unfold stp
    by_cases q : tk T k out a = true
    · rw [if_pos q]
      obtain ⟨h1, h2⟩ := sn_aux T k out l (addS s (dom8 T k a)) (nodup_addS h)
      refine ⟨h1, fun z => (h2 z).trans ?_⟩
      rw [mem_addS]
      constructor
      · rintro ((e | e) | ⟨y, hy, e⟩)
        · exact .inl e
        · exact .inr ⟨a, by simp, q, e.symm⟩
        · exact .inr ⟨y, by simp [hy], e⟩
      · rintro (e | ⟨y, hy, t, e⟩)
        · exact .inl (.inl e)
        · rcases List.mem_cons.1 hy with rfl | hy
          · exact .inl (.inr e.symm)
          · exact .inr ⟨y, hy, t, e⟩
    · rw [if_neg q]
      obtain ⟨h1, h2⟩ := sn_aux T k out l s h
      refine ⟨h1, fun z => (h2 z).trans ?_⟩
      constructor
      · rintro (e | ⟨y, hy, e⟩)
        · exact .inl e
        · exact .inr ⟨y, by simp [hy], e⟩
      · rintro (e | ⟨y, hy, t, e⟩)
        · exact .inl e
        · rcases List.mem_cons.1 hy with rfl | hy
          · exact absurd t q
          · exact .inr ⟨y, hy, t, e⟩
theorem sn_same (T : TD) (k : Int) (out l m : List Int) (h : ∀ y, y ∈ l ↔ y ∈ m) : (sn T k out l).length = (sn T k out m).length := by
  obtain ⟨a1, a2⟩ := sn_aux T k out l [] List.nodup_nil
  obtain ⟨b1, b2⟩ := sn_aux T k out m [] List.nodup_nil
  refine ((List.perm_ext_iff_of_nodup a1 b1).2 (fun z => (a2 z).trans ((b2 z).trans ?_).symm)).length_eq
  constructor
  · rintro (e | ⟨y, hy, e⟩)
    · exact .inl e
    · exact .inr ⟨y, (h y).2 hy, e⟩
  · rintro (e | ⟨y, hy, e⟩)
    · exact .inl e
    · exact .inr ⟨y, (h y).1 hy, e⟩
theorem addS_len (s : List Int) (x : Int) : (addS s x).length ≤ s.length + 1 := by
  unfold addS; split <;> simp
theorem sn_len (T : TD) (k : Int) (out : List Int) : ∀ (l s : List Int), (l.foldl (stp T k out) s).length ≤ s.length + l.length
  | [], s => by simp
  | a :: l, s => by
    rw [List.foldl_cons]
    have h := sn_len T k out l (stp T k out s a)
    have : (stp T k out s a).length ≤ s.length + 1 := by
      unfold stp
      split
      · exact addS_len _ _
      · omega
    rw [List.length_cons]; omega
/-- A map whose keys are the numbers of s. -/
structure MapS (D : DataW Unit) (s : List Int) : Prop where
  tidy : Tidy D
  has : ∀ x : Int, Maps.has D (.int .i64 x) = decide (x ∈ s)
  size : Maps.size D = s.length
theorem MapS.empty : MapS (.map []) [] := ⟨tidy_empty, fun x => rfl, rfl⟩
theorem MapS.put {D : DataW Unit} {s : List Int} (h : MapS D s) (x : Int) : MapS (D.put (.int .i64 x) (.lit (.bool true))) (addS s x) := by
  refine ⟨h.tidy.put (by trivial) _, fun y => ?_, ?_⟩
  · by_cases e : y = x
    · subst e
      rw [has_put_same h.tidy.isMap (by trivial), decide_eq_true (mem_addS.2 (.inr rfl))]
    · rw [has_put_other (by intro q; cases q; exact e rfl), h.has y]
      rw [Bool.eq_iff_iff, decide_eq_true_iff, decide_eq_true_iff, mem_addS]
      exact ⟨.inl, fun q => q.resolve_right e⟩
  · rw [size_put h.tidy, h.has x, h.size]
    unfold addS
    by_cases e : x ∈ s
    · rw [decide_eq_true e, if_pos e]; rfl
    · rw [decide_eq_false e, if_neg e]; simp
theorem wt_dev {T : TD} (O : T.Ok) {y : Int} (h : T.kd y = 0) : wt T 4 y = dwt T y := by
  rcases T.kd_cases y with ⟨i, hi, e, _⟩ | ⟨_, j, hj, _, e⟩ | ⟨_, _, e⟩
  · exact wt_no (by rw [← e]; exact ix_devb O hi)
  · have := (O.bkt.each j hj).2.2.1; omega
  · omega
/-- What CanPlace answers. -/
def CpV (ok : Bool) (n : Nat) : Value := if ok = true then .tuple #[.int .i64 n, .bool true] else .tuple #[.int .i64 0, .bool false]
structure CpP (T : TD) (i r k : Int) (out : List Int) : Prop where
  rule : RuleIn T i r k
  out : OutP out
theorem tk_no1 {T : TD} {k : Int} {out : List Int} {y : Int} (h : ¬ 0 < dwt T y) : tk T k out y = false := by unfold tk; rw [decide_eq_false h]; rfl
theorem tk_no2 {T : TD} {k : Int} {out : List Int} {y : Int} (h : y ∈ out) : tk T k out y = false := by unfold tk; rw [decide_eq_false (not_not_intro h)]; simp
theorem tk_no3 {T : TD} {k : Int} {out : List Int} {y : Int} (h0 : k ≠ 0) (h : dom8 T k y = 0) : tk T k out y = false := by unfold tk; simp [h0, h]
theorem tk_yes {T : TD} {k : Int} {out : List Int} {y : Int} (h1 : 0 < dwt T y) (h2 : y ∉ out) (h3 : k = 0 ∨ dom8 T k y ≠ 0) : tk T k out y = true := by unfold tk; simp [h1, h2, h3]
theorem stp_no {T : TD} {k : Int} {out s : List Int} {y : Int} (h : tk T k out y = false) : stp T k out s y = s := by unfold stp; rw [h]; rfl
theorem stp_yes {T : TD} {k : Int} {out s : List Int} {y : Int} (h : tk T k out y = true) : stp T k out s y = addS s (dom8 T k y) := by unfold stp; rw [if_pos h]
theorem dev_ge2 {T : TD} (O : T.Ok) {x : Int} (h : T.kd x = 0) : 0 ≤ x ∧ x ≤ 15 := by
  rcases T.kd_cases x with ⟨i, hi, e, _⟩ | ⟨_, j, hj, _, e⟩ | ⟨_, _, e⟩
  · have := O.dev.each i hi; omega
  · have := (O.bkt.each j hj).2.2.1; omega
  · omega
theorem words_past {w w' : World} {a : Option Addr} {zs : List Int} {r : Option Nat} (h : Words w a zs) (g : w.grownBy w' r) (hr : ∀ b o, a = some ⟨b, o, none⟩ → ∀ x, r = some x → b ≠ x) : Words w' a zs := by
  rcases h with h | ⟨b, off, ha, hB, hc⟩
  · exact .inl h
  · have e : w'.heap[b]? = w.heap[b]? := g.block b hB (fun q => hr b off ha b q.symm rfl)
    exact .inr ⟨b, off, ha, Nat.lt_of_lt_of_le hB g.size, fun i hi => (World.cell?_of_block e).trans (hc i hi)⟩
theorem nds_dev {T : TD} (O : T.Ok) {x y : Int} (h0 : 0 ≤ T.kd x) (hy : y ∈ nds T 4 x) : T.kd y = 0 :=
  undr_dev O h0 (by have := kd_top O x; omega) ((mem_nds.mem_any 4 x).1 hy)

set_option maxRecDepth 100000 in
set_option maxHeartbeats 4000000 in
theorem implCanPlace (T : TD) (A : TA) (i r k : Int) (dd : Bool) (a : Option Addr) (cap : Nat) (out : List Int) (w : World) (Z : T.Sz) (WF : T.Wf) (hr : (Lit.int .i64 r).wf = true) (ho : out.length ≤ 2097152) (h : TIn w T A) (hw0 : Words w a out) {ok : Bool} (hok : ok = true ↔ CpP T i r k out) :
    Calls Try.prog 30 #[A.val T, rval i r k dd, .slice a out.length cap] w (Ret (CpV ok (sn T k out (undr T 4 r)).length) w) := by
  have LH := Lib.hid (chain (lay w (.cells #[.slice A.da T.dn A.dc, .slice A.ba T.bn A.bc] 33)) (lay _ (.cells #[.int .i64 i, .int .i64 r, .int .i64 k, .bool dd] 52)))
  have XR := (BxN.new (w.alloc (.cells #[.slice A.da T.dn A.dc, .slice A.ba T.bn A.bc] 33)) #[.int .i64 i, .int .i64 r, .int .i64 k, .bool dd] 52)
  rw [World.size_alloc] at XR
  have XR := Lib.hid XR
  have K := Lib.hid (siteOf T A i r k dd _ Z WF hr (h.below LH.out))
  have OK := Lib.hid (fun w' (b : Below w.heap.size w w') => outOk a cap out w' ho (hw0.below b))
  have CT := Lib.hid (fun y w' (b : Below w.heap.size w w') => slicesContains a cap out y w' ho (hw0.below b))
  clear h Z hw0 WF
  obtain ⟨da, dc, ba, bc, I, C⟩ := A
  dsimp only at K LH XR ⊢
  go_enter Try.func30, Try.ntmps30
  go_wp2_with fail
  refine K.out.mono ?_
  rintro e w1 ⟨b1, ⟨N, rfl⟩ | ⟨Y, mb, p, q, rfl, HW⟩⟩
  · have B1 := Lib.hid (chain LH.out b1)
    obtain rfl : ok = false := by cases ok; rfl; exact absurd (hok.1 rfl).rule N
    clear hok N
    go_wp2
    go_ret2
    exact ⟨rfl, chain B1.out (lay _ _)⟩
  · have B1 := Lib.hid (chain LH.out b1)
    have X1 := Lib.hid (XR.out.later b1)
    have O := Lib.hid Y.ok
    have RT := Lib.hid Y.root
    have KR := Lib.hid Y.kind
    have S1 := Lib.hid (show w.heap.size + 1 < w1.heap.size from X1.out.lt)
    have XS := Lib.hid (BxN.new w1 #[.map (some mb), .int .i64 i, .int .i64 r, .int .i64 k, .bool dd] 113)
    have LS := Lib.hid (lay w1 (.cells #[.map (some mb), .int .i64 i, .int .i64 r, .int .i64 k, .bool dd] 113))
    have HW := Lib.hid HW
    clear b1
    go_wp2_with fail
    refine (OK.out _ (chain B1.out LS.out)).mono ?_
    rintro e w2 ⟨b, rfl, hb, b2⟩
    have B12 := Lib.hid (chain LS.out b2)
    have XS2 := Lib.hid (XS.out.later b2)
    clear b2
    cases b
    · obtain rfl : ok = false := by cases ok; rfl; exact absurd (hb.2 (hok.1 rfl).out) (by simp)
      clear hok hb
      go_wp2
      go_ret2
      exact ⟨rfl, chain B1.out B12.out⟩
    · obtain rfl : ok = true := hok.2 ⟨Y, hb.1 rfl⟩
      clear hok hb Y
      have H2 := Lib.hid (HW.out.later B12.out)
      have LK := (H2.out.later (lay w2 (.map #[] 0))).look r hr
      have ND := Lib.hid (nodesUnder T mb p q 4 r (w2.alloc (.map #[] 0)) (Nat.le_refl _) (by rw [RT.out]; omega) (by rw [RT.out]; omega) (H2.out.later (lay w2 (.map #[] 0))))
      have DEV := Lib.hid (fun y (hy : y ∈ nds T 4 r) => nds_dev O.out (by rw [RT.out]; omega) hy)
      have NL := Lib.hid (show (nds T 4 r).length ≤ 4096 from by rw [nds_len O.out]; have := undr_len O.out.bkt 4 r; rwa [show (8 : Nat) ^ 4 = 4096 from by decide] at this)
      have SAME := Lib.hid (sn_same T k out (nds T 4 r) (undr T 4 r) (fun y => mem_nds.mem_any 4 r))
      have hmm := @run_makeMap Try.prog
      have M0 := Lib.hid (World.ownsMap_made w2 Try.prog 2 (plainElem (H := Unit) Try.prog 4))
      have X2 := Lib.hid ((X1.out.later B12.out).later (lay w2 (.map #[] 0)))
      have XS3 := Lib.hid (XS2.out.later (lay w2 (.map #[] 0)))
      have s0 := XS3.out.cells 0 _ rfl
      have r1 := X2.out.cells 1 _ rfl
      have LM := Lib.hid (lay w2 (.map #[] 0))
      generalize nds T 4 r = l at *
      generalize thg T p q T.dn T.bn r = tv at *
      go_wp2_with fail
      refine ND.out.mono ?_
      rintro e w3 ⟨al, cl, rfl, hn, I3, b3⟩
      have B23 := Lib.hid (chain LM.out b3)
      have M3 := Lib.hid (ownsMap_later M0.out b3)
      have WL := Lib.hid ((Gf2.Ib.own (w0 := w2.alloc (.map #[] 0)) I3 (Nat.le_refl _)).1.words)
      have BI := Lib.hid (show l ≠ [] → ∀ b o, al = some ⟨b, o, none⟩ → b ≠ w2.heap.size from fun hl b o e => by
        rcases (Gf2.Ib.own (w0 := w2.alloc (.map #[] 0)) I3 (Nat.le_refl _)).1 with h | ⟨b', e', h0, _⟩
        · exact absurd h hl
        · rw [e] at e'
          obtain ⟨rfl, -⟩ : b = b' ∧ o = 0 := by simpa using e'
          rw [World.size_alloc] at h0
          omega)
      have X3 := Lib.hid (X2.out.later b3)
      have XS4 := Lib.hid (XS3.out.later b3)
      obtain ⟨n, hn'⟩ : ∃ n, n = l.length := ⟨_, rfl⟩
      have HN := Lib.hid hn'
      have NL2 : n ≤ 4096 := by rw [hn']; exact NL.out
      rw [← hn']
      clear I3 b3 hn hn' M0 s0 r1 X2 XS3 LK
      go_wp2
      go_loopw [36] (fun v wr => ∃ (t c : Nat) (D : DataW Unit), t ≤ n ∧ c ≤ t ∧ v = .int .i64 t ∧ MapS D (sn T k out (l.take t)) ∧ wr.ownsMap Try.prog 2 (plainElem (H := Unit) Try.prog 4) w2.heap.size c D ∧ Words wr al l ∧ BxN wr (w.heap.size + 1) [.int .i64 i, .int .i64 r, .int .i64 k, .bool dd] ∧ BxN wr w1.heap.size [.map (some mb), .int .i64 i, .int .i64 r, .int .i64 k, .bool dd] ∧ Below w2.heap.size w2 wr) (fun v _ => n - (intOf v).toNat)
      case atStart => exact ⟨0, 0, _, by omega, by omega, rfl, MapS.empty, M3.out, WL.out, X3.out, XS4.out, B23.out⟩
      case round =>
        clear M3 WL X3 XS4 B23
        obtain ⟨t, c, D, ht, hc, rfl, MS, own, WL, XR3, XS5, hw⟩ := hrel
        have MSH := Lib.hid MS
        have OWN := Lib.hid own
        have WLH := Lib.hid WL
        have XRH := Lib.hid XR3
        have XSH := Lib.hid XS5
        have WH := Lib.hid hw
        have s0 := XS5.cells 0 _ rfl
        have r2 := XR3.cells 2 _ rfl
        clear MS own XR3 XS5
        by_cases hlt : t < n
        · have hkl : t < l.length := by rw [← HN.out]; exact hlt
          obtain ⟨bi, oi, rfl, hBi, nums⟩ := WL.resolve_left (by intro e; rw [e] at hkl; simp at hkl)
          have d := nums t hkl
          have YM := getD_mem hkl
          have TS := Lib.hid (show sn T k out (l.take (t + 1)) = stp T k out (sn T k out (l.take t)) (l.getD t 0) from by rw [take_snoc _ _ hkl, sn_snoc])
          have KD0 := DEV.out _ YM
          have YR := dev_ge2 O.out KD0
          have WX := WalkArith.wf_i64 (n := l.getD t 0) (by omega)
          have HWr := H2.out.later hw
          have LK := HWr.look _ WX
          obtain ⟨ty, dp, htg, hcall⟩ := HWr.weight (x := l.getD t 0) (by omega)
          have DC := domainOf T mb p q k (l.getD t 0) wr HWr WX
          have WD := wt_dev O.out KD0
          rw [WD] at hcall
          have CO := CT.out (l.getD t 0) wr (chain B1.out (chain B12.out hw))
          have KW := dom8_wf O.out (g := k) KD0
          rw [htg] at LK
          have LFT : ty = 140 := by
            rcases thg_cases (T := T) p q (l.getD t 0) with ⟨_, _, _, _, ht⟩ | ⟨j, hj, _, e, _⟩ | ⟨e, _⟩
            · rw [ht] at htg; cases htg; rfl
            · have := (O.out.bkt.each j hj).2.2.1; omega
            · omega
          subst LFT
          have CL : Calls Try.prog 185 #[.pointer (some ⟨dp, 0, none⟩)] wr (Same (.int .i64 (dwt T (l.getD t 0))) wr) := by
            rcases hcall with ⟨_, h⟩ | ⟨e, _⟩
            · exact h
            · exact absurd e (by decide)
          have M := weightML dp
          have CL := Lib.hid CL
          clear nums WL hw HWr hcall YM htg WD
          by_cases hg : gdom T k (l.getD t 0)
          · rw [DomV_yes hg] at DC
            have DC := Lib.hid DC
            by_cases h1 : 0 < dwt T (l.getD t 0)
            · have h1' : decide (0 < dwt T (l.getD t 0)) = true := decide_eq_true h1
              unfold HasB at CO
              by_cases h2 : l.getD t 0 ∈ out
              · rw [decide_eq_true h2] at CO
                have CO := Lib.hid CO
                have E := Lib.hid (show sn T k out (l.take (t + 1)) = sn T k out (l.take t) from by rw [TS.out, stp_no (tk_no2 h2)])
                clear h2 h1 hg KD0 TS
                generalize dom8 T k (l.getD t 0) = dv at *
                generalize dwt T (l.getD t 0) = wv at *
                generalize l.getD t 0 = y at *
                go_wp2_with fail
                refine DC.out.mono ?_
                rintro e w4 ⟨rfl, rfl⟩
                go_wp2_with fail
                refine CL.out.mono ?_
                rintro e w4 ⟨rfl, rfl⟩
                go_wp2_with fail
                refine CO.out.mono ?_
                rintro e w4 ⟨rfl, rfl⟩
                go_wp2
                go_roundw
                case rel => exact ⟨t + 1, c, D, by omega, by omega, by go_num, by rw [E.out]; exact MSH.out, OWN.out, WLH.out, XRH.out, XSH.out, WH.out⟩
                case measure => simp [intOf]; omega
              · rw [decide_eq_false h2] at CO
                have CO := Lib.hid CO
                have E := Lib.hid (show sn T k out (l.take (t + 1)) = addS (sn T k out (l.take t)) (dom8 T k (l.getD t 0)) from by rw [TS.out, stp_yes (tk_yes h1 h2 hg.2)])
                have KY := keyOf_int_mk (P := Try.prog) Try.underlying2 (WalkArith.wf_i64 (n := dom8 T k (l.getD t 0)) (by omega))
                have hk8 : c < maxLen := by unfold maxLen; omega
                have LE := Lib.hid WH.out.size
                clear h2 h1 hg KD0 TS
                generalize dom8 T k (l.getD t 0) = dv at *
                generalize dwt T (l.getD t 0) = wv at *
                generalize l.getD t 0 = y at *
                go_wp2_with fail
                refine DC.out.mono ?_
                rintro e w4 ⟨rfl, rfl⟩
                go_wp2_with fail
                refine CL.out.mono ?_
                rintro e w4 ⟨rfl, rfl⟩
                go_wp2_with fail
                refine CO.out.mono ?_
                rintro e w4 ⟨rfl, rfl⟩
                go_wp2_with (at_mapUpdate; refine wpList_mapUpdate_own _ rfl _ _ _ 117 rfl 2 4 keys Try.underlying117 _ w2.heap.size c _ rfl OWN.out hk8 _ _ _ rfl rfl KY _ [] (plainElem_bool Try.underlying4 true) ?_; intro w5 hown5 hgrow5)
                have B5 := Lib.hid (WH.out.grown hgrow5 LE.out (fun j hj => by cases hj; exact Nat.le_refl _))
                have OW5 := Lib.hid hown5
                have X5 := Lib.hid (XRH.out.grown hgrow5 (fun x hx => by cases hx; have := S1.out; have := B12.out.size; omega))
                have XS6 := Lib.hid (XSH.out.grown hgrow5 (fun x hx => by cases hx; have := LS.out.size; have := B12.out.size; have := XS2.out.lt; omega))
                have W5 := Lib.hid (show Words w5 (some ⟨bi, oi, none⟩) l from words_past WLH.out hgrow5 (fun b o e x hx => by cases hx; exact BI.out (by intro q; rw [q] at hkl; simp at hkl) b o e))
                clear hown5 hgrow5
                go_roundw
                case rel => exact ⟨t + 1, c + 1, _, by omega, by omega, by go_num, by rw [E.out]; exact MSH.out.put _, OW5.out, W5.out, X5.out, XS6.out, B5.out⟩
                case measure => simp [intOf]; omega
            · have h1' : decide (0 < dwt T (l.getD t 0)) = false := decide_eq_false h1
              have E := Lib.hid (show sn T k out (l.take (t + 1)) = sn T k out (l.take t) from by rw [TS.out, stp_no (tk_no1 h1)])
              clear h1 hg KD0 TS CO
              generalize dom8 T k (l.getD t 0) = dv at *
              generalize dwt T (l.getD t 0) = wv at *
              generalize l.getD t 0 = y at *
              go_wp2_with fail
              refine DC.out.mono ?_
              rintro e w4 ⟨rfl, rfl⟩
              go_wp2_with fail
              refine CL.out.mono ?_
              rintro e w4 ⟨rfl, rfl⟩
              go_wp2
              go_roundw
              case rel => exact ⟨t + 1, c, D, by omega, by omega, by go_num, by rw [E.out]; exact MSH.out, OWN.out, WLH.out, XRH.out, XSH.out, WH.out⟩
              case measure => simp [intOf]; omega
          · rw [DomV_no hg] at DC
            have DC := Lib.hid DC
            have E := Lib.hid (show sn T k out (l.take (t + 1)) = sn T k out (l.take t) from by
              rw [TS.out, stp_no (tk_no3 (fun e => hg ⟨KD0, .inl e⟩) (Classical.byContradiction fun n => hg ⟨KD0, .inr n⟩))])
            clear hg KD0 TS CO CL
            generalize dA T k (l.getD t 0) = dv at *
            generalize dwt T (l.getD t 0) = wv at *
            generalize l.getD t 0 = y at *
            go_wp2_with fail
            refine DC.out.mono ?_
            rintro e w4 ⟨rfl, rfl⟩
            go_wp2
            go_roundw
            case rel => exact ⟨t + 1, c, D, by omega, by omega, by go_num, by rw [E.out]; exact MSH.out, OWN.out, WLH.out, XRH.out, XSH.out, WH.out⟩
            case measure => simp [intOf]; omega
        · obtain rfl : t = n := by omega
          have E : l.take t = l := by rw [HN.out]; exact List.take_length
          have SZ := Lib.hid (show Maps.size D = (sn T k out (undr T 4 r)).length from by have := MSH.out.size; rw [E, SAME.out] at this; exact this)
          have LN := OWN.out.len Try.underlying117 3
          rw [SZ.out] at LN
          have B2 := Lib.hid (chain B1.out (chain B12.out hw))
          clear hw WL E
          generalize (sn T k out (undr T 4 r)).length = sz at *
          go_wp2
          go_ret2
          exact ⟨rfl, B2.out⟩
end Go.Proofs.Ytgfpngjfhmiphaa.Tm
