/-
  AskOf in the program.
-/
import Derived.Test.YthimpcfodbmhkaaAskM
import Derived.Test.YthimpcfodbmhkaaOwnD
namespace Go.Proofs.Ythimpcfodbmhkaa.Ac
open Go.RowKit Go.Proofs.Ythimpcfodbmhkaa.GfI Go.Proofs.Ythimpcfodbmhkaa.GfS Go.Proofs.Ythimpcfodbmhkaa.MixC
open Go.Proofs.Ythimpcfodbmhkaa.Gf2 (Ib wpList_append_int)
open Go.Proofs.Ythimpcfodbmhkaa.Rd (lay chain chainX RetW Rdb rows_words rows_wf GOne AnsI AnsR gone_of_own rows_of_words DInterval shape_Interval mk_Interval)
open Go.Proofs.Ythimpcfodbmhkaa.Sg (BxN)
set_option linter.unusedVariables false
set_option linter.unusedSimpArgs false

def cps (zs : List Int) : List Int := Go.Lib.compactUpTo zs.toArray zs.length
theorem cps_len (zs : List Int) : (cps zs).length ≤ zs.length := by
  unfold cps Go.Lib.compactUpTo
  rw [List.length_map]
  exact Nat.le_trans (List.length_filter_le ..) (by simp)
/-- The library's Compact on a list of the call's own. -/
theorem compA (B : Nat) (a : Option Addr) (c : Nat) (zs : List Int) (w : World) (h : Ib B w (.slice a zs.length c) zs) (hl : zs.length ≤ 1000000) :
    Calls Try.prog 71 #[.slice a zs.length c] w fun e w' => ∃ a' c', e = .returned (.slice a' (cps zs).length c') ∧ Ib B w' (.slice a' (cps zs).length c') (cps zs) ∧ ∃ r, w.grownBy w' r ∧ ∀ g, r = some g → B ≤ g := by
  rcases h.2 with ⟨e, h1⟩ | ⟨g, cap, cur, e, hg, hb, h1, h2, h3, h4⟩
  · have hz : zs = [] := List.eq_nil_of_length_eq_zero h1
    subst hz
    obtain ⟨rfl, -, rfl⟩ : a = none ∧ 0 = 0 ∧ c = 0 := by simpa using e
    have G := Lib.hid (show ∃ a' c', (Ending.returned (.slice none 0 0)) = .returned (.slice a' (cps []).length c') ∧ Ib B w (.slice a' (cps []).length c') (cps []) ∧ ∃ r, w.grownBy w r ∧ ∀ g, r = some g → B ≤ g from
      ⟨none, 0, rfl, World.ownsRow_nil _ _ _ _, none, ⟨rfl, rfl, rfl, Nat.le_refl _, fun _ _ _ => rfl⟩, fun g hg => by cases hg⟩)
    clear h e h1
    go_enter Try.func71, Try.ntmps71
    go_wp2
    go_ret
    exact G.out
  · obtain ⟨rfl, -, rfl⟩ : a = some ⟨g, 0, none⟩ ∧ zs.length = zs.length ∧ c = cap := by simpa using e
    have hH := holds_of_blockI (ss := zs) hb (by rw [Nat.mul_one] at h4; exact h4)
    have C := AnyE.slices_Compact ShA.cmp43 (Value.int .i64) (fun _ => rfl) (EqlAt.intD _ _ _) (NeqAt.intD _ _ _) 0 Try.zeroValue2 g 0 c zs.toArray w hH (by simp; omega) (by simpa using h1)
    have hfl : Go.Lib.compactUpTo zs.toArray zs.toArray.size = cps zs := rfl
    rw [hfl] at C
    have C2 : Calls Try.prog 71 #[.slice (some ⟨g, 0, none⟩) zs.length c] w _ := C
    refine C2.mono ?_
    rintro e w' ⟨rfl, q, rfl⟩
    have hle := cps_len zs
    have hlen : (cps zs ++ List.replicate (zs.toArray.size - (cps zs).length) 0).length = zs.length := by simp; omega
    have O := ownsRow_sortedI (w := w) (base := B) (n := q) (os := #[]) (ss := zs) (ts := cps zs ++ List.replicate (zs.toArray.size - (cps zs).length) 0) hlen hg hb h1 h2 h3
    rw [Go.Sort.grow_empty] at O
    have G := grownBy_sortedI (w := w) (g := g) (n := q) (os := #[]) (cps zs ++ List.replicate (zs.toArray.size - (cps zs).length) 0).toArray
    rw [Go.Sort.grow_empty] at G
    refine ⟨_, _, rfl, ?_, some g, G, fun g' e => by cases e; exact hg⟩
    have K := ownsRow_cut O hle
    rw [List.map_append, List.take_left' (by simp)] at K
    exact K
/-- Sets of places, appended one after the other: what the k-th cell holds was there at w0. -/
def OwnA (B : Nat) (w0 w : World) (v : Value) (ls : List (List Int)) : Prop := ∃ vals : List Value, w.ownsRow B 54 1 v ls.length vals ∧ ∀ (i : Nat) (x : List Int), ls[i]? = some x → ∃ a c, vals[i]? = some (Value.slice a x.length c) ∧ x.length ≤ 1000000 ∧ x.length ≤ c ∧ Rd.Rows false 0 w0 a x
theorem OwnA.rows {B : Nat} {w0 w : World} {a : Option Addr} {n c : Nat} {ls : List (List Int)} (h : OwnA B w0 w (.slice a n c) ls) (b : Below w0.heap.size w0 w) : n = ls.length ∧ Rd.Rows false 0 w a ls := by
  obtain ⟨vals, O, hv⟩ := h
  have O' := O
  rcases O.2 with ⟨e, e0⟩ | ⟨g, cap, cur, e, hg, hb, h1, h2, h3, h4⟩
  · cases e; exact ⟨e0.symm, .inl (List.eq_nil_of_length_eq_zero e0)⟩
  · cases e
    refine ⟨rfl, .inr ⟨g, 0, rfl, Nat.zero_le _, (Array.getElem?_eq_some_iff.1 hb).1, (fun e => by cases e), fun i x hx => ?_⟩⟩
    obtain ⟨a1, c1, e1, l1, l2, r1⟩ := hv i x hx
    refine ⟨[.slice a1 x.length c1], ⟨by omega, a1, c1, ⟨rfl, l2⟩, r1.below b⟩, fun k u hu => ?_⟩
    have hk : k < 1 := (List.getElem?_eq_some_iff.1 hu).1
    obtain rfl : k = 0 := by omega
    obtain rfl : Value.slice a1 x.length c1 = u := by simpa using hu
    have hi : i < ls.length := (List.getElem?_eq_some_iff.1 hx).1
    have := World.ownsRow.cellAt O' i (by omega)
    rw [e1] at this
    rw [show 0 + i * Rdb.size (List Int) + 0 = i from by show 0 + i * 1 + 0 = i; omega]
    exact this
theorem OwnA.shape {B : Nat} {w0 w : World} {v : Value} {ls : List (List Int)} (h : OwnA B w0 w v ls) : ∃ a n c, v = .slice a n c := by
  obtain ⟨vals, O, -⟩ := h
  rcases O.2 with ⟨rfl, _⟩ | ⟨g, cap, cur, rfl, _⟩
  · exact ⟨_, _, _, rfl⟩
  · exact ⟨_, _, _, rfl⟩
theorem infoAS : (Try.prog.info? 54).map (fun i => (i.zero, i.size, i.bytes)) = some (some (Value.slice none 0 0), 1, 24) := by kernel_rfl
theorem maps_len (l : List DInterval) : (l.map DInterval.acting).length = l.length := List.length_map ..
set_option maxRecDepth 100000 in
set_option maxHeartbeats 4000000 in
theorem implAskOf (a : Option Addr) (cap : Nat) (l : List DInterval) (r : List Int) (w : World) {fr : Bool} {lo : Nat} (hl : l.length ≤ 2097152) (hs : Rdb.sz l ≤ 2097152) (h : Rd.Rows fr lo w a l) (hr : AskR l r) :
    Calls Try.prog 44 #[.slice a l.length cap] w (AnsI r w) := by
  have OK := Lib.hid (intervalsOk a cap l w hl hs h)
  have wf := askL_wf (iv_wf h)
  rcases hr with ⟨hp, rfl⟩ | ⟨hp, rfl⟩
  · have OK := Lib.hid (OK.out.mono fun e w' q => (show e = .returned (.bool true) ∧ Below w.heap.size w w' from by obtain ⟨r, e1, hr, b⟩ := q; rw [hr.2 hp] at e1; exact ⟨e1, b⟩))
    have RH := Lib.hid h
    have GET := Lib.hid (fun k (h : k < l.length) => Rd.get_lt h)
    have hl6 := hp.len
    have IV := Lib.hid (fun k v (hk : k < l.length) (hv : l[k]? = some v) => (hp k v hk hv).2.2.1)
    have FL := Lib.hid (show (l.map DInterval.acting).flatten.length ≤ 1000000 from by have := askN_len hp l.length (Nat.le_refl _); rw [List.take_length] at this; unfold askN at this; omega)
    have MAPK := Lib.hid (fun k v (hv : l[k]? = some v) => (show (l.take (k + 1)).map DInterval.acting = (l.take k).map DInterval.acting ++ [v.acting] from by rw [List.take_add_one, hv]; simp))
    have ALL := Lib.hid (show l.take l.length = l by rw [List.take_length])
    have LM := Lib.hid (maps_len l)
    have FINN := Lib.hid (fun (a2 : Option Addr) (c2 : Nat) (w1 w2 : World) (b1 : Below w.heap.size w w1) (J : Ib w.heap.size w2 (.slice a2 (cps (nodesL (l.map DInterval.acting))).length c2) (cps (nodesL (l.map DInterval.acting)))) (b2 : Below w.heap.size w1 w2) => show AnsI (askL l) w (.returned (.slice a2 (cps (nodesL (l.map DInterval.acting))).length c2)) w2 from by
      have e : cps (nodesL (l.map DInterval.acting)) = askL l := compact_srt _
      rw [e] at J ⊢
      exact ⟨a2, c2, rfl, gone_of_own (Gf2.Ib.own (w0 := w) J (Nat.le_refl _)).1 wf, b1.trans b2⟩)
    obtain ⟨n, hn⟩ : ∃ n, l.length = n := ⟨_, rfl⟩
    have HN := Lib.hid hn
    rw [hn] at hl hl6 GET IV ALL LM OK ⊢
    clear h hs hn wf hp
    go_enter Try.func44, Try.ntmps44
    go_wp2_with fail
    refine OK.out.mono ?_
    rintro e w1 ⟨rfl, b1⟩
    have B1 := Lib.hid b1
    clear b1
    go_wp2
    go_loopw [3, 11] (fun v i wr => ∃ k : Nat, k ≤ n ∧ i = .int .i64 k ∧ OwnA w.heap.size w wr v ((l.take k).map DInterval.acting) ∧ Below w.heap.size w wr) (fun _ i _ => n - (intOf i).toNat)
    case atStart => exact ⟨0, by omega, rfl, ⟨[], World.ownsRow_nil _ _ _ _, fun i x hx => by simp at hx⟩, B1.out⟩
    case round =>
      clear B1
      obtain ⟨k, hk, rfl, J, hw⟩ := hrel
      have BH := Lib.hid hw
      by_cases hlt : k < n
      · obtain ⟨v, hv⟩ := GET.out k hlt
        obtain ⟨b, off, cs, rfl, -, hB, hr, hcc⟩ := (RH.out.below hw).at' hv
        obtain ⟨b', off', cs', e', -, hB0, hr0, hcc0⟩ := RH.out.at' hv
        obtain ⟨rfl, rfl⟩ : b = b' ∧ off = off' := by simpa using e'
        obtain ⟨a0_2, c0_2, rfl, f0_0, f0_1, f0_2, g0_2⟩ := shape_Interval hr
        obtain ⟨a1_2, c1_2, rfl, f1_0, f1_1, f1_2, g1_2⟩ := shape_Interval hr0
        have z2 : wr.cell? ⟨b, off + k * 4 + 2, none⟩ = some (.slice a0_2 v.acting.length c0_2) := hcc 2 _ rfl
        have z2' : wr.cell? ⟨b, off + k * 4 + 2, none⟩ = some (.slice a1_2 v.acting.length c1_2) := (hw.cell (p := ⟨b, off + k * 4 + 2, none⟩) hB0).trans (hcc0 2 _ rfl)
        obtain ⟨rfl, rfl⟩ : a0_2 = a1_2 ∧ c0_2 = c1_2 := by simpa using z2.symm.trans z2'
        have c0 : wr.cell? ⟨b, off + k * 4, none⟩ = some (.int .i64 v.first) := hcc 0 _ rfl
        have c1 : wr.cell? ⟨b, off + k * 4 + 1, none⟩ = some (.int .i64 v.last) := hcc 1 _ rfl
        have c2 : wr.cell? ⟨b, off + k * 4 + 2, none⟩ = some (.slice a0_2 v.acting.length c0_2) := hcc 2 _ rfl
        have c3 : wr.cell? ⟨b, off + k * 4 + 3, none⟩ = some (.bool v.may) := hcc 3 _ rfl
        have AP := IV.out k v hlt hv
        have LY := lay wr (.cells #[.int .i64 v.first, .int .i64 v.last, .slice a0_2 v.acting.length c0_2, .bool v.may] 38)
        have YN := BxN.new wr #[.int .i64 v.first, .int .i64 v.last, .slice a0_2 v.acting.length c0_2, .bool v.may] 38
        have y0 := YN.cells 0 _ rfl
        have y1 := YN.cells 1 _ rfl
        have y2 := YN.cells 2 _ rfl
        have y3 := YN.cells 3 _ rfl
        have BA := Lib.hid (hw.trans (LY.mono hw.size))
        obtain ⟨vals, O, hvals⟩ := J
        have OA := Lib.hid (World.ownsRow.alloc O (.cells #[.int .i64 v.first, .int .i64 v.last, .slice a0_2 v.acting.length c0_2, .bool v.may] 38))
        have LEN : ((l.take k).map DInterval.acting).length = k := by rw [List.length_map, List.length_take, HN.out]; omega
        rw [LEN] at OA O
        have VL : vals.length = k := by have := O.1; omega
        have NEW := Lib.hid (fun (v' : Value) (w' : World) (O' : w'.ownsRow w.heap.size 54 1 v' (k + 1) (vals ++ [.slice a0_2 v.acting.length c0_2])) => (show OwnA w.heap.size w w' v' ((l.take (k + 1)).map DInterval.acting) from by
          rw [MAPK.out k v hv]
          refine ⟨_, by rw [List.length_append, LEN]; exact O', fun i x hx => ?_⟩
          by_cases hi : i < k
          · rw [List.getElem?_append_left (by omega)] at hx
            rw [List.getElem?_append_left (by omega)]
            exact hvals i x hx
          · have hi2 : i < k + 1 := by have := (List.getElem?_eq_some_iff.1 hx).1; rw [List.length_append, LEN] at this; simpa using this
            obtain rfl : i = k := by omega
            rw [List.getElem?_append_right (by omega), LEN] at hx
            rw [List.getElem?_append_right (by omega), VL]
            simp at hx
            subst hx
            exact ⟨a0_2, c0_2, by simp, by have := AP.1; omega, g0_2.2, f1_2.weak (Nat.zero_le _) (fun e => by cases e)⟩))
        have LE := hw.size
        clear hcc hcc0 hr hr0 hv hw AP f0_2 f1_2 z2 z2' LY YN O hvals g0_2 g1_2 e'
        generalize v.acting.length = va at *
        have LEB : w.heap.size ≤ (wr.alloc (.cells #[.int .i64 v.first, .int .i64 v.last, .slice a0_2 va c0_2, .bool v.may] 38)).heap.size := BA.out.size
        go_wp2_with (at_builtin; refine wpList_append_cells rfl (.tmp 15) (.tmp 18) 63 54 (.slice none 0 0) 1 24 rfl Try.underlying63 infoAS rfl (by omega) (by omega) w.heap.size _ k vals [.slice a0_2 va c0_2] rfl OA.out rfl (by intro u hu; simp at hu; subst hu; rfl) (by rw [World.size_alloc]; rfl) (by omega) LEB ?_; intro v' w4 O4 g4)
        have B4 := Lib.hid (BA.out.trans (((Below.refl w.heap.size _).alloc LEB (.cells #[.slice a0_2 va c0_2] 54)).grown g4 (by rw [World.size_alloc]; omega) (fun c hc => (World.ownsRow.lt OA.out c hc).1)))
        have N4 := Lib.hid (NEW.out v' w4 O4)
        clear O4 g4 NEW OA
        go_roundw
        case rel => exact ⟨k + 1, by omega, by go_num, N4.out, B4.out⟩
        case measure => simp [intOf]; omega
      · obtain rfl : k = n := by omega
        rw [ALL.out] at J
        obtain ⟨av, nv, cv, rfl⟩ := OwnA.shape J
        obtain ⟨en, RW⟩ := OwnA.rows J BH.out
        rw [LM.out] at en
        subst en
        have NI := nodesIn av cv (l.map DInterval.acting) wr (by rw [LM.out]; omega) FL.out RW
        rw [LM.out] at NI
        have NI := Lib.hid NI
        have NLEN := nodl_len (l.map DInterval.acting).flatten
        have NL2 : (nodesL (l.map DInterval.acting)).length ≤ 1000000 := by unfold nodesL; rw [srt_len]; have := FL.out; omega
        clear J hw RW NLEN
        generalize nodesL (l.map DInterval.acting) = ns at *
        go_wp2_with fail
        refine NI.out.mono ?_
        rintro e w5 ⟨a5, c5, rfl, -, J5, b5⟩
        have B5 := Lib.hid b5
        have LW := BH.out.size
        have CM := Lib.hid (compA w.heap.size a5 c5 ns w5 (Gf2.Ib.mono J5 LW) NL2)
        clear J5 b5
        generalize ns.length = nl at *
        go_wp2_with fail
        refine CM.out.mono ?_
        rintro e w6 ⟨a6, c6, rfl, J6, r6, g6, h6⟩
        have B6 := Lib.hid ((B5.out.mono LW).grown g6 (Nat.le_trans LW B5.out.size) h6)
        have G := Lib.hid (FINN.out a6 c6 wr w6 BH.out J6 B6.out)
        clear J6 g6 CM
        generalize (cps ns).length = z at *
        go_wp2
        go_ret
        exact G.out
  · have OK := Lib.hid (OK.out.mono fun e w' q => (show e = .returned (.bool false) ∧ Below w.heap.size w w' from by obtain ⟨r, e1, hr, b⟩ := q; cases r; exact ⟨e1, b⟩; exact absurd (hr.1 rfl) hp))
    have FIN := Lib.hid (fun (w1 : World) (b1 : Below w.heap.size w w1) => show AnsI [] w (.returned (.slice none 0 0)) w1 from ⟨none, 0, rfl, .inl rfl, b1⟩)
    clear h hs hp
    generalize l.length = n at *
    go_enter Try.func44, Try.ntmps44
    go_wp2_with fail
    refine OK.out.mono ?_
    rintro e w1 ⟨rfl, b1⟩
    have G := Lib.hid (FIN.out _ b1)
    clear b1
    go_wp2
    go_ret
    exact G.out
end Go.Proofs.Ythimpcfodbmhkaa.Ac
