/-
  The devices under a part: the program's walk down, and the sort of what it finds.
-/
import Derived.Test.YtigaoimnhebegaaTund
import Derived.Test.YtigaoimnhebegaaSort64
import Derived.Sort.OwnSortedInts
import Derived.Laws.AppendOwnNone
namespace Go.Proofs.Ytigaoimnhebegaa.Tm
open Go.RowKit Go.Proofs.Ytigaoimnhebegaa.GfI Go.Proofs.Ytigaoimnhebegaa.GfS Go.Proofs.Ytigaoimnhebegaa.MixC
open Go.Proofs.Ytigaoimnhebegaa.Gf2 (Ib OwnS wpList_append_int)
open Go.Proofs.Ytigaoimnhebegaa.It (lay chain)
open Go.Proofs.Ytigaoimnhebegaa.Sg (BxN)
set_option linter.unusedVariables false
set_option linter.unusedSimpArgs false

/-- The devices under a thing, as the program meets them. -/
def nds (T : TD) : Nat → Int → List Int
  | 0, x => [x]
  | f + 1, x => match ix T.bf x T.bn with
    | none => [x]
    | some j => (T.L j).flatMap (nds T f)
theorem nds_no {T : TD} {f : Nat} {x : Int} (h : ix T.bf x T.bn = none) : nds T f x = [x] := by
  cases f with
  | zero => rfl
  | succ f => unfold nds; rw [h]
theorem nds_bkt {T : TD} {f : Nat} {x : Int} {j : Nat} (h : ix T.bf x T.bn = some j) : nds T (f + 1) x = (T.L j).flatMap (nds T f) := by
  conv => lhs; unfold nds
  rw [h]
theorem mem_nds {T : TD} {z : Int} : ∀ {f : Nat} {x : Int}, T.kd x < f → (z ∈ nds T f x ↔ z ∈ undr T f x)
  | f, x, hf => by
    cases h : ix T.bf x T.bn with
    | none => rw [nds_no h, undr_no h]
    | some j => cases f with
      | zero => unfold nds undr; exact Iff.rfl
      | succ f =>
        rw [nds_bkt h, undr_bkt h, mem_undrL, List.mem_flatMap]
        by_cases hg : ∀ y, y ∈ T.L j → T.kd y < f
        · exact ⟨fun ⟨y, hy, hz⟩ => ⟨y, hy, (mem_nds (hg y hy)).1 hz⟩, fun ⟨y, hy, hz⟩ => ⟨y, hy, (mem_nds (hg y hy)).2 hz⟩⟩
        · exact ⟨fun ⟨y, hy, hz⟩ => ⟨y, hy, (mem_any f y).1 hz⟩, fun ⟨y, hy, hz⟩ => ⟨y, hy, (mem_any f y).2 hz⟩⟩
where
  mem_any {T : TD} {z : Int} : ∀ (f : Nat) (x : Int), (z ∈ nds T f x ↔ z ∈ undr T f x)
  | 0, x => by
    unfold nds undr; exact Iff.rfl
  | f + 1, x => by
    cases h : ix T.bf x T.bn with
    | none => rw [nds_no h, undr_no h]
    | some j =>
      rw [nds_bkt h, undr_bkt h, mem_undrL, List.mem_flatMap]
      exact ⟨fun ⟨y, hy, hz⟩ => ⟨y, hy, (mem_any f y).1 hz⟩, fun ⟨y, hy, hz⟩ => ⟨y, hy, (mem_any f y).2 hz⟩⟩
theorem nodup_nds {T : TD} (O : T.Ok) : ∀ (f : Nat) (x : Int), (nds T f x).Nodup
  | 0, x => by unfold nds; simp
  | f + 1, x => by
    cases h : ix T.bf x T.bn with
    | none => rw [nds_no h]; simp
    | some j =>
      rw [nds_bkt h]
      obtain ⟨hj, -, -⟩ := ix_some h
      refine List.pairwise_flatMap.2 ⟨fun y _ => nodup_nds O f y, ?_⟩
      refine (O.once.one j hj).imp_of_mem (fun {a b} ha hb hne x hx y hy e => hne ?_)
      subst e
      exact undr_apart O hj ha hb ((mem_nds.mem_any f a).1 hx) ((mem_nds.mem_any f b).1 hy)
theorem nds_len {T : TD} (O : T.Ok) (f : Nat) (x : Int) : (nds T f x).length = (undr T f x).length :=
  ((List.perm_ext_iff_of_nodup (nodup_nds O f x) (nodup_undr T f x)).2 (fun a => mem_nds.mem_any f x)).length_eq
def srt (l : List Int) : List Int := l.mergeSort (fun x y => decide (x ≤ y))
theorem srt_len (l : List Int) : (srt l).length = l.length := (List.mergeSort_perm l _).length_eq
theorem srt_nds {T : TD} (O : T.Ok) (f : Nat) (x : Int) : srt (nds T f x) = undr T f x := by
  refine List.Perm.eq_of_pairwise (le := fun a b : Int => a ≤ b) (fun a b _ _ h k => by omega) ?_ ?_ ((List.mergeSort_perm _ _).trans ((List.perm_ext_iff_of_nodup (nodup_nds O f x) (nodup_undr T f x)).2 (fun a => mem_nds.mem_any f x)))
  · exact (List.pairwise_mergeSort (le := fun x y : Int => decide (x ≤ y)) (fun a b c h k => by simp at *; omega) (fun a b => by simp; omega) _).imp (fun h => by simpa using h)
  · exact (sorted_undr T f x).imp (fun h => by omega)

/-- A list of numbers behind another of the call's own. -/
theorem wpList_append_list {w : World} {ops : Array Oper} {rest : List Oper} {o : Oper} {a : Act} {Q : Exit → Act → World → Prop} (hgd : o.guard = none) (s x : Operand)
    (ho : o.op = .call { callee := .builtin .append, args := #[s, x], argTypes := #[39, 39] }) (B : Nat) (v : Value) (zs ls : List Int) (hs : a.eval s = v) (hb : Ib B w v zs) (al : Option Addr) (c : Nat)
    (hx : a.eval x = .slice al ls.length c) (hn : al = none → c = 0) (hw : Words w al ls) (hlen : zs.length + ls.length ≤ 1000000) (hB : B ≤ w.heap.size)
    (h : ∀ v' w', Ib B w' v' (zs ++ ls) → w.grownBy w' v.ownBlock → wpList Try.prog ops Q rest (a.put o.dst v') w') : wpList Try.prog ops Q (o :: rest) a w := by
  obtain ⟨i0, hi, hz0, hz1, hz2⟩ := info_parts info2
  have go : ∀ ad : Addr, al = some ad → (∀ j u, (ls.map (Value.int .i64))[j]? = some u → w.cell? (ad.add j) = some u) → wpList Try.prog ops Q (o :: rest) a w := by
    intro ad e hN
    subst e
    refine wpList_append_own _ hgd s x 39 ho B 2 i0 (.int .i64 0) 1 8 Try.underlying39 hi hz0 hz1 hz2 rfl (by decide) v zs.length (zs.map (Value.int .i64)) hs hb ad ls.length c (ls.map (Value.int .i64)) hx (by simp) hN (by intro u hu; obtain ⟨y, _, rfl⟩ := List.mem_map.1 hu; rfl) (by unfold maxLen; omega) (by omega) hB ?_
    intro v' w' ho' hg' _
    refine h v' w' ?_ hg'
    unfold Ib
    rw [List.length_append, List.map_append]
    exact ho'
  by_cases he : ls = []
  · subst he
    cases al with
    | none =>
      have hc := hn rfl
      subst hc
      refine wpList_append_own_none hgd s x 39 ho B 2 i0 1 Try.underlying39 hi v zs.length (zs.map (Value.int .i64)) hs hb hx ?_
      exact h v w (by rw [List.append_nil]; exact hb) ⟨rfl, rfl, rfl, Nat.le_refl _, fun _ _ _ => rfl⟩
    | some ad => exact go ad rfl (fun j u hu => by simp at hu)
  · obtain ⟨b, off, rfl, hBb, nums⟩ := hw.resolve_left he
    refine go _ rfl (fun j u hu => ?_)
    obtain ⟨y, hy, rfl⟩ := (by simpa using hu : ∃ y, ls[j]? = some y ∧ Value.int .i64 y = u)
    have hj : j < ls.length := (List.getElem?_eq_some_iff.1 hy).1
    have := nums j hj
    rw [List.getD_eq_getElem?_getD, hy] at this
    rw [Addr.add_lit]
    exact this
/-- A list of the call's own, handed back. -/
def NodR (l : List Int) (w : World) (e : Ending) (w' : World) : Prop := ∃ a c, e = .returned (.slice a l.length c) ∧ (a = none → c = 0) ∧ Ib w.heap.size w' (.slice a l.length c) l ∧ Below w.heap.size w w'
theorem Ib.shape2 {B : Nat} {w : World} {v : Value} {zs : List Int} (h : Ib B w v zs) : ∃ a c, v = .slice a zs.length c ∧ (a = none → c = 0) := by
  rcases h.2 with ⟨rfl, h0⟩ | ⟨g, cap, cur, rfl, _⟩
  · exact ⟨none, 0, by rw [h0], fun _ => rfl⟩
  · exact ⟨_, cap, rfl, fun h => by cases h⟩

theorem kd_top2 {T : TD} (O : T.Ok) (x : Int) : T.kd x < ((4 : Nat) : Int) := by have := kd_top O x; omega
theorem flatMap_snoc (f : Int → List Int) (l : List Int) (y : Int) : (l ++ [y]).flatMap f = l.flatMap f ++ f y := by rw [List.flatMap_append]; simp
theorem flat_take {T : TD} (O : T.Ok) (f : Nat) (hf : f ≤ 3) (l : List Int) (h8 : l.length ≤ 8) (k : Nat) : ((l.take k).flatMap (nds T f)).length ≤ 4096 := by
  have h : ∀ m : List Int, ((m).flatMap (nds T f)).length ≤ m.length * 512 := by
    intro m
    induction m with
    | nil => simp
    | cons a m ih =>
      rw [List.flatMap_cons, List.length_append, List.length_cons, Nat.succ_mul]
      have h1 := undr_len O.bkt f a
      have h2 := npow8 hf
      have h3 := nds_len O f a
      omega
  have h1 := h (l.take k)
  have h2 : (l.take k).length ≤ 8 := by rw [List.length_take]; omega
  have : (l.take k).length * 512 ≤ 8 * 512 := Nat.mul_le_mul_right _ h2
  omega

set_option maxRecDepth 100000 in
set_option maxHeartbeats 4000000 in
theorem nodesUnder (T : TD) (mb p q : Nat) : ∀ (f : Nat) (x : Int) (w : World), f ≤ 4 → T.kd x < f → 0 ≤ T.kd x → Whole T mb p q w →
    Calls Try.prog 136 #[thg T p q T.dn T.bn x] w (NodR (nds T f x) w) := by
  intro f x w hf hk h0 h
  have O := h.ok
  rcases thg_cases (T := T) p q x with ⟨i, hi, e, hkd, ht⟩ | ⟨j, hj, e, hkd, ht⟩ | ⟨hkd, ht⟩
  · rw [ht, nds_no (by rw [← e]; exact ix_devb O hi)]
    have c1 := (h.lf i hi).cells 1 _ rfl
    rw [e] at c1
    have A1 := asLL (.pointer (some ⟨p + 2 * i, 0, none⟩)) (w.alloc (.cells #[] 2))
    have C1 := (lay w (.cells #[] 2)).cell (p := ⟨p + 2 * i, 1, none⟩) (h.lf i hi).lt
    have c1 := C1.trans c1
    have JH : Ib w.heap.size (w.alloc (.cells #[] 2)) (.slice (some ⟨w.heap.size, 0, none⟩) 0 0) [] := World.ownsRow_made _ _ _ (Nat.le_refl _) (by unfold maxLen; omega) (by simp)
    have JH := Lib.hid JH
    have LH := Lib.hid (lay w (.cells #[] 2))
    clear h ht e hkd h0 hk O C1
    go_enter Try.func136, Try.ntmps136
    go_wp2_with (at_builtin; refine wpList_append_int rfl (.tmp 13) (.tmp 19) rfl w.heap.size _ [] rfl x JH.out (by rw [World.size_alloc]; rfl) (by simp) (by rw [World.size_alloc]; omega) ?_; intro v' w3 J3 g3)
    have B3 := Lib.hid (LH.out.trans (Below.mono (JH.out.grown (by rw [World.size_alloc]; omega) _ g3) (by omega)))
    obtain ⟨a, c, rfl, hn⟩ := Ib.shape2 J3
    have G := Lib.hid (show NodR [x] w (.returned (.slice a ([] ++ [x]).length c)) w3 from ⟨a, c, rfl, hn, J3, B3.out⟩)
    clear J3 g3
    go_wp2
    go_ret
    exact G.out
  · obtain ⟨f, rfl⟩ : ∃ g, f = g + 1 := ⟨f - 1, by have := (O.bkt.each j hj).2.2.1; omega⟩
    rw [ht, nds_bkt (j := j) (by rw [← e]; exact ix_bkt O hj)]
    have IH := Lib.hid (fun y (hy : y ∈ T.L j) w' (b : Below w.heap.size w w') => nodesUnder T mb p q f y w' (by omega) (by have := kd_up O hj hy; rw [e] at this; omega) (kd_up O hj hy).1 (h.later b))
    have h8 := (O.bkt.each j hj).2.2.2.2
    have FT := Lib.hid (flat_take O f (by omega) (T.L j) h8)
    have NL := Lib.hid (fun y => show (nds T f y).length ≤ 512 from by have h1 := undr_len O.bkt f y; have h2 := npow8 (f := f) (by omega); have h3 := nds_len O f y; omega)
    have A1 := asBL (.pointer (some ⟨q + 2 * j, 0, none⟩)) (w.alloc (.cells #[] 2))
    have A2 := asBB (.pointer (some ⟨q + 2 * j, 0, none⟩)) (w.alloc (.cells #[] 2))
    obtain ⟨s, u, lo, hi, X, R⟩ := h.br j hj
    have c4 := X.cells 4 _ rfl
    obtain ⟨ra, rcap, rfl, hr⟩ := R
    unfold things at c4 hr
    rw [List.length_map] at c4
    have c4 := ((lay w (.cells #[] 2)).cell (p := ⟨q + 2 * j, 4, none⟩) X.lt).trans c4
    have LH := Lib.hid (lay w (.cells #[] 2))
    have J0 : Ib w.heap.size (w.alloc (.cells #[] 2)) (.slice (some ⟨w.heap.size, 0, none⟩) 0 0) [] := World.ownsRow_made _ _ _ (Nat.le_refl _) (by unfold maxLen; omega) (by simp)
    have J0 := Lib.hid J0
    clear X ht e hkd h0 hk h O hj
    generalize T.L j = l at *
    obtain ⟨n, hn⟩ : ∃ n, n = l.length := ⟨_, rfl⟩
    rw [← hn] at c4 h8
    have HN := Lib.hid hn
    have HR := Lib.hid hr
    clear hn hr
    go_enter Try.func136, Try.ntmps136
    go_wp2
    go_loopw [3, 29] (fun v i wr => ∃ k : Nat, k ≤ n ∧ i = .int .i64 k ∧ Ib w.heap.size wr v ((l.take k).flatMap (nds T f)) ∧ Below w.heap.size w wr) (fun _ i _ => n - (intOf i).toNat)
    case atStart => exact ⟨0, by omega, rfl, J0.out, LH.out⟩
    case round =>
      clear J0 LH c4 A1 A2
      obtain ⟨k, hk, rfl, J, hw⟩ := hrel
      have WH := Lib.hid hw
      by_cases hlt : k < n
      · have hl : k < l.length := by rw [← HN.out]; exact hlt
        obtain ⟨b, off, rfl, -, -, hRb, hc⟩ := HR.out.resolve_left (by intro e; have := congrArg List.length e; rw [List.length_map] at this; simp at this; rw [this] at hl; simp at hl)
        have d0 := hc k (thg T p q T.dn T.bn (l.getD k 0)) (by rw [List.getElem?_map, List.getElem?_eq_getElem hl, List.getD_eq_getElem?_getD, List.getElem?_eq_getElem hl]; rfl)
        have d := (hw.cell (p := ⟨b, off + k, none⟩) hRb).trans d0
        have CALL := Lib.hid (IH.out _ (getD_mem hl) wr hw)
        have TS := Lib.hid (show (l.take (k + 1)).flatMap (nds T f) = (l.take k).flatMap (nds T f) ++ nds T f (l.getD k 0) from by rw [take_snoc _ _ hl, flatMap_snoc])
        have F1 := FT.out k
        have F2 := NL.out (l.getD k 0)
        have JH := Lib.hid J
        have LE := hw.size
        clear hc d0 hw J
        generalize (l.take k).flatMap (nds T f) = zs at *
        generalize nds T f (l.getD k 0) = ns at *
        generalize thg T p q T.dn T.bn (l.getD k 0) = tv at *
        go_wp2_with fail
        refine CALL.out.mono ?_
        rintro e w3 ⟨a3, c3, rfl, hn3, J3, b3⟩
        have B3 := Lib.hid (chain WH.out b3)
        have K3 := Lib.hid (JH.out.below b3)
        have W3 := Lib.hid ((Gf2.Ib.own (w0 := wr) J3 (Nat.le_refl _)).1.words)
        have LE3 := b3.size
        have HN3 := Lib.hid hn3
        clear J3 b3 JH hn3
        go_wp2_with (at_builtin; refine wpList_append_list rfl (.tmp 33) (.tmp 35) rfl w.heap.size _ zs ns rfl K3.out a3 c3 rfl HN3.out W3.out (by omega) (by omega) ?_; intro v' w4 J4 g4)
        have B4 := Lib.hid (B3.out.grown g4 (by omega) (fun c hc => by
          rcases K3.out.2 with ⟨e, _⟩ | ⟨g, _, _, e, hg, _⟩
          · rw [e] at hc; cases hc
          · rw [e] at hc; cases hc; exact hg))
        have J4H := Lib.hid J4
        clear J4 g4
        go_roundw
        case rel => exact ⟨k + 1, by omega, by go_num, by rw [TS.out]; exact J4H.out, B4.out⟩
        case measure => simp [intOf]; omega
      · obtain rfl : k = n := by omega
        have E : l.take k = l := by rw [HN.out]; exact List.take_length
        rw [E] at J
        obtain ⟨a, c, rfl, hn⟩ := Ib.shape2 J
        have G := Lib.hid (show NodR (l.flatMap (nds T f)) w (.returned (.slice a (l.flatMap (nds T f)).length c)) wr from ⟨a, c, rfl, hn, J, WH.out⟩)
        clear J hw
        go_wp2
        go_ret
        exact G.out
  · omega
end Go.Proofs.Ytigaoimnhebegaa.Tm
