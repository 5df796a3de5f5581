/-
  Marks laid into intervals that the call has put together, and found again.
-/
import Derived.Test.YthimpcfodbmhkaaOwnV
import Derived.Test.YthimpcfodbmhkaaMInterval
namespace Go.Proofs.Ythimpcfodbmhkaa.Rd
open Go.RowKit Go.ChangeShapes Go.WideShapes
open Go.Proofs.Ythimpcfodbmhkaa.Sg (BxN)
set_option linter.unusedVariables false
set_option linter.unusedSimpArgs false

def mkB (x : Int) : Bool := x % 3 == 0
def mkD (K : Int) (d : DInterval) : DInterval := ⟨K, K + 1, (List.range d.acting.length).map (mkInt (K + 1 + 1)), mkB (K + 1 + 1 + d.acting.length)⟩
def mkN (K : Int) (d : DInterval) : Int := K + 1 + 1 + d.acting.length + 1
def mkL : Int → List DInterval → List DInterval
  | _, [] => []
  | K, d :: l => mkD K d :: mkL (mkN K d) l
def mkE : Int → List DInterval → Int
  | K, [] => K
  | K, d :: l => mkE (mkN K d) l
theorem mkL_len : ∀ (K : Int) (l : List DInterval), (mkL K l).length = l.length
  | _, [] => rfl
  | K, d :: l => by show (mkL _ l).length + 1 = _; rw [mkL_len]; rfl
theorem mkE_snoc : ∀ (K : Int) (l : List DInterval) (d : DInterval), mkE K (l ++ [d]) = mkN (mkE K l) d
  | _, [], _ => rfl
  | K, a :: l, d => mkE_snoc (mkN K a) l d
theorem mkL_snoc : ∀ (K : Int) (l : List DInterval) (d : DInterval), mkL K (l ++ [d]) = mkL K l ++ [mkD (mkE K l) d]
  | _, [], _ => rfl
  | K, a :: l, d => congrArg (mkD K a :: ·) (mkL_snoc (mkN K a) l d)
theorem mkE_take {l : List DInterval} {k : Nat} {d : DInterval} (h : l[k]? = some d) (K : Int) : mkE K (l.take (k + 1)) = mkN (mkE K (l.take k)) d := by
  rw [List.take_add_one, h]; exact mkE_snoc K _ d
theorem mkL_at {l : List DInterval} {k : Nat} {d : DInterval} (h : l[k]? = some d) (K : Int) : (mkL K l)[k]? = some (mkD (mkE K (l.take k)) d) := by
  induction l generalizing k K with
  | nil => simp at h
  | cons a l ih =>
    cases k with
    | zero => simp at h; subst h; rfl
    | succ k => exact ih (by simpa using h) (mkN K a)
theorem mkE_bnd : ∀ (K : Int) (l : List DInterval), K ≤ mkE K l ∧ mkE K l ≤ K + 3 * l.length + (l.map Rdb.sz).sum
  | K, [] => ⟨Int.le_refl _, by show K ≤ _; simp⟩
  | K, d :: l => by
    have h := mkE_bnd (mkN K d) l
    have e : mkN K d = K + 1 + 1 + d.acting.length + 1 := rfl
    have s : Rdb.sz d = Rdb.sz d.acting := rfl
    have s2 := sz_len d.acting
    show K ≤ mkE (mkN K d) l ∧ mkE (mkN K d) l ≤ _
    rw [List.map_cons, List.sum_cons, List.length_cons]
    omega
theorem mkE_take_bnd (l : List DInterval) (k : Nat) (K : Int) : K ≤ mkE K (l.take k) ∧ mkE K (l.take k) ≤ K + 4 * Rdb.sz l := by
  have h := mkE_bnd K (l.take k)
  have t := tot_le l k
  have n := sz_len l
  have t2 : tot l k = l.length + ((l.take k).map Rdb.sz).sum := rfl
  have t3 : (l.take k).length ≤ l.length := by rw [List.length_take]; omega
  omega
/-- The first j marked. -/
def mkJ (l : List DInterval) (j : Nat) : List DInterval := mkL 1 (l.take j) ++ l.drop j
theorem mkJ_zero (l : List DInterval) : mkJ l 0 = l := rfl
theorem mkJ_all (l : List DInterval) : mkJ l l.length = mkL 1 l := by unfold mkJ; rw [List.take_length, List.drop_length, List.append_nil]
theorem mkJ_len {l : List DInterval} {j : Nat} (h : j ≤ l.length) : (mkJ l j).length = l.length := by unfold mkJ; rw [List.length_append, mkL_len, List.length_take, List.length_drop]; omega
theorem mkJ_at {l : List DInterval} {j : Nat} {d : DInterval} (h : l[j]? = some d) : (mkJ l j)[j]? = some d := by
  have hj := (List.getElem?_eq_some_iff.1 h).1
  unfold mkJ
  rw [List.getElem?_append_right (by rw [mkL_len, List.length_take]; omega), mkL_len, List.length_take, List.getElem?_drop, show j + (j - min j l.length) = j by omega]; exact h
theorem mkJ_succ {l : List DInterval} {j : Nat} {d : DInterval} (h : l[j]? = some d) : mkJ l (j + 1) = (mkJ l j).set j (mkD (mkE 1 (l.take j)) d) := by
  have hj := (List.getElem?_eq_some_iff.1 h).1
  have ej : l[j] = d := by rw [List.getElem?_eq_getElem hj] at h; exact Option.some.inj h
  unfold mkJ
  rw [List.set_append_right _ _ (by rw [mkL_len, List.length_take]; omega), mkL_len, List.length_take, show j - min j l.length = 0 by omega, List.drop_eq_getElem_cons hj, List.set_cons_zero, List.take_add_one, h]
  show mkL 1 (l.take j ++ [d]) ++ _ = _
  rw [mkL_snoc]; simp
theorem rowV_len {ds : List DInterval} {Q : List (Nat × Nat)} (h : Q.length = ds.length) : (rowV ds Q).length = ds.length * 4 := by
  induction ds generalizing Q with
  | nil => rfl
  | cons d ds ih =>
    cases Q with
    | nil => simp at h
    | cons p Q =>
      show (cV d p ++ rowV ds Q).length = _
      rw [List.length_append, ih (by simpa using h), List.length_cons]
      show 4 + _ = _
      omega
theorem rowV_set {ds : List DInterval} {Q : List (Nat × Nat)} {j : Nat} {d : DInterval} {p : Nat × Nat} {x0 x1 : Int} {l : List Int} {m : Bool} (hq : Q.length = ds.length) (hd : ds[j]? = some d) (hp : Q[j]? = some p) (hl : l.length = d.acting.length) :
    (((rowV ds Q).set (j * 4) (.int .i64 x0)).set (j * 4 + 1) (.int .i64 x1)).set (j * 4 + 3) (.bool m) = rowV (ds.set j ⟨x0, x1, l, m⟩) Q := by
  have hj := (List.getElem?_eq_some_iff.1 hd).1
  have hL := rowV_len hq
  have hL2 := rowV_len (ds := ds.set j ⟨x0, x1, l, m⟩) (Q := Q) (by rw [List.length_set]; exact hq)
  rw [List.length_set] at hL2
  refine List.ext_getElem? fun i => ?_
  by_cases hi : i < ds.length * 4
  · obtain ⟨e, he⟩ := get_lt (show i / 4 < ds.length by omega)
    obtain ⟨pe, hpe⟩ := get_lt (show i / 4 < Q.length by omega)
    have hk : i % 4 < 4 := Nat.mod_lt _ (by omega)
    have ei : i / 4 * 4 + i % 4 = i := by omega
    have r0 := rowV_at he hpe hk
    rw [ei] at r0
    by_cases q : i / 4 = j
    · have hd' : (ds.set j ⟨x0, x1, l, m⟩)[i / 4]? = some ⟨x0, x1, l, m⟩ := by rw [q, List.getElem?_set, if_pos rfl, if_pos hj]
      have r1 := rowV_at hd' hpe hk
      rw [ei] at r1
      rw [r1]
      have ed : e = d := by rw [q, hd] at he; exact (Option.some.inj he).symm
      subst ed
      have lm : ∀ x : Nat, x < 4 → i % 4 = x → i = j * 4 + x := fun x _ hx => by omega
      rcases (by omega : i % 4 = 0 ∨ i % 4 = 1 ∨ i % 4 = 2 ∨ i % 4 = 3) with h | h | h | h
      · have := lm 0 (by omega) h
        rw [h, List.getElem?_set, if_neg (by omega), List.getElem?_set, if_neg (by omega), List.getElem?_set, if_pos (by omega), if_pos (by omega)]; rfl
      · have := lm 1 (by omega) h
        rw [h, List.getElem?_set, if_neg (by omega), List.getElem?_set, if_pos (by omega), if_pos (by rw [List.length_set]; omega)]; rfl
      · have := lm 2 (by omega) h
        rw [List.getElem?_set, if_neg (by omega), List.getElem?_set, if_neg (by omega), List.getElem?_set, if_neg (by omega), r0, h]
        show some (Value.slice _ _ _) = some (Value.slice _ _ _)
        rw [hl]
      · have := lm 3 (by omega) h
        rw [h, List.getElem?_set, if_pos (by omega), if_pos (by rw [List.length_set, List.length_set]; omega)]; rfl
    · have hd' : (ds.set j ⟨x0, x1, l, m⟩)[i / 4]? = some e := by rw [List.getElem?_set, if_neg (fun z => q z.symm)]; exact he
      have r1 := rowV_at hd' hpe hk
      rw [ei] at r1
      rw [List.getElem?_set, if_neg (by omega), List.getElem?_set, if_neg (by omega), List.getElem?_set, if_neg (by omega), r0, r1]
  · rw [List.getElem?_eq_none (by simp only [List.length_set]; omega), List.getElem?_eq_none (by omega)]
theorem rows_blk {B k : Nat} {w w' : World} {l : List Int} (eb : w'.heap[k]? = w.heap[k]?) (hz : w.heap.size ≤ w'.heap.size) (r : Rows true B w (some ⟨k, 0, none⟩) l) : Rows true B w' (some ⟨k, 0, none⟩) l := by
  rcases r with r | ⟨b, off, e, h0, hb, hf, hcc⟩
  · exact .inl r
  · obtain ⟨rfl, rfl⟩ : k = b ∧ 0 = off := by simpa using e
    exact .inr ⟨k, 0, rfl, h0, Nat.lt_of_lt_of_le hb hz, fun q i => (World.frozen?_of_block (a := ⟨k, i, none⟩) eb).trans (hf q i), fun i x hx => by
      obtain ⟨cs, r2, cc⟩ := hcc i x hx
      exact ⟨cs, r2, fun c v hv => (World.cell?_of_block (a := ⟨k, 0 + i * Rdb.size Int + c, none⟩) eb).trans (cc c v hv)⟩⟩
theorem setCell_blk (w : World) (p : Addr) (u : Value) {k : Nat} (h : k ≠ p.block) : (w.setCell p u).heap[k]? = w.heap[k]? := heap_setCell_other w p k u h
/-- One interval marked. -/
theorem OwnQ.mark {B g c : Nat} {w w3 : World} {ds : List DInterval} {Q : List (Nat × Nat)} {j : Nat} {d : DInterval} {p : Nat × Nat} {x0 x1 : Int} {l : List Int} {m : Bool} (h : OwnQ B w (.slice (some ⟨g, 0, none⟩) ds.length c) ds Q) (hd : ds[j]? = some d) (hp : Q[j]? = some p) (hl : l.length = d.acting.length)
    (hw0 : (Lit.int .i64 x0).wf = true) (hw1 : (Lit.int .i64 x1).wf = true) (hc : Chg p.1 (p.1 + 1) ((w.setCell ⟨g, j * 4, none⟩ (.int .i64 x0)).setCell ⟨g, j * 4 + 1, none⟩ (.int .i64 x1)) w3) (hr : Rows true B w3 (some ⟨p.1, 0, none⟩) l) :
    OwnQ B (w3.setCell ⟨g, j * 4 + 3, none⟩ (.bool m)) (.slice (some ⟨g, 0, none⟩) ds.length c) (ds.set j ⟨x0, x1, l, m⟩) Q := by
  obtain ⟨h1, O, h3, h4⟩ := h
  have ej := h3 j d p hd hp
  have gne : ∀ (i : Nat) e pe, ds[i]? = some e → Q[i]? = some pe → pe.1 ≠ g := fun i e pe he hpe z => (h3 i e pe he hpe).ne (by show some g = some pe.1; rw [z])
  have g0 := gne j d p hd hp
  have S1 := (World.ownsRow.stored O (j * 4) (.int .i64 x0)).1
  have S2 := (World.ownsRow.stored S1 (j * 4 + 1) (.int .i64 x1)).1
  have S3 := World.ownsRow.kept (row := some p.1) S2 ⟨hc.os, hc.tape, hc.output, hc.size, fun k hk hn => hc.block k (by
    by_cases z : k < p.1
    · exact .inl z
    · right
      have : k ≠ p.1 := fun e => hn (by rw [e])
      omega) hk⟩ (.inr (by show some g ≠ some p.1; intro z; exact g0 (Option.some.inj z).symm))
  have S4 := (World.ownsRow.stored S3 (j * 4 + 3) (.bool m)).1
  rw [rowV_set h1 hd hp hl] at S4
  have sz : w.heap.size ≤ (w3.setCell ⟨g, j * 4 + 3, none⟩ (.bool m)).heap.size := by have := hc.size; simpa using this
  refine ⟨by rw [List.length_set]; exact h1, by rw [List.length_set]; exact S4, fun i e pe he hpe => ?_, h4⟩
  by_cases q : i = j
  · subst q
    rw [hp] at hpe
    obtain rfl := Option.some.inj hpe
    have hj := (List.getElem?_eq_some_iff.1 hd).1
    rw [List.getElem?_set, if_pos rfl, if_pos hj] at he
    obtain rfl := Option.some.inj he
    exact ⟨ej.low, Nat.lt_of_lt_of_le ej.lt sz, ej.ne, by show l.length ≤ _; rw [hl]; exact ej.cap, by show l.length ≤ _; rw [hl]; exact ej.small, hw0, hw1, rows_blk (setCell_blk _ _ _ (by show p.1 ≠ g; exact g0)) (by simp) hr⟩
  · rw [List.getElem?_set, if_neg (fun z => q z.symm)] at he
    have ei := h3 i e pe he hpe
    have gi := gne i e pe he hpe
    have qi : pe.1 ≠ p.1 := fun z => by
      have hi : i < Q.length := (List.getElem?_eq_some_iff.1 hpe).1
      have hj : j < Q.length := (List.getElem?_eq_some_iff.1 hp).1
      have e1 : (Q.map Prod.fst)[i]? = some pe.1 := by rw [List.getElem?_map, hpe]; rfl
      have e2 : (Q.map Prod.fst)[j]? = some p.1 := by rw [List.getElem?_map, hp]; rfl
      have a1 := (List.getElem?_eq_some_iff.1 e1).2
      have a2 := (List.getElem?_eq_some_iff.1 e2).2
      rcases Nat.lt_or_gt_of_ne q with lt | gt
      · exact List.pairwise_iff_getElem.1 h4 i j (by simpa using hi) (by simpa using hj) lt (by rw [a1, a2, z])
      · exact List.pairwise_iff_getElem.1 h4 j i (by simpa using hj) (by simpa using hi) gt (by rw [a1, a2, z])
    refine ⟨ei.low, Nat.lt_of_lt_of_le ei.lt sz, ei.ne, ei.cap, ei.small, ei.wf0, ei.wf1, rows_blk ?_ sz ei.rows⟩
    rw [setCell_blk _ _ _ (by show pe.1 ≠ g; exact gi), hc.block pe.1 (by omega) (by simpa using ei.lt), setCell_blk _ _ _ (by show pe.1 ≠ g; exact gi), setCell_blk _ _ _ (by show pe.1 ≠ g; exact gi)]
end Go.Proofs.Ythimpcfodbmhkaa.Rd
