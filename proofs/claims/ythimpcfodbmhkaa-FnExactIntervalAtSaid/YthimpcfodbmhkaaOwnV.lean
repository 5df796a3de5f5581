/-
  Intervals that the call has put one behind the other: a row of the call's own, each interval's places in a block of its own.
-/
import Derived.Test.YthimpcfodbmhkaaOwnD
import Derived.Test.YthimpcfodbmhkaaAns
import Derived.Test.YthimpcfodbmhkaaDInterval
import Derived.Deep.AppendLies
namespace Go.Proofs.Ythimpcfodbmhkaa.Rd
open Go.RowKit
open Go.Proofs.Ythimpcfodbmhkaa.Sg (BxN)
set_option linter.unusedVariables false
set_option linter.unusedSimpArgs false

def cV (d : DInterval) (p : Nat × Nat) : List Value := [.int .i64 d.first, .int .i64 d.last, .slice (some ⟨p.1, 0, none⟩) d.acting.length p.2, .bool d.may]
def rowV (ds : List DInterval) (Q : List (Nat × Nat)) : List Value := (List.zipWith cV ds Q).flatten
theorem flat4 : ∀ {css : List (List Value)} {i k : Nat} {cs : List Value}, (∀ x, x ∈ css → x.length = 4) → css[i]? = some cs → k < 4 → css.flatten[i * 4 + k]? = cs[k]?
  | [], i, k, cs, _, h, _ => by simp at h
  | a :: l, 0, k, cs, hl, h, hk => by
    obtain rfl : a = cs := by simpa using h
    have := hl a List.mem_cons_self
    rw [List.flatten_cons, Nat.zero_mul, Nat.zero_add, List.getElem?_append_left (by omega)]
  | a :: l, i + 1, k, cs, hl, h, hk => by
    have h4 := hl a List.mem_cons_self
    rw [List.flatten_cons, List.getElem?_append_right (by omega), h4, show (i + 1) * 4 + k - 4 = i * 4 + k by omega]
    exact flat4 (fun x hx => hl x (List.mem_cons_of_mem _ hx)) (by simpa using h) hk
theorem rowV_at {ds : List DInterval} {Q : List (Nat × Nat)} {i k : Nat} {d : DInterval} {p : Nat × Nat} (hd : ds[i]? = some d) (hp : Q[i]? = some p) (hk : k < 4) : (rowV ds Q)[i * 4 + k]? = (cV d p)[k]? := by
  refine flat4 (fun x hx => ?_) ?_ hk
  · obtain ⟨j, hj, rfl⟩ := List.getElem_of_mem hx
    rw [List.getElem_zipWith]; rfl
  · rw [List.getElem?_zipWith, hd, hp]
theorem rowV_snoc {ds : List DInterval} {Q : List (Nat × Nat)} (h : Q.length = ds.length) (d : DInterval) (p : Nat × Nat) : rowV (ds ++ [d]) (Q ++ [p]) = rowV ds Q ++ cV d p := by
  unfold rowV; rw [List.zipWith_append h.symm]; simp
/-- One interval's places: in a block of their own, apart from the row. -/
structure ElV (B : Nat) (w : World) (v : Value) (d : DInterval) (p : Nat × Nat) : Prop where
  low : B ≤ p.1
  lt : p.1 < w.heap.size
  ne : v.ownBlock ≠ some p.1
  cap : d.acting.length ≤ p.2
  small : d.acting.length ≤ 1000000
  wf0 : (Lit.int .i64 d.first).wf = true
  wf1 : (Lit.int .i64 d.last).wf = true
  rows : Rows true B w (some ⟨p.1, 0, none⟩) d.acting
def OwnQ (B : Nat) (w : World) (v : Value) (ds : List DInterval) (Q : List (Nat × Nat)) : Prop :=
  Q.length = ds.length ∧ w.ownsRow B 38 4 v ds.length (rowV ds Q) ∧ (∀ (i : Nat) (d : DInterval) (p : Nat × Nat), ds[i]? = some d → Q[i]? = some p → ElV B w v d p) ∧ (Q.map Prod.fst).Nodup
def OwnV (B : Nat) (w : World) (v : Value) (ds : List DInterval) : Prop := ∃ Q, OwnQ B w v ds Q
theorem OwnV.nil (B : Nat) (w : World) : OwnV B w (.slice none 0 0) [] := ⟨[], rfl, World.ownsRow_nil _ _ _ _, fun i d p h => by simp at h, by simp⟩
theorem OwnV.made {B : Nat} {w : World} (hB : B ≤ w.heap.size) : OwnV B (w.alloc (.cells #[] 38)) (.slice (some ⟨w.heap.size, 0, none⟩) 0 0) [] :=
  ⟨[], rfl, World.ownsRow_made w #[] 0 hB (by unfold maxLen; omega) (by simp), fun i d p h => by simp at h, by simp⟩
theorem OwnQ.below {B : Nat} {w w' : World} {v : Value} {ds : List DInterval} {Q : List (Nat × Nat)} (h : OwnQ B w v ds Q) (b : Below w.heap.size w w') : OwnQ B w' v ds Q := by
  obtain ⟨h1, h2, h3, h4⟩ := h
  refine ⟨h1, World.ownsRow.kept (row := none) h2 ⟨b.os, b.tape, b.output, b.size, fun k hk _ => b.block k hk⟩ (by by_cases q : v.ownBlock = none; exact .inl q; exact .inr q), fun i d p hd hp => ?_, h4⟩
  have e := h3 i d p hd hp
  exact ⟨e.low, Nat.lt_of_lt_of_le e.lt b.size, e.ne, e.cap, e.small, e.wf0, e.wf1, e.rows.below b⟩
theorem OwnV.below {B : Nat} {w w' : World} {v : Value} {ds : List DInterval} (h : OwnV B w v ds) (b : Below w.heap.size w w') : OwnV B w' v ds := by
  obtain ⟨Q, h⟩ := h; exact ⟨Q, h.below b⟩
theorem OwnV.shape {B : Nat} {w : World} {v : Value} {ds : List DInterval} (h : OwnV B w v ds) : ∃ a c, v = .slice a ds.length c := by
  obtain ⟨Q, -, h, -, -⟩ := h
  rcases h.2 with ⟨rfl, h0⟩ | ⟨g, cap, cur, rfl, _⟩
  · exact ⟨none, 0, by rw [h0]⟩
  · exact ⟨_, _, rfl⟩
theorem OwnV.rows {B : Nat} {w : World} {a : Option Addr} {n c : Nat} {ds : List DInterval} (h : OwnV B w (.slice a n c) ds) : n = ds.length ∧ Rows true B w a ds := by
  obtain ⟨Q, h1, O, h3, h4⟩ := h
  have O' := O
  rcases O.2 with ⟨e, e0⟩ | ⟨g, cap, cur, e, hg, hb, k1, k2, k3, k4⟩
  · cases e; exact ⟨e0.symm, .inl (List.eq_nil_of_length_eq_zero e0)⟩
  · cases e
    refine ⟨rfl, .inr ⟨g, 0, rfl, hg, (Array.getElem?_eq_some_iff.1 hb).1, (fun _ i => O'.frozenAt i), fun i d hd => ?_⟩⟩
    have hi : i < ds.length := (List.getElem?_eq_some_iff.1 hd).1
    obtain ⟨p, hp⟩ := get_lt (show i < Q.length by omega)
    have e := h3 i d p hd hp
    refine ⟨cV d p, mk_Interval e.wf0 e.wf1 e.rows ⟨by have := e.small; omega, e.cap⟩, fun k u hu => ?_⟩
    have hk : k < 4 := (List.getElem?_eq_some_iff.1 hu).1
    have := World.ownsRow.cellAt O' (i * 4 + k) (by omega)
    rw [rowV_at hd hp hk, hu] at this
    rw [show 0 + i * Rdb.size DInterval + k = i * 4 + k from by show 0 + i * 4 + k = _; omega]
    exact this
theorem infoIV : (Try.prog.info? 38).map (fun i => (i.zero, i.size, i.bytes)) = some (some (.agg #[.int .i64 0, .int .i64 0, .slice none 0 0, .bool false]), 4, 48) := by kernel_rfl
/-- One interval put behind the others. -/
theorem wpList_append_V {wr w0 : World} {ops : Array Oper} {rest : List Oper} {o : Oper} {a : Act} {Q : Exit → Act → World → Prop} (hgd : o.guard = none) (s x : Operand)
    (ho : o.op = .call { callee := .builtin .append, args := #[s, x], argTypes := #[33, 33] }) (B : Nat) (v : Value) (ds : List DInterval) (d : DInterval) (q c : Nat) (hs : a.eval s = v) (hV : OwnV B wr v ds) (b0 : Below wr.heap.size wr w0)
    (hq : wr.heap.size ≤ q) (hq2 : q < w0.heap.size) (hc : d.acting.length ≤ c) (hsm : d.acting.length ≤ 1000000) (wf0 : (Lit.int .i64 d.first).wf = true) (wf1 : (Lit.int .i64 d.last).wf = true) (hr : Rows true B w0 (some ⟨q, 0, none⟩) d.acting)
    (hx : a.eval x = .slice (some ⟨w0.heap.size, 0, none⟩) 1 1) (hlen : ds.length ≤ 1000) (hB : B ≤ wr.heap.size)
    (h : ∀ v' w', OwnV B w' v' (ds ++ [d]) → Below B w0 w' → wpList Try.prog ops Q rest (a.put o.dst v') w') :
    wpList Try.prog ops Q (o :: rest) a (w0.alloc (.cells #[.int .i64 d.first, .int .i64 d.last, .slice (some ⟨q, 0, none⟩) d.acting.length c, .bool d.may] 38)) := by
  obtain ⟨i0, hi, hz0, hz1, hz2⟩ := info_parts infoIV
  obtain ⟨QS, q1, O, q3, q4⟩ := hV
  have hB0 : B ≤ w0.heap.size := Nat.le_trans hB b0.size
  have O0 := (show OwnQ B wr v ds QS from ⟨q1, O, q3, q4⟩).below b0
  have OL := World.ownsRow.alloc O0.2.1 (.cells #[.int .i64 d.first, .int .i64 d.last, .slice (some ⟨q, 0, none⟩) d.acting.length c, .bool d.may] 38)
  have YN := BxN.new w0 #[.int .i64 d.first, .int .i64 d.last, .slice (some ⟨q, 0, none⟩) d.acting.length c, .bool d.may] 38
  have vlt := fun k hk => (World.ownsRow.lt O k hk)
  refine wpList_append_lies _ hgd s x 33 ho B 38 i0 (.agg #[.int .i64 0, .int .i64 0, .slice none 0 0, .bool false]) 4 48 Try.underlying33 hi hz0 hz1 hz2 rfl (by decide) v ds.length (rowV ds QS) hs OL ⟨w0.heap.size, 0, none⟩ 1 1 (cV d (q, c)) hx rfl (fun j u hu => by rw [Addr.add_lit, Nat.zero_add]; exact YN.cells j u hu) (by intro u hu; simp [cV] at hu; rcases hu with rfl | rfl | rfl | rfl <;> rfl) (by omega) (by unfold maxLen; omega) (by omega) (by simp; omega) _ rfl ?_
  intro g cap w' ho' hg' hat hlt
  have GB : Below B w0 w' := ((Below.refl B w0).alloc hB0 _).grown hg' (by rw [World.size_alloc]; omega) (fun k hk => (vlt k hk).1)
  have gB : B ≤ g := by
    rcases hat with e | e
    · exact (vlt g e).1
    · rw [e, World.size_alloc]; omega
  have gne : ∀ k, k < w0.heap.size → v.ownBlock ≠ some k → g ≠ k := fun k hk hn e => by
    rcases hat with e2 | e2
    · rw [e] at e2; exact hn e2
    · rw [e, World.size_alloc] at e2; omega
  -- a block that is no row's stays
  have keep : ∀ k, k < w0.heap.size → v.ownBlock ≠ some k → w'.heap[k]? = w0.heap[k]? := fun k hk hn => by
    have e1 := hg'.block k (by rw [World.size_alloc]; omega) (fun e => hn e.symm)
    rw [e1]
    exact (lay w0 (.cells #[.int .i64 d.first, .int .i64 d.last, .slice (some ⟨q, 0, none⟩) d.acting.length c, .bool d.may] 38)).block k hk
  have rows' : ∀ k l, k < w0.heap.size → v.ownBlock ≠ some k → Rows true B w0 (some ⟨k, 0, none⟩) l → Rows true B w' (some ⟨k, 0, none⟩) (l : List Int) := fun k l hk hn r => by
    rcases r with r | ⟨b, off, e, h0, hb, hf, hcc⟩
    · exact .inl r
    · obtain ⟨rfl, rfl⟩ : k = b ∧ 0 = off := by simpa using e
      have eb := keep k hk hn
      exact .inr ⟨k, 0, rfl, h0, Nat.lt_of_lt_of_le hb GB.size, fun q i => (World.frozen?_of_block (a := ⟨k, i, none⟩) eb).trans (hf q i), fun i x hx => by
        obtain ⟨cs, r2, cc⟩ := hcc i x hx
        exact ⟨cs, r2, fun c v hv => (World.cell?_of_block (a := ⟨k, 0 + i * Rdb.size Int + c, none⟩) eb).trans (cc c v hv)⟩⟩
  refine h _ w' ⟨QS ++ [(q, c)], by simp [q1], ?_, fun i e p he hp => ?_, ?_⟩ GB
  · rw [rowV_snoc q1, List.length_append]; exact ho'
  · by_cases hi' : i < ds.length
    · rw [List.getElem?_append_left hi'] at he
      rw [List.getElem?_append_left (by omega)] at hp
      have el := O0.2.2.1 i e p he hp
      exact ⟨el.low, Nat.lt_of_lt_of_le el.lt GB.size, (by show some g ≠ some p.1; intro z; exact gne p.1 el.lt el.ne (Option.some.inj z)), el.cap, el.small, el.wf0, el.wf1, rows' p.1 _ el.lt el.ne el.rows⟩
    · have hi2 : i < ds.length + 1 := by have := (List.getElem?_eq_some_iff.1 he).1; simpa using this
      obtain rfl : i = ds.length := by omega
      rw [List.getElem?_append_right (by omega)] at he
      rw [List.getElem?_append_right (by omega), q1] at hp
      simp at he hp
      subst he; subst hp
      have nq : v.ownBlock ≠ some q := fun e => by have := (vlt q e).2; omega
      exact ⟨Nat.le_trans hB hq, Nat.lt_of_lt_of_le hq2 GB.size, (by show some g ≠ some q; intro z; exact gne q hq2 nq (Option.some.inj z)), hc, hsm, wf0, wf1, rows' q _ hq2 nq hr⟩
  · rw [List.map_append, List.nodup_append]
    refine ⟨q4, by simp, fun x hx y hy e => ?_⟩
    obtain ⟨p, hp, rfl⟩ := List.mem_map.1 hx
    obtain ⟨i, hi', rfl⟩ := List.getElem_of_mem hp
    have el := q3 i ds[i] _ (List.getElem?_eq_getElem (by omega)) (List.getElem?_eq_getElem hi')
    simp at hy
    have := el.lt
    omega
theorem wpList_append_Vb {wr w0 : World} {ops : Array Oper} {rest : List Oper} {o : Oper} {a : Act} {Q : Exit → Act → World → Prop} (hgd : o.guard = none) (s x : Operand)
    (ho : o.op = .call { callee := .builtin .append, args := #[s, x], argTypes := #[33, 33] }) (B : Nat) (v : Value) (ds : List DInterval) (d : DInterval) (mb : Bool) (hmb : mb = d.may) (q c : Nat) (hs : a.eval s = v) (hV : OwnV B wr v ds) (b0 : Below wr.heap.size wr w0)
    (hq : wr.heap.size ≤ q) (hq2 : q < w0.heap.size) (hc : d.acting.length ≤ c) (hsm : d.acting.length ≤ 1000000) (wf0 : (Lit.int .i64 d.first).wf = true) (wf1 : (Lit.int .i64 d.last).wf = true) (hr : Rows true B w0 (some ⟨q, 0, none⟩) d.acting)
    (hx : a.eval x = .slice (some ⟨w0.heap.size, 0, none⟩) 1 1) (hlen : ds.length ≤ 1000) (hB : B ≤ wr.heap.size)
    (h : ∀ v' w', OwnV B w' v' (ds ++ [d]) → Below B w0 w' → wpList Try.prog ops Q rest (a.put o.dst v') w') :
    wpList Try.prog ops Q (o :: rest) a (w0.alloc (.cells #[.int .i64 d.first, .int .i64 d.last, .slice (some ⟨q, 0, none⟩) d.acting.length c, .bool mb] 38)) := by
  subst hmb
  exact wpList_append_V hgd s x ho B v ds d q c hs hV b0 hq hq2 hc hsm wf0 wf1 hr hx hlen hB h
end Go.Proofs.Ythimpcfodbmhkaa.Rd
