/-
  Lists of flat data (heads, last requests, entries, chunks) of the call's own: put behind one another, a front and a rest of them.
-/
import Derived.Test.YtbckdfoapmjilaaGreatDoorDPgState
import Derived.Test.YtbckdfoapmjilaaGreatDoorRdI
import Derived.Laws.AppendOwnNone
import Derived.Laws.OwnMore
import Derived.Lib.SliceRun
namespace Go.Proofs.YtbckdfoapmjilaaGreatDoor.Rd
open Go.RowKit Go.ChangeShapes Go.WideShapes
open Go.Proofs.YtbckdfoapmjilaaGreatDoor.Sg (BxN)
set_option linter.unusedVariables false
set_option linter.unusedSimpArgs false

def One {α : Type} [Rdb α] (lo hi : Nat) (w : World) (a : Option Addr) (l : List α) : Prop :=
  l = [] ∨ ∃ q, a = some ⟨q, 0, none⟩ ∧ Rows true lo w (some ⟨q, 0, none⟩) l ∧ lo ≤ q ∧ q < hi
theorem One.rows {α : Type} [Rdb α] {lo hi : Nat} {w : World} {a : Option Addr} {l : List α} (h : One lo hi w a l) : Rows true lo w a l := by
  rcases h with h | ⟨q, rfl, r, _, _⟩
  · exact .inl h
  · exact r
/-- Data that cells spell out. -/
class Enc (α : Type) [Rdb α] where
  enc : α → List Value
  wf : α → Prop
  iff : ∀ {fr : Bool} {lo : Nat} {w : World} {cs : List Value} {d : α}, Rdb.rd fr lo w cs d ↔ cs = enc d ∧ wf d
  len : ∀ d : α, (enc d).length = Rdb.size α
  pos : 0 < Rdb.size α
  one : ∀ (d : α) (u : Value), u ∈ enc d → u.oneCell' = true
instance : Enc ByteArray where
  enc := fun s => [.string s]
  wf := fun s => s.size ≤ 9223372036854775807
  iff := Iff.rfl
  len := fun _ => rfl
  pos := Nat.one_pos
  one := fun d u h => by
    obtain rfl : u = .string d := by simpa using h
    rfl
instance : Enc DHead where
  enc := fun x => [.string x.name, .int .i64 x.ver.epoch, .int .i64 x.ver.seq, .int .i64 x.size, .int .i64 x.sum]
  wf := fun x => x.name.size ≤ 9223372036854775807 ∧ (Lit.int .i64 x.ver.epoch).wf = true ∧ (Lit.int .i64 x.ver.seq).wf = true ∧ (Lit.int .i64 x.size).wf = true ∧ (Lit.int .i64 x.sum).wf = true
  iff := ⟨fun h => shape_Head h, fun ⟨e, f0, f1, f2, f3, f4⟩ => by rw [e]; exact mk_Head f0 f1 f2 f3 f4⟩
  len := fun _ => rfl
  pos := Nat.succ_pos _
  one := fun d u h => by
    simp only [List.mem_cons, List.mem_nil_iff, or_false] at h
    rcases h with rfl | rfl | rfl | rfl | rfl <;> rfl
instance : Enc DLast where
  enc := fun x => [.int .i64 x.client, .int .i64 x.no, .int .i64 x.ver.epoch, .int .i64 x.ver.seq]
  wf := fun x => (Lit.int .i64 x.client).wf = true ∧ (Lit.int .i64 x.no).wf = true ∧ (Lit.int .i64 x.ver.epoch).wf = true ∧ (Lit.int .i64 x.ver.seq).wf = true
  iff := ⟨fun h => shape_Last h, fun ⟨e, f0, f1, f2, f3⟩ => by rw [e]; exact mk_Last f0 f1 f2 f3⟩
  len := fun _ => rfl
  pos := Nat.succ_pos _
  one := fun d u h => by
    simp only [List.mem_cons, List.mem_nil_iff, or_false] at h
    rcases h with rfl | rfl | rfl | rfl <;> rfl
instance : Enc DEntry where
  enc := fun x => [.int .i64 x.ver.epoch, .int .i64 x.ver.seq, .int .i64 x.prior.epoch, .int .i64 x.prior.seq, .string x.name, .bool x.gone, .int .i64 x.size, .int .i64 x.sum, .int .i64 x.req.client, .int .i64 x.req.no]
  wf := fun x => (Lit.int .i64 x.ver.epoch).wf = true ∧ (Lit.int .i64 x.ver.seq).wf = true ∧ (Lit.int .i64 x.prior.epoch).wf = true ∧ (Lit.int .i64 x.prior.seq).wf = true ∧ x.name.size ≤ 9223372036854775807 ∧ (Lit.int .i64 x.size).wf = true ∧ (Lit.int .i64 x.sum).wf = true ∧ (Lit.int .i64 x.req.client).wf = true ∧ (Lit.int .i64 x.req.no).wf = true
  iff := ⟨fun h => shape_Entry h, fun ⟨e, f0, f1, f2, f3, f4, f5, f6, f7, f8⟩ => by rw [e]; exact mk_Entry f0 f1 f2 f3 f4 f5 f6 f7 f8⟩
  len := fun _ => rfl
  pos := Nat.succ_pos _
  one := fun d u h => by
    simp only [List.mem_cons, List.mem_nil_iff, or_false] at h
    rcases h with rfl | rfl | rfl | rfl | rfl | rfl | rfl | rfl | rfl | rfl <;> rfl
instance : Enc DChunk where
  enc := fun x => [.string x.name, .int .i64 x.ver.epoch, .int .i64 x.ver.seq, .int .i64 x.pos, .int .i64 x.sum, .string x.bytes]
  wf := fun x => x.name.size ≤ 9223372036854775807 ∧ (Lit.int .i64 x.ver.epoch).wf = true ∧ (Lit.int .i64 x.ver.seq).wf = true ∧ (Lit.int .i64 x.pos).wf = true ∧ (Lit.int .i64 x.sum).wf = true ∧ x.bytes.size ≤ 9223372036854775807
  iff := ⟨fun h => shape_Chunk h, fun ⟨e, f0, f1, f2, f3, f4, f5⟩ => by rw [e]; exact mk_Chunk f0 f1 f2 f3 f4 f5⟩
  len := fun _ => rfl
  pos := Nat.succ_pos _
  one := fun d u h => by
    simp only [List.mem_cons, List.mem_nil_iff, or_false] at h
    rcases h with rfl | rfl | rfl | rfl | rfl | rfl <;> rfl
def encs {α : Type} [Rdb α] [Enc α] (l : List α) : List Value := l.flatMap Enc.enc
theorem encs_len {α : Type} [Rdb α] [Enc α] : ∀ l : List α, (encs l).length = l.length * Rdb.size α
  | [] => by simp [encs]
  | x :: l => by
    have e : encs (x :: l) = Enc.enc x ++ encs l := by simp [encs]
    rw [e, List.length_append, Enc.len, encs_len l, List.length_cons, Nat.succ_mul]; omega
theorem encs_at {α : Type} [Rdb α] [Enc α] : ∀ {l : List α} {i : Nat} {x : α} {c : Nat} {v : Value}, l[i]? = some x → (Enc.enc x)[c]? = some v → (encs l)[i * Rdb.size α + c]? = some v
  | [], i, x, c, v, h, _ => by simp at h
  | y :: l, 0, x, c, v, h, hv => by
    have e : encs (y :: l) = Enc.enc y ++ encs l := by simp [encs]
    obtain rfl : y = x := by simpa using h
    have hc := (List.getElem?_eq_some_iff.1 hv).1
    rw [e, Nat.zero_mul, Nat.zero_add, List.getElem?_append_left hc]; exact hv
  | y :: l, i + 1, x, c, v, h, hv => by
    have e : encs (y :: l) = Enc.enc y ++ encs l := by simp [encs]
    have h' : l[i]? = some x := by simpa using h
    have := encs_at h' hv
    rw [e, Nat.succ_mul, List.getElem?_append_right (by rw [Enc.len]; omega), Enc.len]
    rw [show i * Rdb.size α + Rdb.size α + c - Rdb.size α = i * Rdb.size α + c by omega]; exact this
theorem encs_mem {α : Type} [Rdb α] [Enc α] {l : List α} {u : Value} (h : u ∈ encs l) : u.oneCell' = true := by
  obtain ⟨x, _, hu⟩ := List.mem_flatMap.1 h
  exact Enc.one x u hu
theorem encs_app {α : Type} [Rdb α] [Enc α] (a b : List α) : encs (a ++ b) = encs a ++ encs b := by simp [encs]
/-- What is read at an index of the encoding. -/
theorem encs_get {α : Type} [Rdb α] [Enc α] {l : List α} {j : Nat} {u : Value} (h : (encs l)[j]? = some u) : ∃ i x c, j = i * Rdb.size α + c ∧ l[i]? = some x ∧ (Enc.enc x)[c]? = some u := by
  have hj := (List.getElem?_eq_some_iff.1 h).1
  rw [encs_len] at hj
  have hp := Enc.pos (α := α)
  have hi : j / Rdb.size α < l.length := Nat.div_lt_of_lt_mul (by rw [Nat.mul_comm]; exact hj)
  have hm : j % Rdb.size α < (Enc.enc l[j / Rdb.size α]).length := by rw [Enc.len]; exact Nat.mod_lt _ hp
  have e : j / Rdb.size α * Rdb.size α + j % Rdb.size α = j := by rw [Nat.mul_comm]; exact Nat.div_add_mod _ _
  have := encs_at (List.getElem?_eq_getElem hi) (List.getElem?_eq_getElem hm)
  rw [e, h] at this
  exact ⟨_, _, _, e.symm, List.getElem?_eq_getElem hi, by rw [List.getElem?_eq_getElem hm]; exact this.symm⟩
/-- A list of the call's own, from block B on. -/
def OwnL {α : Type} [Rdb α] [Enc α] (E : TypeId) (B : Nat) (w : World) (v : Value) (l : List α) : Prop := w.ownsRow B E (Rdb.size α) v l.length (encs l) ∧ ∀ x, x ∈ l → Enc.wf x
theorem OwnL.nil {α : Type} [Rdb α] [Enc α] (E : TypeId) (B : Nat) (w : World) : OwnL E B w (.slice none 0 0) ([] : List α) := ⟨World.ownsRow_nil _ _ _ _, fun _ h => by simp at h⟩
theorem OwnL.made {α : Type} [Rdb α] [Enc α] (E : TypeId) (B : Nat) (w : World) (hB : B ≤ w.heap.size) : OwnL E B (w.alloc (.cells #[] E)) (.slice (some ⟨w.heap.size, 0, none⟩) 0 0) ([] : List α) :=
  ⟨World.ownsRow_made _ #[] 0 hB (by unfold maxLen; omega) (by simp), fun _ h => by simp at h⟩
theorem OwnL.shape {α : Type} [Rdb α] [Enc α] {E : TypeId} {B : Nat} {w : World} {v : Value} {l : List α} (h : OwnL E B w v l) :
    ∃ a c, v = .slice a l.length c ∧ l.length ≤ c ∧ One B w.heap.size w a l ∧ (v.ownBlock = a.map Addr.block) := by
  rcases h.1.2 with ⟨rfl, h0⟩ | ⟨g, cap, cur, rfl, hb, hg, hnc, _⟩
  · exact ⟨none, 0, by rw [h0], by omega, .inl (List.length_eq_zero_iff.1 h0), rfl⟩
  · have hlt : g < w.heap.size := by
      rcases Nat.lt_or_ge g w.heap.size with q | q
      · exact q
      · rw [Array.getElem?_eq_none q] at hg; cases hg
    refine ⟨_, cap, rfl, hnc, .inr ⟨g, rfl, .inr ⟨g, 0, rfl, hb, hlt, fun _ i => h.1.frozenAt i, fun i x hx => ?_⟩, hb, hlt⟩, rfl⟩
    refine ⟨Enc.enc x, Enc.iff.2 ⟨rfl, h.2 x (List.mem_of_getElem? hx)⟩, fun c v hv => ?_⟩
    have hi := (List.getElem?_eq_some_iff.1 hx).1
    have hc := (List.getElem?_eq_some_iff.1 hv).1
    rw [Enc.len] at hc
    have hb2 : i * Rdb.size α + Rdb.size α ≤ l.length * Rdb.size α := by
      have : (i + 1) * Rdb.size α ≤ l.length * Rdb.size α := Nat.mul_le_mul_right _ hi
      rw [Nat.succ_mul] at this; exact this
    rw [Nat.zero_add, h.1.cellAt _ (by omega)]
    exact encs_at hx hv
theorem rows_wfL {α : Type} [Rdb α] [Enc α] {fr : Bool} {lo : Nat} {w : World} {a : Option Addr} {l : List α} (h : Rows fr lo w a l) : ∀ x, x ∈ l → Enc.wf x := by
  intro x hx
  obtain ⟨i, hi, rfl⟩ := List.getElem_of_mem hx
  rcases h with h | ⟨b, off, _, _, _, _, hc⟩
  · subst h; simp at hi
  · obtain ⟨cs, r, _⟩ := hc i _ (List.getElem?_eq_getElem hi)
    exact (Enc.iff.1 r).2
theorem run_append_own_noneC {P : Program} {w : World} (base : Nat) (t ty e : TypeId) (i : TypeInfo) (size : Nat) (ht : P.underlying t = some (.slice e)) (hi : P.info? e = some i)
    (v : Value) (n c : Nat) (xs : List Value) (hown : w.ownsRow base e size v n xs) :
    (Builtin.append_ #[t, t] ty #[v, .slice none 0 c]).run P w = .ok v w := by
  rcases hown.2 with ⟨rfl, rfl⟩ | ⟨g, cap, cur, rfl, _, _, hnc, _⟩
  · simp [Builtin.append_, run_underlying ht, sizeOf, typeInfo, hi, Builtin.lenOf, Builtin.firstCells]
  · simp [Builtin.append_, run_underlying ht, sizeOf, typeInfo, hi, Builtin.lenOf, Builtin.firstCells, hnc, storeCells]
theorem wpList_append_own_noneC {P : Program} {w : World} {ops : Array Oper} {rest : List Oper} {o : Oper} {a : Act} {Q : Exit → Act → World → Prop} (hgd : o.guard = none) (s x : Operand) (t : TypeId)
    (ho : o.op = .call { callee := .builtin .append, args := #[s, x], argTypes := #[t, t] })
    (base : Nat) (e : TypeId) (i : TypeInfo) (size : Nat) (ht : P.underlying t = some (.slice e)) (hi : P.info? e = some i)
    (v : Value) (n c : Nat) (xs : List Value) (hs : a.eval s = v) (hown : w.ownsRow base e size v n xs) (hx : a.eval x = .slice none 0 c)
    (h : wpList P ops Q rest (a.put o.dst v) w) : wpList P ops Q (o :: rest) a w := by
  refine wpList_plain hgd fun K hK => ?_
  have hrun := run_append_own_noneC (P := P) (w := w) base t o.type e i size ht hi v n c xs hown
  unfold Oper.wp
  simp [execOp, ho, resolve, invoke, builtin, hs, hx, hrun, Result.andThen]
  exact hK _ _ h
/-- A list put behind one of the call's own. -/
theorem wpList_append_F {α : Type} [Rdb α] [Enc α] {w : World} {ops : Array Oper} {rest : List Oper} {o : Oper} {a : Act} {Q : Exit → Act → World → Prop} (hgd : o.guard = none) (s x : Operand) (T E : TypeId) (z : Value) (bytes : Nat)
    (ho : o.op = .call { callee := .builtin .append, args := #[s, x], argTypes := #[T, T] }) (hT : Tryz.prog.underlying T = some (.slice E)) (hI : (Tryz.prog.info? E).map (fun i => (i.zero, i.size, i.bytes)) = some (some z, Rdb.size α, bytes)) (hzs : z.cells.size = Rdb.size α) (hby : bytes ≤ 4096)
    (B : Nat) (v : Value) (l ls : List α) (hs : a.eval s = v) (hb : OwnL E B w v l) (al : Option Addr) (c : Nat) {fr : Bool} {lo : Nat} (hx : a.eval x = .slice al ls.length c) (hw : Rows fr lo w al ls) (hlen : l.length + ls.length ≤ 1000000) (hB : B ≤ w.heap.size)
    (h : ∀ v' w', OwnL E B w' v' (l ++ ls) → w.grownBy w' v.ownBlock → wpList Tryz.prog ops Q rest (a.put o.dst v') w') : wpList Tryz.prog ops Q (o :: rest) a w := by
  obtain ⟨i0, hi, hz0, hz1, hz2⟩ := info_parts hI
  have wfs : ∀ x, x ∈ l ++ ls → Enc.wf x := fun x hx => by
    rcases List.mem_append.1 hx with q | q
    · exact hb.2 x q
    · exact rows_wfL hw x q
  have go : ∀ ad : Addr, al = some ad → (∀ j u, (encs ls)[j]? = some u → w.cell? (ad.add j) = some u) → wpList Tryz.prog ops Q (o :: rest) a w := by
    intro ad e hN
    subst e
    refine wpList_append_own _ hgd s x T ho B E i0 z (Rdb.size α) bytes hT hi hz0 hz1 hz2 hzs Enc.pos v l.length (encs l) hs hb.1 ad ls.length c (encs ls) hx (encs_len ls) hN (fun u hu => encs_mem hu) (by unfold maxLen; omega) (by
      have : (l.length + ls.length) * bytes ≤ 1000000 * 4096 := Nat.mul_le_mul hlen hby
      omega) hB ?_
    intro v' w' ho' hg' _
    refine h v' w' ⟨?_, wfs⟩ hg'
    rw [List.length_append, encs_app]; exact ho'
  by_cases he : ls = []
  · subst he
    cases al with
    | none =>
      refine wpList_append_own_noneC hgd s x T ho B E i0 (Rdb.size α) hT hi v l.length c (encs l) hs hb.1 hx ?_
      exact h v w (by rw [List.append_nil]; exact hb) ⟨rfl, rfl, rfl, Nat.le_refl _, fun _ _ _ => rfl⟩
    | some ad => exact go ad rfl (fun j u hu => by simp [encs] at hu)
  · obtain ⟨b, off, rfl, _, hB', _, hc⟩ := hw.resolve_left he
    refine go _ rfl (fun j u hu => ?_)
    obtain ⟨i, y, c', rfl, hy, hu'⟩ := encs_get hu
    obtain ⟨cs, r, cc⟩ := hc i y hy
    obtain ⟨rfl, _⟩ := Enc.iff.1 r
    rw [Addr.add_lit, ← Nat.add_assoc]
    exact cc c' u hu'
/-- One element put behind, out of a block that was just laid. -/
theorem wpList_append_F1 {α : Type} [Rdb α] [Enc α] {w : World} {ops : Array Oper} {rest : List Oper} {o : Oper} {a : Act} {Q : Exit → Act → World → Prop} (hgd : o.guard = none) (s x : Operand) (T E : TypeId) (z : Value) (bytes : Nat)
    (ho : o.op = .call { callee := .builtin .append, args := #[s, x], argTypes := #[T, T] }) (hT : Tryz.prog.underlying T = some (.slice E)) (hI : (Tryz.prog.info? E).map (fun i => (i.zero, i.size, i.bytes)) = some (some z, Rdb.size α, bytes)) (hzs : z.cells.size = Rdb.size α) (hby : bytes ≤ 4096)
    (B : Nat) (v : Value) (l : List α) (y : α) (hs : a.eval s = v) (hb : OwnL E B w v l) (hy : Enc.wf y) (hx : a.eval x = .slice (some ⟨w.heap.size, 0, none⟩) 1 1) (hlen : l.length + 1 ≤ 1000000) (hB : B ≤ w.heap.size)
    (h : ∀ v' w', OwnL E B w' v' (l ++ [y]) → (w.alloc (.cells (Enc.enc y).toArray E)).grownBy w' v.ownBlock → wpList Tryz.prog ops Q rest (a.put o.dst v') w') : wpList Tryz.prog ops Q (o :: rest) a (w.alloc (.cells (Enc.enc y).toArray E)) := by
  have YN := BxN.new w (Enc.enc y).toArray E
  refine wpList_append_F hgd s x T E z bytes ho hT hI hzs hby B v l [y] hs ⟨World.ownsRow.alloc hb.1 _, hb.2⟩ (some ⟨w.heap.size, 0, none⟩) 1 (fr := true) (lo := 0) hx (.inr ⟨w.heap.size, 0, rfl, Nat.zero_le _, YN.lt, fun _ => YN.free, fun i q hq => ?_⟩) hlen (by rw [World.size_alloc]; omega) h
  have hi : i < 1 := (List.getElem?_eq_some_iff.1 hq).1
  obtain rfl : i = 0 := by omega
  obtain rfl : y = q := by simpa using hq
  refine ⟨Enc.enc y, Enc.iff.2 ⟨rfl, hy⟩, fun c u hu => ?_⟩
  rw [Nat.zero_mul, Nat.zero_add]
  exact YN.cells c u (by simpa using hu)
theorem OwnL.alloc {α : Type} [Rdb α] [Enc α] {E : TypeId} {B : Nat} {w : World} {v : Value} {l : List α} (h : OwnL E B w v l) (o : Obj) : OwnL E B (w.alloc o) v l := ⟨World.ownsRow.alloc h.1 o, h.2⟩
theorem OwnL.kept {α : Type} [Rdb α] [Enc α] {E : TypeId} {B : Nat} {w w' : World} {v : Value} {l : List α} {row : Option Nat} (h : OwnL E B w v l) (g : w.grownBy w' row) (hne : ∀ k, v.ownBlock = some k → some k ≠ row) : OwnL E B w' v l :=
  ⟨h.1.kept g (by cases hv : v.ownBlock with
    | none => exact .inl rfl
    | some k => exact .inr (hne k hv)), h.2⟩
theorem OwnL.heap {α : Type} [Rdb α] [Enc α] {E : TypeId} {B : Nat} {w w' : World} {v : Value} {l : List α} (h : OwnL E B w v l) (e : ∀ g, v.ownBlock = some g → w'.heap[g]? = w.heap[g]?) : OwnL E B w' v l := by
  refine ⟨⟨h.1.1, ?_⟩, h.2⟩
  rcases h.1.2 with q | ⟨g, cap, cur, rfl, hb, hg, r⟩
  · exact .inl q
  · exact .inr ⟨g, cap, cur, rfl, hb, (e g rfl).trans hg, r⟩
theorem OwnL.blk {α : Type} [Rdb α] [Enc α] {E : TypeId} {B : Nat} {w : World} {v : Value} {l : List α} (h : OwnL E B w v l) {g : Nat} (e : v.ownBlock = some g) : B ≤ g ∧ g < w.heap.size := h.1.lt g e
theorem OwnL.set {α : Type} [Rdb α] [Enc α] {E : TypeId} {B : Nat} {w : World} {v : Value} {l : List α} (h : OwnL E B w v l) (p : Addr) (u : Value) (hp : p.block < B) : OwnL E B (w.setCell p u) v l :=
  h.heap (fun g e => heap_setCell_other w p g u (by have := (h.blk e).1; omega))
theorem OwnL.later {α : Type} [Rdb α] [Enc α] {E : TypeId} {B : Nat} {w w' : World} {v : Value} {l : List α} (h : OwnL E B w v l) (b : Below w.heap.size w w') : OwnL E B w' v l :=
  h.heap (fun g e => b.block g (h.blk e).2)
theorem OwnL.weakB {α : Type} [Rdb α] [Enc α] {E : TypeId} {B B' : Nat} {w : World} {v : Value} {l : List α} (h : OwnL E B w v l) (hb : B' ≤ B) : OwnL E B' w v l := by
  refine ⟨⟨h.1.1, ?_⟩, h.2⟩
  rcases h.1.2 with q | ⟨g, cap, cur, rfl, hb', hg, r⟩
  · exact .inl q
  · exact .inr ⟨g, cap, cur, rfl, Nat.le_trans hb hb', hg, r⟩
theorem OwnL.one {α : Type} [Rdb α] [Enc α] {E : TypeId} {B : Nat} {w : World} {a : Option Addr} {c : Nat} {l : List α} (h : OwnL E B w (.slice a l.length c) l) : One B w.heap.size w a l ∧ l.length ≤ c := by
  obtain ⟨a', c', e, hc, o, _⟩ := h.shape
  simp only [Value.slice.injEq] at e
  obtain ⟨rfl, -, rfl⟩ := e
  exact ⟨o, hc⟩
/-- What a call hands back: a list in memory of its own. -/
def AnsL {α : Type} [Rdb α] (l : List α) (w : World) (e : Ending) (w' : World) : Prop := ∃ a c, e = .returned (.slice a l.length c) ∧ l.length ≤ c ∧ One w.heap.size w'.heap.size w' a l ∧ Below w.heap.size w w'
theorem AnsL.of {α : Type} [Rdb α] [Enc α] {E : TypeId} {B : Nat} {w w' : World} {v : Value} {l : List α} (h : OwnL E B w' v l) (hB : w.heap.size ≤ B) (b : Below w.heap.size w w') : AnsL l w (.returned v) w' := by
  obtain ⟨a, c, e, hc, o, _⟩ := (h.weakB hB).shape
  exact ⟨a, c, by rw [e], hc, o, b⟩
theorem Rows.take {α : Type} [Rdb α] {fr : Bool} {lo : Nat} {w : World} {a : Option Addr} {l : List α} (h : Rows fr lo w a l) (k : Nat) : Rows fr lo w a (l.take k) := by
  rcases h with h | ⟨b, off, e, h0, hB, hf, hc⟩
  · exact .inl (by rw [h]; simp)
  · refine .inr ⟨b, off, e, h0, hB, hf, fun i x hx => hc i x ?_⟩
    rw [List.getElem?_take] at hx
    split at hx
    · exact hx
    · cases hx
theorem Rows.drop {α : Type} [Rdb α] {fr : Bool} {lo : Nat} {w : World} {b off : Nat} {l : List α} (h : Rows fr lo w (some ⟨b, off, none⟩) l) (k : Nat) : Rows fr lo w (some ⟨b, off + k * Rdb.size α, none⟩) (l.drop k) := by
  rcases h with h | ⟨b', off', e, h0, hB, hf, hc⟩
  · exact .inl (by rw [h]; simp)
  · obtain ⟨rfl, rfl⟩ : b = b' ∧ off = off' := by simpa using e
    refine .inr ⟨b, off + k * Rdb.size α, rfl, h0, hB, hf, fun i x hx => ?_⟩
    rw [List.getElem?_drop] at hx
    obtain ⟨cs, r, cc⟩ := hc (k + i) x hx
    refine ⟨cs, r, fun c v hv => ?_⟩
    have := cc c v hv
    rwa [Nat.add_mul, ← Nat.add_assoc] at this
end Go.Proofs.YtbckdfoapmjilaaGreatDoor.Rd
