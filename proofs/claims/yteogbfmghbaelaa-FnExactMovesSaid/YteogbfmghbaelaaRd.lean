/-
  Data that memory holds: numbers, bools, strings, lists, structs: one notion for the laws' arguments, their copies and what is compared.
-/
import Derived.Deep.Slices
import Derived.ChangeArms
import Derived.Lib.SmallJoins
import Derived.WalkKit
import Derived.Below
import Derived.Laws.IdiomCopy
import Derived.Laws.AppendOwn
import Derived.Laws.MakeOwn
namespace Go.Proofs.Yteogbfmghbaelaa.Rd
open Go.RowKit Go.ChangeShapes Go.WideShapes
set_option linter.unusedVariables false

theorem lay (w : World) (x : Obj) : Below w.heap.size w (w.alloc x) := (Below.refl _ _).alloc (Nat.le_refl _) _
theorem chain {w a b : World} (h : Below w.heap.size w a) (k : Below a.heap.size a b) : Below w.heap.size w b := h.trans (k.mono h.size)
/-- A type of data: how many cells it takes, how the laws measure it, and when cells hold it. fr: what it reaches may be written; lo: it reaches no block ahead of lo. -/
class Rdb (α : Type) where
  size : Nat
  sz : α → Nat
  rd : Bool → Nat → World → List Value → α → Prop
  len : ∀ {fr : Bool} {lo : Nat} {w : World} {cs : List Value} {d : α}, rd fr lo w cs d → cs.length = size
  below : ∀ {fr : Bool} {lo : Nat} {w w' : World} {cs : List Value} {d : α}, rd fr lo w cs d → Below w.heap.size w w' → rd fr lo w' cs d
  far : ∀ {fr : Bool} {lo : Nat} {w : World} {cs : List Value} {d : α} {p : Addr} {v : Value}, rd fr lo w cs d → p.block < lo → rd fr lo (w.setCell p v) cs d
  weak : ∀ {fr fr' : Bool} {lo lo' : Nat} {w : World} {cs : List Value} {d : α}, rd fr lo w cs d → lo' ≤ lo → (fr' = true → fr = true) → rd fr' lo' w cs d

instance : Rdb Int where
  size := 1
  sz := fun _ => 0
  rd := fun _ _ _ cs n => cs = [.int .i64 n] ∧ (Lit.int .i64 n).wf = true
  len := fun h => by rw [h.1]; rfl
  below := fun h _ => h
  far := fun h _ => h
  weak := fun h _ _ => h
instance : Rdb Bool where
  size := 1
  sz := fun _ => 0
  rd := fun _ _ _ cs b => cs = [.bool b]
  len := fun h => by rw [h]; rfl
  below := fun h _ => h
  far := fun h _ => h
  weak := fun h _ _ => h
instance : Rdb ByteArray where
  size := 1
  sz := fun s => s.size
  rd := fun _ _ _ cs s => cs = [.string s] ∧ s.size ≤ 9223372036854775807
  len := fun h => by rw [h.1]; rfl
  below := fun h _ => h
  far := fun h _ => h
  weak := fun h _ _ => h

/-- The elements of a slice, nil or not. -/
def Rows {α : Type} [Rdb α] (fr : Bool) (lo : Nat) (w : World) (a : Option Addr) (l : List α) : Prop :=
  l = [] ∨ ∃ b off, a = some ⟨b, off, none⟩ ∧ lo ≤ b ∧ b < w.heap.size ∧ (fr = true → ∀ i, w.frozen? ⟨b, i, none⟩ = false) ∧
    ∀ i x, l[i]? = some x → ∃ cs, Rdb.rd fr lo w cs x ∧ ∀ c v, cs[c]? = some v → w.cell? ⟨b, off + i * Rdb.size α + c, none⟩ = some v
theorem Rows.below {α : Type} [Rdb α] {fr : Bool} {lo : Nat} {w w' : World} {a : Option Addr} {l : List α} (h : Rows fr lo w a l) (k : Below w.heap.size w w') : Rows fr lo w' a l := by
  rcases h with h | ⟨b, off, e, h0, hB, hf, hc⟩
  · exact .inl h
  · refine .inr ⟨b, off, e, h0, Nat.lt_of_lt_of_le hB k.size, fun q i => (k.frozen (p := ⟨b, i, none⟩) hB).trans (hf q i), fun i x hx => ?_⟩
    obtain ⟨cs, r, cc⟩ := hc i x hx
    exact ⟨cs, Rdb.below r k, fun c v hv => (k.cell (p := ⟨b, off + i * Rdb.size α + c, none⟩) hB).trans (cc c v hv)⟩
theorem Rows.far {α : Type} [Rdb α] {fr : Bool} {lo : Nat} {w : World} {a : Option Addr} {l : List α} {p : Addr} {v : Value} (h : Rows fr lo w a l) (hp : p.block < lo) : Rows fr lo (w.setCell p v) a l := by
  rcases h with h | ⟨b, off, e, h0, hB, hf, hc⟩
  · exact .inl h
  · refine .inr ⟨b, off, e, h0, by simpa using hB, fun q i => (World.frozen?_setCell _ _ _ _).trans (hf q i), fun i x hx => ?_⟩
    obtain ⟨cs, r, cc⟩ := hc i x hx
    exact ⟨cs, Rdb.far r hp, fun c u hu => (World.cell?_setCell_other _ _ _ _ (fun e => by have := congrArg Addr.block e; dsimp only at this; omega)).trans (cc c u hu)⟩
theorem Rows.weak {α : Type} [Rdb α] {fr fr' : Bool} {lo lo' : Nat} {w : World} {a : Option Addr} {l : List α} (h : Rows fr lo w a l) (hlo : lo' ≤ lo) (hfr : fr' = true → fr = true) : Rows fr' lo' w a l := by
  rcases h with h | ⟨b, off, e, h0, hB, hf, hc⟩
  · exact .inl h
  · refine .inr ⟨b, off, e, Nat.le_trans hlo h0, hB, fun q i => hf (hfr q) i, fun i x hx => ?_⟩
    obtain ⟨cs, r, cc⟩ := hc i x hx
    exact ⟨cs, Rdb.weak r hlo hfr, cc⟩
instance {α : Type} [Rdb α] : Rdb (List α) where
  size := 1
  sz := fun l => l.length + (l.map Rdb.sz).sum
  rd := fun fr lo w cs l => l.length ≤ 9223372036854775807 ∧ ∃ a cap, cs = [.slice a l.length cap] ∧ Rows fr lo w a l
  len := fun ⟨_, _, _, e, _⟩ => by rw [e]; rfl
  below := fun ⟨h, a, cap, e, r⟩ k => ⟨h, a, cap, e, r.below k⟩
  far := fun ⟨h, a, cap, e, r⟩ k => ⟨h, a, cap, e, r.far k⟩
  weak := fun ⟨h, a, cap, e, r⟩ k q => ⟨h, a, cap, e, r.weak k q⟩
/-- What a row holds at one index. -/
theorem Rows.at' {α : Type} [Rdb α] {fr : Bool} {lo : Nat} {w : World} {a : Option Addr} {l : List α} (h : Rows fr lo w a l) {k : Nat} {x : α} (hx : l[k]? = some x) :
    ∃ b off cs, a = some ⟨b, off, none⟩ ∧ lo ≤ b ∧ b < w.heap.size ∧ Rdb.rd fr lo w cs x ∧ ∀ c v, cs[c]? = some v → w.cell? ⟨b, off + k * Rdb.size α + c, none⟩ = some v := by
  rcases h with h | ⟨b, off, e, h0, hB, hf, hc⟩
  · rw [h] at hx; simp at hx
  · obtain ⟨cs, r, cc⟩ := hc k x hx
    exact ⟨b, off, cs, e, h0, hB, r, cc⟩
theorem get_lt {α : Type} {l : List α} {k : Nat} (h : k < l.length) : ∃ x, l[k]? = some x := ⟨l[k], List.getElem?_eq_getElem h⟩

/-- How much the measure has taken after k elements. -/
def tot {α : Type} [Rdb α] (l : List α) (k : Nat) : Nat := l.length + ((l.take k).map Rdb.sz).sum
theorem tot_zero {α : Type} [Rdb α] (l : List α) : tot l 0 = l.length := by simp [tot]
theorem tot_succ {α : Type} [Rdb α] {l : List α} {k : Nat} {x : α} (h : l[k]? = some x) : tot l (k + 1) = tot l k + Rdb.sz x := by
  unfold tot; rw [List.take_add_one, h]; simp [List.map_append, List.sum_append]; omega
theorem tot_all {α : Type} [Rdb α] (l : List α) : tot l l.length = Rdb.sz l := by unfold tot; rw [List.take_length]; rfl
theorem sum_take_le (m : List Nat) (k : Nat) : (m.take k).sum ≤ m.sum := by
  have e : (m.take k).sum + (m.drop k).sum = m.sum := by rw [← List.sum_append, List.take_append_drop]
  omega
theorem tot_le {α : Type} [Rdb α] (l : List α) (k : Nat) : tot l k ≤ Rdb.sz l := by
  have := sum_take_le (l.map Rdb.sz) k
  rw [← List.map_take] at this
  show l.length + _ ≤ l.length + _
  omega
theorem sz_len {α : Type} [Rdb α] (l : List α) : l.length ≤ Rdb.sz l := Nat.le_add_right _ _
theorem sz_mem {α : Type} [Rdb α] {l : List α} {k : Nat} {x : α} (h : l[k]? = some x) : Rdb.sz x ≤ Rdb.sz l := by
  have h1 := tot_succ h; have h2 := tot_le l (k + 1); omega
theorem sz_flat {α : Type} [Rdb α] (hz : ∀ x : α, Rdb.sz x = 0) (l : List α) : Rdb.sz l = l.length := by
  show l.length + (l.map Rdb.sz).sum = l.length
  have : ∀ l : List α, (l.map (Rdb.sz : α → Nat)).sum = 0 := by
    intro l; induction l with
    | nil => rfl
    | cons x l ih => rw [List.map_cons, List.sum_cons, hz, ih]
  rw [this]; rfl

theorem below_setCells {B : Nat} {w0 : World} (q : Nat) (hB : B ≤ q) : ∀ (vs : List Value) (o : Nat) (w : World), Below B w0 w → Below B w0 (w.setCells q o vs)
  | [], _, _, h => h
  | v :: vs, o, w, h => below_setCells q hB vs (o + 1) _ (h.setCell (p := ⟨q, o, none⟩) hB v)
theorem size_setCells (q : Nat) : ∀ (vs : List Value) (o : Nat) (w : World), (w.setCells q o vs).heap.size = w.heap.size
  | [], _, _ => rfl
  | v :: vs, o, w => by rw [World.setCells, size_setCells q vs]; simp
theorem far_setCells {α : Type} [Rdb α] {fr : Bool} {lo : Nat} {cs : List Value} {d : α} (q : Nat) (hq : q < lo) : ∀ (vs : List Value) (o : Nat) (w : World), Rdb.rd fr lo w cs d → Rdb.rd fr lo (w.setCells q o vs) cs d
  | [], _, _, h => h
  | v :: vs, o, w, h => far_setCells q hq vs (o + 1) _ (Rdb.far (p := ⟨q, o, none⟩) h hq)

/-- After k rounds of a copy into block q of n elements. -/
structure RndL {α : Type} [Rdb α] (w wr : World) (q n k : Nat) (l : List α) : Prop where
  new : w.heap.size ≤ q
  lt : q < wr.heap.size
  cells : ∀ i x, i < k → l[i]? = some x → ∃ cs, Rdb.rd true (q + 1) wr cs x ∧ ∀ c v, cs[c]? = some v → wr.cell? ⟨q, i * Rdb.size α + c, none⟩ = some v
  there : ∀ i, i < n * Rdb.size α → ∃ u, wr.cell? ⟨q, i, none⟩ = some u
  free : ∀ i, wr.frozen? ⟨q, i, none⟩ = false
  below : Below w.heap.size w wr
theorem RndL.made {α : Type} [Rdb α] {w w1 : World} {E : TypeId} {n : Nat} {xs : List Value} (h : w1.ownsRow w.heap.size E (Rdb.size α) (.slice (some ⟨w.heap.size, 0, none⟩) n n) n xs) (l : List α) (b : Below w.heap.size w w1) : RndL w w1 w.heap.size n 0 l :=
  ⟨Nat.le_refl _, (h.lt _ rfl).2, fun i x hi => absurd hi (Nat.not_lt_zero _), fun i hi => by have hl := h.1; exact ⟨xs[i]'(by omega), (h.cellAt i hi).trans (List.getElem?_eq_getElem (by omega))⟩, fun i => h.frozenAt i, b⟩
theorem RndL.later {α : Type} [Rdb α] {w wr w' : World} {q n k : Nat} {l : List α} (h : RndL w wr q n k l) (b : Below wr.heap.size wr w') : RndL w w' q n k l := by
  have hl := h.lt
  have hn := h.new
  refine ⟨h.new, Nat.lt_of_lt_of_le h.lt b.size, fun i x hi hx => ?_, fun i hi => ?_, fun i => (b.frozen (p := ⟨q, i, none⟩) hl).trans (h.free i), h.below.trans (b.mono (by omega))⟩
  · obtain ⟨cs, r, cc⟩ := h.cells i x hi hx
    exact ⟨cs, Rdb.below r b, fun c v hv => (b.cell (p := ⟨q, i * Rdb.size α + c, none⟩) hl).trans (cc c v hv)⟩
  · obtain ⟨u, hu⟩ := h.there i hi
    exact ⟨u, (b.cell (p := ⟨q, i, none⟩) hl).trans hu⟩
theorem RndL.put {α : Type} [Rdb α] {w wr : World} {q n k : Nat} {l : List α} {x : α} {cs : List Value} (h : RndL w wr q n k l) (hk : k < n) (hx : l[k]? = some x) (hr : Rdb.rd true (q + 1) wr cs x) :
    RndL w (wr.setCells q (k * Rdb.size α) cs) q n (k + 1) l := by
  have hlen := Rdb.len hr
  have hn := h.new
  have bound : k * Rdb.size α + Rdb.size α ≤ n * Rdb.size α := by
    have : (k + 1) * Rdb.size α ≤ n * Rdb.size α := Nat.mul_le_mul_right _ hk
    rw [Nat.succ_mul] at this; exact this
  have all : ∀ j, j < cs.length → (wr.cell? ⟨q, k * Rdb.size α + j, none⟩).isSome = true := fun j hj => by
    obtain ⟨u, hu⟩ := h.there (k * Rdb.size α + j) (by omega); rw [hu]; rfl
  refine ⟨h.new, by rw [size_setCells]; exact h.lt, fun i y hi hy => ?_, fun i hi => ?_, fun i => (World.frozen?_setCells _ _ _ _ _).trans (h.free i), below_setCells q h.new _ _ _ h.below⟩
  · by_cases e : i = k
    · subst e
      obtain rfl : x = y := by rw [hx] at hy; exact Option.some.inj hy
      refine ⟨cs, far_setCells q (by omega) _ _ _ hr, fun c v hv => ?_⟩
      have hc : c < cs.length := (List.getElem?_eq_some_iff.1 hv).1
      rw [World.cell?_setCells_in q cs _ wr all c hc, ← List.getElem?_eq_getElem hc]; exact hv
    · obtain ⟨cs', r, cc⟩ := h.cells i y (by omega) hy
      refine ⟨cs', far_setCells q (by omega) _ _ _ r, fun c v hv => ?_⟩
      have hc : c < cs'.length := (List.getElem?_eq_some_iff.1 hv).1
      have hl' := Rdb.len r
      have b2 : i * Rdb.size α + Rdb.size α ≤ k * Rdb.size α := by
        have : (i + 1) * Rdb.size α ≤ k * Rdb.size α := Nat.mul_le_mul_right _ (by omega)
        rw [Nat.succ_mul] at this; exact this
      rw [World.cell?_setCells_out q cs _ wr _ (fun _ _ => .inl (by show i * Rdb.size α + c < k * Rdb.size α; omega))]
      exact cc c v hv
  · by_cases e : k * Rdb.size α ≤ i ∧ i < k * Rdb.size α + cs.length
    · have := World.cell?_setCells_in q cs (k * Rdb.size α) wr all (i - k * Rdb.size α) (by omega)
      rw [show k * Rdb.size α + (i - k * Rdb.size α) = i by omega] at this
      exact ⟨_, this⟩
    · obtain ⟨u, hu⟩ := h.there i hi
      exact ⟨u, (World.cell?_setCells_out q cs _ wr _ (fun _ _ => by show i < _ ∨ _ ≤ i; omega)).trans hu⟩
theorem RndL.done {α : Type} [Rdb α] {w wr : World} {q n : Nat} {l : List α} (h : RndL w wr q n n l) (hn : n = l.length) : Rows true w.heap.size wr (some ⟨q, 0, none⟩) l := by
  have := h.new
  refine .inr ⟨q, 0, rfl, h.new, h.lt, fun _ => h.free, fun i x hx => ?_⟩
  obtain ⟨cs, r, cc⟩ := h.cells i x (by rw [hn]; exact (List.getElem?_eq_some_iff.1 hx).1) hx
  exact ⟨cs, Rdb.weak r (by omega) id, fun c v hv => by rw [Nat.zero_add]; exact cc c v hv⟩

/-- A copy of a slice, in new memory. -/
def SlC {α : Type} [Rdb α] (l : List α) (w : World) (e : Ending) (w' : World) : Prop :=
  ∃ q, e = .returned (.slice (some ⟨q, 0, none⟩) l.length l.length) ∧ Rows true w.heap.size w' (some ⟨q, 0, none⟩) l ∧ w.heap.size ≤ q ∧ q < w'.heap.size ∧ (∀ i, w'.frozen? ⟨q, i, none⟩ = false) ∧ Below w.heap.size w w'
/-- A copy of a struct, in new memory. -/
def StC {α : Type} [Rdb α] (d : α) (w : World) (e : Ending) (w' : World) : Prop :=
  ∃ cs, e = .returned (.agg cs.toArray) ∧ Rdb.rd true w.heap.size w' cs d ∧ Below w.heap.size w w'
/-- A measure taken, as the laws take it. -/
def szI (left : Int) (n : Nat) : Int := if (n : Int) ≤ left then left - n else -1
def SzB (left : Int) (n : Nat) (w : World) (e : Ending) (w' : World) : Prop := e = .returned (.int .i64 (szI left n)) ∧ Below w.heap.size w w'
theorem szI_yes {left : Int} {n : Nat} (h : (n : Int) ≤ left) : szI left n = left - n := if_pos h
theorem szI_no {left : Int} {n : Nat} (h : left < (n : Int)) : szI left n = -1 := if_neg (by omega)
theorem szI_add {left : Int} {a b : Nat} (h : (a : Int) ≤ left) : szI (left - a) b = szI left (a + b) := by unfold szI; split <;> split <;> omega
theorem szI_add_no {left : Int} {a b : Nat} (h : left < (a : Int)) : szI left (a + b) = -1 := szI_no (by omega)

/-- Cells of the type t, read as data of α. -/
def Opens (P : Program) (t : TypeId) (α : Type) [Rdb α] : Prop :=
  P.cellsOf t = Rdb.size α ∧ ∀ {H : Type} (enc : TypeId × Value → H) (w : World) (base : Nat) (spare : Nat → Bool) (held : Bool) (fuel : Nat) (cs : List Value) (x : DataW H × List MemPlace),
    DataW.trod enc P w base spare held fuel t cs = some x → ∃ d : α, Rdb.rd false 0 w cs d
theorem opens_int {P : Program} {t : TypeId} (ht : P.underlying t = some (.int .i64)) (hc : P.cellsOf t = 1) : Opens P t Int :=
  ⟨hc, fun enc w base spare held fuel cs x h => by obtain ⟨n, e, _, wf⟩ := DataW.trod_int ht h; exact ⟨n, e, wf⟩⟩
theorem opens_bool {P : Program} {t : TypeId} (ht : P.underlying t = some .bool) (hc : P.cellsOf t = 1) : Opens P t Bool :=
  ⟨hc, fun enc w base spare held fuel cs x h => by obtain ⟨b, e, _⟩ := DataW.trod_bool ht h; exact ⟨b, e⟩⟩
theorem opens_string {P : Program} {t : TypeId} (ht : P.underlying t = some .string) (hc : P.cellsOf t = 1) : Opens P t ByteArray :=
  ⟨hc, fun enc w base spare held fuel cs x h => by obtain ⟨s, e, _, hs⟩ := DataW.trod_string ht h; unfold maxLen at hs; exact ⟨s, e, by omega⟩⟩
theorem opens_slice {P : Program} {t e : TypeId} {α : Type} [Rdb α] [Inhabited α] (ht : P.underlying t = some (.slice e)) (hc : P.cellsOf t = 1) (h0 : 0 < Rdb.size α) (he : Opens P e α) : Opens P t (List α) := by
  refine ⟨hc, fun enc w base spare held fuel cs x h => ?_⟩
  rcases Go.Deep.open_slice ht h with ⟨hcs, _⟩ | ⟨a, l, cp, mm, n, D, Pl, hcs, _, hl, hm, hmm, _, hi⟩
  · exact ⟨[], by show (0 : Nat) ≤ _; omega, none, 0, hcs, .inl rfl⟩
  · unfold maxLen at hm
    have hmm2 : l ≤ mm := by rw [hmm]; split <;> omega
    rw [he.1] at hi
    obtain ⟨V, hV⟩ := Go.Deep.choose_lt (α := α) (n := l) (p := fun i x => ∃ cs, Rdb.rd false 0 w cs x ∧ ∀ c v, cs[c]? = some v → w.cell? (a.add (i * Rdb.size α + c)) = some v) (fun i hi' => by
      obtain ⟨cs, k0, t0⟩ := hi i (by omega)
      obtain ⟨_, hcl, hat⟩ := World.cells?_some k0
      obtain ⟨d, r⟩ := he.2 _ _ _ _ _ _ _ _ t0
      refine ⟨d, cs, r, fun c v hv => ?_⟩
      have hc := (List.getElem?_eq_some_iff.1 hv).1
      have a0 := hat c (by omega)
      rw [hv, Addr.add_add] at a0
      exact a0)
    have hlen : ((List.range l).map V).length = l := by simp
    refine ⟨(List.range l).map V, by rw [hlen]; omega, some a, cp, by rw [hlen]; exact hcs, ?_⟩
    by_cases hz : l = 0
    · subst hz; exact .inl rfl
    · obtain ⟨b, off, spot⟩ := a
      have hspot : spot = none := by
        obtain ⟨cs, r, cc⟩ := hV 0 (by omega)
        have hlc := Rdb.len r
        have := cc 0 (cs[0]'(by omega)) (List.getElem?_eq_getElem (by omega))
        simpa [Addr.add] using World.cell?_spot this
      subst hspot
      have hblk : b < w.heap.size := by
        obtain ⟨cs, r, cc⟩ := hV 0 (by omega)
        have hlc := Rdb.len r
        have := cc 0 (cs[0]'(by omega)) (List.getElem?_eq_getElem (by omega))
        rw [Addr.add_lit] at this
        exact World.block_lt_of_cell? w _ this
      refine .inr ⟨b, off, rfl, Nat.zero_le _, hblk, (fun h => by cases h), fun i x hx => ?_⟩
      have hil : i < l := by have := (List.getElem?_eq_some_iff.1 hx).1; rw [hlen] at this; exact this
      have hxv : V i = x := by rw [List.getElem?_map, List.getElem?_range hil] at hx; simpa using hx
      obtain ⟨cs, r, cc⟩ := hV i hil
      rw [hxv] at r
      refine ⟨cs, r, fun c v hv => ?_⟩
      have := cc c v hv
      rw [Addr.add_lit] at this
      rw [Nat.add_assoc]
      exact this
end Go.Proofs.Yteogbfmghbaelaa.Rd
