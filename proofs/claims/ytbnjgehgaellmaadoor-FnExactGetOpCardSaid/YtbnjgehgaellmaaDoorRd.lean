/-
  Data that memory holds: numbers, bools, strings, lists, structs: one notion for the laws' arguments, their copies and what is compared.
-/
import Derived.Deep.Slices
import Derived.ChangeArms
import Derived.Lib.SmallJoins
import Derived.WalkKit
import Derived.Below
import Derived.Laws.IdiomCopy
import Derived.Laws.AppendOwn
import Derived.Laws.MakeOwn
namespace Go.Proofs.YtbnjgehgaellmaaDoor.Rd
open Go.RowKit Go.ChangeShapes Go.WideShapes
set_option linter.unusedVariables false

theorem lay (w : World) (x : Obj) : Below w.heap.size w (w.alloc x) := (Below.refl _ _).alloc (Nat.le_refl _) _
theorem chain {w a b : World} (h : Below w.heap.size w a) (k : Below a.heap.size a b) : Below w.heap.size w b := h.trans (k.mono h.size)
/-- A type of data: how many cells it takes, how the laws measure it, and when cells hold it. fr: what it reaches may be written; lo: it reaches no block ahead of lo. -/
class Rdb (α : Type) where
  size : Nat
  sz : α → Nat
  rd : Bool → Nat → World → List Value → α → Prop
  len : ∀ {fr : Bool} {lo : Nat} {w : World} {cs : List Value} {d : α}, rd fr lo w cs d → cs.length = size
  below : ∀ {fr : Bool} {lo : Nat} {w w' : World} {cs : List Value} {d : α}, rd fr lo w cs d → Below w.heap.size w w' → rd fr lo w' cs d
  far : ∀ {fr : Bool} {lo : Nat} {w : World} {cs : List Value} {d : α} {p : Addr} {v : Value}, rd fr lo w cs d → p.block < lo → rd fr lo (w.setCell p v) cs d
  weak : ∀ {fr fr' : Bool} {lo lo' : Nat} {w : World} {cs : List Value} {d : α}, rd fr lo w cs d → lo' ≤ lo → (fr' = true → fr = true) → rd fr' lo' w cs d

instance : Rdb Int where
  size := 1
  sz := fun _ => 0
  rd := fun _ _ _ cs n => cs = [.int .i64 n] ∧ (Lit.int .i64 n).wf = true
  len := fun h => by rw [h.1]; rfl
  below := fun h _ => h
  far := fun h _ => h
  weak := fun h _ _ => h
instance : Rdb Bool where
  size := 1
  sz := fun _ => 0
  rd := fun _ _ _ cs b => cs = [.bool b]
  len := fun h => by rw [h]; rfl
  below := fun h _ => h
  far := fun h _ => h
  weak := fun h _ _ => h
instance : Rdb ByteArray where
  size := 1
  sz := fun s => s.size
  rd := fun _ _ _ cs s => cs = [.string s] ∧ s.size ≤ 9223372036854775807
  len := fun h => by rw [h.1]; rfl
  below := fun h _ => h
  far := fun h _ => h
  weak := fun h _ _ => h

/-- The elements of a slice, nil or not. -/
def Rows {α : Type} [Rdb α] (fr : Bool) (lo : Nat) (w : World) (a : Option Addr) (l : List α) : Prop :=
  l = [] ∨ ∃ b off, a = some ⟨b, off, none⟩ ∧ lo ≤ b ∧ b < w.heap.size ∧ (fr = true → ∀ i, w.frozen? ⟨b, i, none⟩ = false) ∧
    ∀ i x, l[i]? = some x → ∃ cs, Rdb.rd fr lo w cs x ∧ ∀ c v, cs[c]? = some v → w.cell? ⟨b, off + i * Rdb.size α + c, none⟩ = some v
theorem Rows.below {α : Type} [Rdb α] {fr : Bool} {lo : Nat} {w w' : World} {a : Option Addr} {l : List α} (h : Rows fr lo w a l) (k : Below w.heap.size w w') : Rows fr lo w' a l := by
  rcases h with h | ⟨b, off, e, h0, hB, hf, hc⟩
  · exact .inl h
  · refine .inr ⟨b, off, e, h0, Nat.lt_of_lt_of_le hB k.size, fun q i => (k.frozen (p := ⟨b, i, none⟩) hB).trans (hf q i), fun i x hx => ?_⟩
    obtain ⟨cs, r, cc⟩ := hc i x hx
    exact ⟨cs, Rdb.below r k, fun c v hv => (k.cell (p := ⟨b, off + i * Rdb.size α + c, none⟩) hB).trans (cc c v hv)⟩
theorem Rows.far {α : Type} [Rdb α] {fr : Bool} {lo : Nat} {w : World} {a : Option Addr} {l : List α} {p : Addr} {v : Value} (h : Rows fr lo w a l) (hp : p.block < lo) : Rows fr lo (w.setCell p v) a l := by
  rcases h with h | ⟨b, off, e, h0, hB, hf, hc⟩
  · exact .inl h
  · refine .inr ⟨b, off, e, h0, by simpa using hB, fun q i => (World.frozen?_setCell _ _ _ _).trans (hf q i), fun i x hx => ?_⟩
    obtain ⟨cs, r, cc⟩ := hc i x hx
    exact ⟨cs, Rdb.far r hp, fun c u hu => (World.cell?_setCell_other _ _ _ _ (fun e => by have := congrArg Addr.block e; dsimp only at this; omega)).trans (cc c u hu)⟩
theorem Rows.weak {α : Type} [Rdb α] {fr fr' : Bool} {lo lo' : Nat} {w : World} {a : Option Addr} {l : List α} (h : Rows fr lo w a l) (hlo : lo' ≤ lo) (hfr : fr' = true → fr = true) : Rows fr' lo' w a l := by
  rcases h with h | ⟨b, off, e, h0, hB, hf, hc⟩
  · exact .inl h
  · refine .inr ⟨b, off, e, Nat.le_trans hlo h0, hB, fun q i => hf (hfr q) i, fun i x hx => ?_⟩
    obtain ⟨cs, r, cc⟩ := hc i x hx
    exact ⟨cs, Rdb.weak r hlo hfr, cc⟩
instance {α : Type} [Rdb α] : Rdb (List α) where
  size := 1
  sz := fun l => l.length + (l.map Rdb.sz).sum
  rd := fun fr lo w cs l => l.length ≤ 9223372036854775807 ∧ ∃ a cap, (cs = [.slice a l.length cap] ∧ l.length ≤ cap) ∧ Rows fr lo w a l
  len := fun ⟨_, _, _, e, _⟩ => by rw [e.1]; rfl
  below := fun ⟨h, a, cap, e, r⟩ k => ⟨h, a, cap, e, r.below k⟩
  far := fun ⟨h, a, cap, e, r⟩ k => ⟨h, a, cap, e, r.far k⟩
  weak := fun ⟨h, a, cap, e, r⟩ k q => ⟨h, a, cap, e, r.weak k q⟩
/-- What a row holds at one index. -/
theorem Rows.at' {α : Type} [Rdb α] {fr : Bool} {lo : Nat} {w : World} {a : Option Addr} {l : List α} (h : Rows fr lo w a l) {k : Nat} {x : α} (hx : l[k]? = some x) :
    ∃ b off cs, a = some ⟨b, off, none⟩ ∧ lo ≤ b ∧ b < w.heap.size ∧ Rdb.rd fr lo w cs x ∧ ∀ c v, cs[c]? = some v → w.cell? ⟨b, off + k * Rdb.size α + c, none⟩ = some v := by
  rcases h with h | ⟨b, off, e, h0, hB, hf, hc⟩
  · rw [h] at hx; simp at hx
  · obtain ⟨cs, r, cc⟩ := hc k x hx
    exact ⟨b, off, cs, e, h0, hB, r, cc⟩
theorem get_lt {α : Type} {l : List α} {k : Nat} (h : k < l.length) : ∃ x, l[k]? = some x := ⟨l[k], List.getElem?_eq_getElem h⟩

/-- How much the measure has taken after k elements. -/
def tot {α : Type} [Rdb α] (l : List α) (k : Nat) : Nat := l.length + ((l.take k).map Rdb.sz).sum
theorem tot_zero {α : Type} [Rdb α] (l : List α) : tot l 0 = l.length := by simp [tot]
theorem tot_succ {α : Type} [Rdb α] {l : List α} {k : Nat} {x : α} (h : l[k]? = some x) : tot l (k + 1) = tot l k + Rdb.sz x := by
  unfold tot; rw [List.take_add_one, h]; simp [List.map_append, List.sum_append]; omega
theorem tot_all {α : Type} [Rdb α] (l : List α) : tot l l.length = Rdb.sz l := by unfold tot; rw [List.take_length]; rfl
theorem sum_take_le (m : List Nat) (k : Nat) : (m.take k).sum ≤ m.sum := by
  have e : (m.take k).sum + (m.drop k).sum = m.sum := by rw [← List.sum_append, List.take_append_drop]
  omega
theorem tot_le {α : Type} [Rdb α] (l : List α) (k : Nat) : tot l k ≤ Rdb.sz l := by
  have := sum_take_le (l.map Rdb.sz) k
  rw [← List.map_take] at this
  show l.length + _ ≤ l.length + _
  omega
theorem sz_len {α : Type} [Rdb α] (l : List α) : l.length ≤ Rdb.sz l := Nat.le_add_right _ _
theorem sz_mem {α : Type} [Rdb α] {l : List α} {k : Nat} {x : α} (h : l[k]? = some x) : Rdb.sz x ≤ Rdb.sz l := by
  have h1 := tot_succ h; have h2 := tot_le l (k + 1); omega
theorem sz_flat {α : Type} [Rdb α] (hz : ∀ x : α, Rdb.sz x = 0) (l : List α) : Rdb.sz l = l.length := by
  show l.length + (l.map Rdb.sz).sum = l.length
  have : ∀ l : List α, (l.map (Rdb.sz : α → Nat)).sum = 0 := by
    intro l; induction l with
    | nil => rfl
    | cons x l ih => rw [List.map_cons, List.sum_cons, hz, ih]
  rw [this]; rfl

theorem below_setCells {B : Nat} {w0 : World} (q : Nat) (hB : B ≤ q) : ∀ (vs : List Value) (o : Nat) (w : World), Below B w0 w → Below B w0 (w.setCells q o vs)
  | [], _, _, h => h
  | v :: vs, o, w, h => below_setCells q hB vs (o + 1) _ (h.setCell (p := ⟨q, o, none⟩) hB v)
theorem size_setCells (q : Nat) : ∀ (vs : List Value) (o : Nat) (w : World), (w.setCells q o vs).heap.size = w.heap.size
  | [], _, _ => rfl
  | v :: vs, o, w => by rw [World.setCells, size_setCells q vs]; simp
theorem far_setCells {α : Type} [Rdb α] {fr : Bool} {lo : Nat} {cs : List Value} {d : α} (q : Nat) (hq : q < lo) : ∀ (vs : List Value) (o : Nat) (w : World), Rdb.rd fr lo w cs d → Rdb.rd fr lo (w.setCells q o vs) cs d
  | [], _, _, h => h
  | v :: vs, o, w, h => far_setCells q hq vs (o + 1) _ (Rdb.far (p := ⟨q, o, none⟩) h hq)

/-- After k rounds of a copy into block q of n elements. -/
structure RndL {α : Type} [Rdb α] (w wr : World) (q n k : Nat) (l : List α) : Prop where
  new : w.heap.size ≤ q
  lt : q < wr.heap.size
  cells : ∀ i x, i < k → l[i]? = some x → ∃ cs, Rdb.rd true (q + 1) wr cs x ∧ ∀ c v, cs[c]? = some v → wr.cell? ⟨q, i * Rdb.size α + c, none⟩ = some v
  there : ∀ i, i < n * Rdb.size α → ∃ u, wr.cell? ⟨q, i, none⟩ = some u
  free : ∀ i, wr.frozen? ⟨q, i, none⟩ = false
  below : Below w.heap.size w wr
theorem RndL.made {α : Type} [Rdb α] {w w1 : World} {E : TypeId} {n : Nat} {xs : List Value} (h : w1.ownsRow w.heap.size E (Rdb.size α) (.slice (some ⟨w.heap.size, 0, none⟩) n n) n xs) (l : List α) (b : Below w.heap.size w w1) : RndL w w1 w.heap.size n 0 l :=
  ⟨Nat.le_refl _, (h.lt _ rfl).2, fun i x hi => absurd hi (Nat.not_lt_zero _), fun i hi => by have hl := h.1; exact ⟨xs[i]'(by omega), (h.cellAt i hi).trans (List.getElem?_eq_getElem (by omega))⟩, fun i => h.frozenAt i, b⟩
theorem RndL.later {α : Type} [Rdb α] {w wr w' : World} {q n k : Nat} {l : List α} (h : RndL w wr q n k l) (b : Below wr.heap.size wr w') : RndL w w' q n k l := by
  have hl := h.lt
  have hn := h.new
  refine ⟨h.new, Nat.lt_of_lt_of_le h.lt b.size, fun i x hi hx => ?_, fun i hi => ?_, fun i => (b.frozen (p := ⟨q, i, none⟩) hl).trans (h.free i), h.below.trans (b.mono (by omega))⟩
  · obtain ⟨cs, r, cc⟩ := h.cells i x hi hx
    exact ⟨cs, Rdb.below r b, fun c v hv => (b.cell (p := ⟨q, i * Rdb.size α + c, none⟩) hl).trans (cc c v hv)⟩
  · obtain ⟨u, hu⟩ := h.there i hi
    exact ⟨u, (b.cell (p := ⟨q, i, none⟩) hl).trans hu⟩
theorem RndL.put {α : Type} [Rdb α] {w wr : World} {q n k : Nat} {l : List α} {x : α} {cs : List Value} (h : RndL w wr q n k l) (hk : k < n) (hx : l[k]? = some x) (hr : Rdb.rd true (q + 1) wr cs x) :
    RndL w (wr.setCells q (k * Rdb.size α) cs) q n (k + 1) l := by
  have hlen := Rdb.len hr
  have hn := h.new
  have bound : k * Rdb.size α + Rdb.size α ≤ n * Rdb.size α := by
    have : (k + 1) * Rdb.size α ≤ n * Rdb.size α := Nat.mul_le_mul_right _ hk
    rw [Nat.succ_mul] at this; exact this
  have all : ∀ j, j < cs.length → (wr.cell? ⟨q, k * Rdb.size α + j, none⟩).isSome = true := fun j hj => by
    obtain ⟨u, hu⟩ := h.there (k * Rdb.size α + j) (by omega); rw [hu]; rfl
  refine ⟨h.new, by rw [size_setCells]; exact h.lt, fun i y hi hy => ?_, fun i hi => ?_, fun i => (World.frozen?_setCells _ _ _ _ _).trans (h.free i), below_setCells q h.new _ _ _ h.below⟩
  · by_cases e : i = k
    · subst e
      obtain rfl : x = y := by rw [hx] at hy; exact Option.some.inj hy
      refine ⟨cs, far_setCells q (by omega) _ _ _ hr, fun c v hv => ?_⟩
      have hc : c < cs.length := (List.getElem?_eq_some_iff.1 hv).1
      rw [World.cell?_setCells_in q cs _ wr all c hc, ← List.getElem?_eq_getElem hc]; exact hv
    · obtain ⟨cs', r, cc⟩ := h.cells i y (by omega) hy
      refine ⟨cs', far_setCells q (by omega) _ _ _ r, fun c v hv => ?_⟩
      have hc : c < cs'.length := (List.getElem?_eq_some_iff.1 hv).1
      have hl' := Rdb.len r
      have b2 : i * Rdb.size α + Rdb.size α ≤ k * Rdb.size α := by
        have : (i + 1) * Rdb.size α ≤ k * Rdb.size α := Nat.mul_le_mul_right _ (by omega)
        rw [Nat.succ_mul] at this; exact this
      rw [World.cell?_setCells_out q cs _ wr _ (fun _ _ => .inl (by show i * Rdb.size α + c < k * Rdb.size α; omega))]
      exact cc c v hv
  · by_cases e : k * Rdb.size α ≤ i ∧ i < k * Rdb.size α + cs.length
    · have := World.cell?_setCells_in q cs (k * Rdb.size α) wr all (i - k * Rdb.size α) (by omega)
      rw [show k * Rdb.size α + (i - k * Rdb.size α) = i by omega] at this
      exact ⟨_, this⟩
    · obtain ⟨u, hu⟩ := h.there i hi
      exact ⟨u, (World.cell?_setCells_out q cs _ wr _ (fun _ _ => by show i < _ ∨ _ ≤ i; omega)).trans hu⟩
theorem RndL.done {α : Type} [Rdb α] {w wr : World} {q n : Nat} {l : List α} (h : RndL w wr q n n l) (hn : n = l.length) : Rows true w.heap.size wr (some ⟨q, 0, none⟩) l := by
  have := h.new
  refine .inr ⟨q, 0, rfl, h.new, h.lt, fun _ => h.free, fun i x hx => ?_⟩
  obtain ⟨cs, r, cc⟩ := h.cells i x (by rw [hn]; exact (List.getElem?_eq_some_iff.1 hx).1) hx
  exact ⟨cs, Rdb.weak r (by omega) id, fun c v hv => by rw [Nat.zero_add]; exact cc c v hv⟩

/-- A copy of a slice, in new memory. -/
def SlC {α : Type} [Rdb α] (l : List α) (w : World) (e : Ending) (w' : World) : Prop :=
  ∃ q, e = .returned (.slice (some ⟨q, 0, none⟩) l.length l.length) ∧ Rows true w.heap.size w' (some ⟨q, 0, none⟩) l ∧ w.heap.size ≤ q ∧ q < w'.heap.size ∧ (∀ i, w'.frozen? ⟨q, i, none⟩ = false) ∧ Below w.heap.size w w'
/-- A copy of a struct, in new memory. -/
def StC {α : Type} [Rdb α] (d : α) (w : World) (e : Ending) (w' : World) : Prop :=
  ∃ cs, e = .returned (.agg cs.toArray) ∧ Rdb.rd true w.heap.size w' cs d ∧ Below w.heap.size w w'
/-- A measure taken, as the laws take it. -/
def szI (left : Int) (n : Nat) : Int := if (n : Int) ≤ left then left - n else -1
def SzB (left : Int) (n : Nat) (w : World) (e : Ending) (w' : World) : Prop := e = .returned (.int .i64 (szI left n)) ∧ Below w.heap.size w w'
theorem szI_yes {left : Int} {n : Nat} (h : (n : Int) ≤ left) : szI left n = left - n := if_pos h
theorem szI_no {left : Int} {n : Nat} (h : left < (n : Int)) : szI left n = -1 := if_neg (by omega)
theorem szI_add {left : Int} {a b : Nat} (h : (a : Int) ≤ left) : szI (left - a) b = szI left (a + b) := by unfold szI; split <;> split <;> omega
theorem szI_add_no {left : Int} {a b : Nat} (h : left < (a : Int)) : szI left (a + b) = -1 := szI_no (by omega)

/-- Cells of the type t, read as data of α. -/
def Opens (P : Program) (t : TypeId) (α : Type) [Rdb α] : Prop :=
  P.cellsOf t = Rdb.size α ∧ ∀ {H : Type} (enc : TypeId × Value → H) (w : World) (base : Nat) (spare : Nat → Bool) (held : Bool) (fuel : Nat) (cs : List Value) (x : DataW H × List MemPlace),
    DataW.trod enc P w base spare held fuel t cs = some x → ∃ d : α, Rdb.rd false 0 w cs d
theorem opens_int {P : Program} {t : TypeId} (ht : P.underlying t = some (.int .i64)) (hc : P.cellsOf t = 1) : Opens P t Int :=
  ⟨hc, fun enc w base spare held fuel cs x h => by obtain ⟨n, e, _, wf⟩ := DataW.trod_int ht h; exact ⟨n, e, wf⟩⟩
theorem opens_bool {P : Program} {t : TypeId} (ht : P.underlying t = some .bool) (hc : P.cellsOf t = 1) : Opens P t Bool :=
  ⟨hc, fun enc w base spare held fuel cs x h => by obtain ⟨b, e, _⟩ := DataW.trod_bool ht h; exact ⟨b, e⟩⟩
theorem opens_string {P : Program} {t : TypeId} (ht : P.underlying t = some .string) (hc : P.cellsOf t = 1) : Opens P t ByteArray :=
  ⟨hc, fun enc w base spare held fuel cs x h => by obtain ⟨s, e, _, hs⟩ := DataW.trod_string ht h; unfold maxLen at hs; exact ⟨s, e, by omega⟩⟩
theorem opens_slice {P : Program} {t e : TypeId} {α : Type} [Rdb α] [Inhabited α] (ht : P.underlying t = some (.slice e)) (hc : P.cellsOf t = 1) (h0 : 0 < Rdb.size α) (he : Opens P e α) : Opens P t (List α) := by
  refine ⟨hc, fun enc w base spare held fuel cs x h => ?_⟩
  rcases Go.Deep.open_slice ht h with ⟨hcs, _⟩ | ⟨a, l, cp, mm, n, D, Pl, hcs, _, hl, hm, hmm, _, hi⟩
  · exact ⟨[], by show (0 : Nat) ≤ _; omega, none, 0, ⟨hcs, Nat.le_refl _⟩, .inl rfl⟩
  · unfold maxLen at hm
    have hmm2 : l ≤ mm := by rw [hmm]; split <;> omega
    rw [he.1] at hi
    obtain ⟨V, hV⟩ := Go.Deep.choose_lt (α := α) (n := l) (p := fun i x => ∃ cs, Rdb.rd false 0 w cs x ∧ ∀ c v, cs[c]? = some v → w.cell? (a.add (i * Rdb.size α + c)) = some v) (fun i hi' => by
      obtain ⟨cs, k0, t0⟩ := hi i (by omega)
      obtain ⟨_, hcl, hat⟩ := World.cells?_some k0
      obtain ⟨d, r⟩ := he.2 _ _ _ _ _ _ _ _ t0
      refine ⟨d, cs, r, fun c v hv => ?_⟩
      have hc := (List.getElem?_eq_some_iff.1 hv).1
      have a0 := hat c (by omega)
      rw [hv, Addr.add_add] at a0
      exact a0)
    have hlen : ((List.range l).map V).length = l := by simp
    refine ⟨(List.range l).map V, by rw [hlen]; omega, some a, cp, ⟨by rw [hlen]; exact hcs, by rw [hlen]; exact hl⟩, ?_⟩
    by_cases hz : l = 0
    · subst hz; exact .inl rfl
    · obtain ⟨b, off, spot⟩ := a
      have hspot : spot = none := by
        obtain ⟨cs, r, cc⟩ := hV 0 (by omega)
        have hlc := Rdb.len r
        have := cc 0 (cs[0]'(by omega)) (List.getElem?_eq_getElem (by omega))
        simpa [Addr.add] using World.cell?_spot this
      subst hspot
      have hblk : b < w.heap.size := by
        obtain ⟨cs, r, cc⟩ := hV 0 (by omega)
        have hlc := Rdb.len r
        have := cc 0 (cs[0]'(by omega)) (List.getElem?_eq_getElem (by omega))
        rw [Addr.add_lit] at this
        exact World.block_lt_of_cell? w _ this
      refine .inr ⟨b, off, rfl, Nat.zero_le _, hblk, (fun h => by cases h), fun i x hx => ?_⟩
      have hil : i < l := by have := (List.getElem?_eq_some_iff.1 hx).1; rw [hlen] at this; exact this
      have hxv : V i = x := by rw [List.getElem?_map, List.getElem?_range hil] at hx; simpa using hx
      obtain ⟨cs, r, cc⟩ := hV i hil
      rw [hxv] at r
      refine ⟨cs, r, fun c v hv => ?_⟩
      have := cc c v hv
      rw [Addr.add_lit] at this
      rw [Nat.add_assoc]
      exact this
end Go.Proofs.YtbnjgehgaellmaaDoor.Rd

/-
  Data that memory holds, stirred: a number's cell is given another number, a bool's another bool: what is read stays of its shape (for the marks that the laws lay into copied arguments).
-/
namespace Go.Proofs.YtbnjgehgaellmaaDoor.Rd
open Go.RowKit Go.ChangeShapes Go.WideShapes
set_option linter.unusedVariables false

/-- One value may stand for the other: two numbers, or two bools. -/
def Sim (v v' : Value) : Prop := (∃ n m, v = .int .i64 n ∧ v' = .int .i64 m ∧ (Lit.int .i64 m).wf = true) ∨ (∃ b b', v = .bool b ∧ v' = .bool b')
class Mkb (α : Type) [Rdb α] where
  swap : ∀ {fr : Bool} {lo : Nat} {w : World} {cs : List Value} {d : α} {c : Nat} {v v' : Value}, Rdb.rd fr lo w cs d → cs[c]? = some v → Sim v v' → ∃ d' : α, Rdb.sz d' = Rdb.sz d ∧ Rdb.rd fr lo w (cs.set c v') d'
  stir : ∀ {fr : Bool} {lo : Nat} {w : World} {cs : List Value} {d : α} {p : Addr} {v v' : Value}, Rdb.rd fr lo w cs d → w.cell? p = some v → Sim v v' → ∃ d' : α, Rdb.sz d' = Rdb.sz d ∧ Rdb.rd fr lo (w.setCell p v') cs d'
  move : ∀ {fr : Bool} {lo : Nat} {w w' : World} {cs : List Value} {d : α}, Rdb.rd fr lo w cs d → w.heap.size ≤ w'.heap.size → (∀ k, lo ≤ k → k < w.heap.size → w'.heap[k]? = w.heap[k]?) → Rdb.rd fr lo w' cs d
theorem one_at {v u : Value} {c : Nat} (h : [u][c]? = some v) : c = 0 ∧ u = v := by
  have hc : c < 1 := (List.getElem?_eq_some_iff.1 h).1
  obtain rfl : c = 0 := by omega
  exact ⟨rfl, by simpa using h⟩
instance : Mkb Int where
  swap := by
    rintro fr lo w cs d c v v' ⟨rfl, wf⟩ hv (⟨n, m, rfl, rfl, hm⟩ | ⟨b, b', rfl, rfl⟩)
    · obtain ⟨rfl, -⟩ := one_at hv; exact ⟨m, rfl, rfl, hm⟩
    · obtain ⟨-, e⟩ := one_at hv; cases e
  stir := fun {fr lo w cs d p v v'} h _ _ => ⟨d, rfl, h⟩
  move := fun h _ _ => h
instance : Mkb Bool where
  swap := by
    rintro fr lo w cs d c v v' h hv (⟨n, m, rfl, rfl, hm⟩ | ⟨b, b', rfl, rfl⟩)
    · have e : cs = [.bool d] := h
      subst e; obtain ⟨-, e⟩ := one_at hv; cases e
    · have e : cs = [.bool d] := h
      subst e; obtain ⟨rfl, -⟩ := one_at hv; exact ⟨b', rfl, rfl⟩
  stir := fun {fr lo w cs d p v v'} h _ _ => ⟨d, rfl, h⟩
  move := fun h _ _ => h
instance : Mkb ByteArray where
  swap := by
    rintro fr lo w cs d c v v' ⟨rfl, wf⟩ hv (⟨n, m, rfl, rfl, hm⟩ | ⟨b, b', rfl, rfl⟩)
    · obtain ⟨-, e⟩ := one_at hv; cases e
    · obtain ⟨-, e⟩ := one_at hv; cases e
  stir := fun {fr lo w cs d p v v'} h _ _ => ⟨d, rfl, h⟩
  move := fun h _ _ => h
theorem slice_in {cs : List Value} {a b c : Nat} {v : Value} (h1 : a ≤ c) (h2 : c < a + b) : ((cs.set c v).drop a).take b = ((cs.drop a).take b).set (c - a) v := by
  rw [List.drop_set, if_neg (by omega), List.take_set]
theorem slice_out {cs : List Value} {a b c : Nat} {v : Value} (h : c < a ∨ a + b ≤ c) : ((cs.set c v).drop a).take b = (cs.drop a).take b := by
  rw [List.drop_set]
  split
  · rfl
  · rw [List.take_set_of_le (by omega)]
theorem slice_at {cs : List Value} {a b c : Nat} (h1 : a ≤ c) (h2 : c < a + b) : ((cs.drop a).take b)[c - a]? = cs[c]? := by
  rw [List.getElem?_take, if_pos (by omega), List.getElem?_drop]
  congr 1; omega
/-- A field of a struct, one cell of the struct given another value. -/
theorem Mkb.field {α : Type} [Rdb α] [Mkb α] {fr : Bool} {lo : Nat} {w : World} {cs : List Value} {a b c : Nat} {v v' : Value} {d : α} (h : Rdb.rd fr lo w ((cs.drop a).take b) d) (hv : cs[c]? = some v) (s : Sim v v') :
    ∃ d' : α, Rdb.sz d' = Rdb.sz d ∧ Rdb.rd fr lo w (((cs.set c v').drop a).take b) d' := by
  by_cases q : a ≤ c ∧ c < a + b
  · rw [slice_in q.1 q.2]; exact Mkb.swap h (by rw [slice_at q.1 q.2]; exact hv) s
  · rw [slice_out (by omega)]; exact ⟨d, rfl, h⟩
theorem Rows.stir {α : Type} [Rdb α] [Mkb α] [Inhabited α] {fr : Bool} {lo : Nat} {w : World} {a : Option Addr} {l : List α} {p : Addr} {v v' : Value} (h : Rows fr lo w a l) (hp : w.cell? p = some v) (s : Sim v v') :
    ∃ l' : List α, l'.map Rdb.sz = l.map Rdb.sz ∧ Rows fr lo (w.setCell p v') a l' := by
  rcases h with h | ⟨b, off, e, h0, hB, hf, hc⟩
  · exact ⟨[], by rw [h], .inl rfl⟩
  · obtain ⟨X, hX⟩ := Go.Deep.choose_lt (α := α) (n := l.length) (p := fun i x => (∀ y, l[i]? = some y → Rdb.sz x = Rdb.sz y) ∧ ∃ cs, Rdb.rd fr lo (w.setCell p v') cs x ∧ ∀ c u, cs[c]? = some u → (w.setCell p v').cell? ⟨b, off + i * Rdb.size α + c, none⟩ = some u) (fun i hi => by
      obtain ⟨cs, r, cc⟩ := hc i _ (List.getElem?_eq_getElem hi)
      by_cases q : ∃ c, c < cs.length ∧ p = ⟨b, off + i * Rdb.size α + c, none⟩
      · obtain ⟨c, hcl, rfl⟩ := q
        have hcv := cc c _ (List.getElem?_eq_getElem hcl)
        have ev : cs[c] = v := by rw [hp] at hcv; exact (Option.some.inj hcv).symm
        obtain ⟨x1, s1, r1⟩ := Mkb.swap r (show cs[c]? = some v by rw [List.getElem?_eq_getElem hcl, ev]) s
        obtain ⟨x2, s2, r2⟩ := Mkb.stir r1 hp s
        refine ⟨x2, (fun y hy => by rw [List.getElem?_eq_getElem hi] at hy; rw [← Option.some.inj hy, s2, s1]), _, r2, fun c2 u hu => ?_⟩
        rw [List.getElem?_set] at hu
        by_cases q2 : c = c2
        · subst q2
          rw [if_pos rfl, if_pos hcl] at hu
          obtain rfl := Option.some.inj hu
          exact World.cell?_setCell_same _ _ _ hp
        · rw [if_neg q2] at hu
          exact (World.cell?_setCell_other _ _ _ _ (fun e => q2 (by have := congrArg Addr.off e; dsimp only at this; omega))).trans (cc c2 u hu)
      · obtain ⟨x2, s2, r2⟩ := Mkb.stir r hp s
        refine ⟨x2, (fun y hy => by rw [List.getElem?_eq_getElem hi] at hy; rw [← Option.some.inj hy, s2]), cs, r2, fun c2 u hu => ?_⟩
        have hl2 : c2 < cs.length := (List.getElem?_eq_some_iff.1 hu).1
        exact (World.cell?_setCell_other _ _ _ _ (fun e => q ⟨c2, hl2, e⟩)).trans (cc c2 u hu))
    have hlen : ((List.range l.length).map X).length = l.length := by simp
    have hsz : ((List.range l.length).map X).map Rdb.sz = l.map Rdb.sz := by
      refine List.ext_getElem? fun i => ?_
      by_cases hi : i < l.length
      · rw [List.getElem?_map, List.getElem?_map, List.getElem?_map, List.getElem?_range hi, List.getElem?_eq_getElem hi]
        exact congrArg some ((hX i hi).1 _ (List.getElem?_eq_getElem hi))
      · rw [List.getElem?_eq_none (by simp; omega), List.getElem?_eq_none (by simp; omega)]
    refine ⟨(List.range l.length).map X, hsz, .inr ⟨b, off, e, h0, by simpa using hB, fun q i => (World.frozen?_setCell _ _ _ _).trans (hf q i), fun i x hx => ?_⟩⟩
    have hil : i < l.length := by have := (List.getElem?_eq_some_iff.1 hx).1; rw [hlen] at this; exact this
    have hxv : X i = x := by rw [List.getElem?_map, List.getElem?_range hil] at hx; simpa using hx
    obtain ⟨-, cs, r, cc⟩ := hX i hil
    rw [hxv] at r
    exact ⟨cs, r, cc⟩
theorem map_len {α : Type} [Rdb α] {l l' : List α} (h : l'.map Rdb.sz = l.map Rdb.sz) : l'.length = l.length := by have := congrArg List.length h; simpa using this
theorem Rows.move {α : Type} [Rdb α] [Mkb α] {fr : Bool} {lo : Nat} {w w' : World} {a : Option Addr} {l : List α} (h : Rows fr lo w a l) (sz : w.heap.size ≤ w'.heap.size) (hm : ∀ k, lo ≤ k → k < w.heap.size → w'.heap[k]? = w.heap[k]?) : Rows fr lo w' a l := by
  rcases h with h | ⟨b, off, e, h0, hB, hf, hc⟩
  · exact .inl h
  · have eb := hm b h0 hB
    refine .inr ⟨b, off, e, h0, Nat.lt_of_lt_of_le hB sz, fun q i => (World.frozen?_of_block (a := ⟨b, i, none⟩) eb).trans (hf q i), fun i x hx => ?_⟩
    obtain ⟨cs, r, cc⟩ := hc i x hx
    exact ⟨cs, Mkb.move r sz hm, fun c v hv => (World.cell?_of_block (a := ⟨b, off + i * Rdb.size α + c, none⟩) eb).trans (cc c v hv)⟩
instance {α : Type} [Rdb α] [Mkb α] [Inhabited α] : Mkb (List α) where
  move := fun ⟨hl, a, cap, e, r⟩ sz hm => ⟨hl, a, cap, e, r.move sz hm⟩
  swap := by
    rintro fr lo w cs d c v v' ⟨hl, a, cap, ⟨rfl, z⟩, r⟩ hv (⟨n, m, rfl, rfl, hm⟩ | ⟨b, b', rfl, rfl⟩)
    · obtain ⟨-, e⟩ := one_at hv; cases e
    · obtain ⟨-, e⟩ := one_at hv; cases e
  stir := by
    rintro fr lo w cs d p v v' ⟨hl, a, cap, ⟨rfl, z⟩, r⟩ hp s
    obtain ⟨l', e0, r'⟩ := r.stir hp s
    have e := map_len e0
    exact ⟨l', (by show l'.length + (l'.map Rdb.sz).sum = d.length + (d.map Rdb.sz).sum; rw [e, e0]), by rw [e]; exact hl, a, cap, ⟨by rw [e], by rw [e]; exact z⟩, r'⟩
/-- The world wr is v on the blocks below hi. -/
def Shadow (hi : Nat) (v wr : World) : Prop := ∀ k, k < hi → wr.heap[k]? = v.heap[k]?
theorem Shadow.of {v wr : World} (b : Below v.heap.size v wr) : Shadow v.heap.size v wr := b.block
theorem Shadow.cell {hi : Nat} {v wr : World} (h : Shadow hi v wr) {p : Addr} (hp : p.block < hi) : wr.cell? p = v.cell? p := World.cell?_of_block (h _ hp)
theorem Shadow.frozen {hi : Nat} {v wr : World} (h : Shadow hi v wr) {p : Addr} (hp : p.block < hi) : wr.frozen? p = v.frozen? p := World.frozen?_of_block (h _ hp)
theorem Shadow.set {hi : Nat} {v wr : World} (h : Shadow hi v wr) (p : Addr) (u : Value) : Shadow hi (v.setCell p u) (wr.setCell p u) := fun k hk => by
  unfold World.setCell
  simp only [Array.getElem?_modify]
  rw [h k hk]
theorem Shadow.later {hi : Nat} {v wr w' : World} (h : Shadow hi v wr) (hs : hi ≤ wr.heap.size) (b : Below wr.heap.size wr w') : Shadow hi v w' := fun k hk => (b.block k (Nat.lt_of_lt_of_le hk hs)).trans (h k hk)
/-- From w to w' nothing has changed but in the blocks from lo to hi, and new ones. -/
structure Chg (lo hi : Nat) (w w' : World) : Prop where
  os : w'.os = w.os
  tape : w'.tape = w.tape
  output : w'.output = w.output
  size : w.heap.size ≤ w'.heap.size
  block : ∀ k, (k < lo ∨ hi ≤ k) → k < w.heap.size → w'.heap[k]? = w.heap[k]?
theorem Chg.refl (lo hi : Nat) (w : World) : Chg lo hi w w := ⟨rfl, rfl, rfl, Nat.le_refl _, fun _ _ _ => rfl⟩
theorem Chg.trans {lo hi : Nat} {a b c : World} (h : Chg lo hi a b) (k : Chg lo hi b c) : Chg lo hi a c :=
  ⟨k.os.trans h.os, k.tape.trans h.tape, k.output.trans h.output, Nat.le_trans h.size k.size, fun i hi hs => (k.block i hi (Nat.lt_of_lt_of_le hs h.size)).trans (h.block i hi hs)⟩
theorem Chg.of {lo hi : Nat} {w w' : World} (b : Below w.heap.size w w') : Chg lo hi w w' := ⟨b.os, b.tape, b.output, b.size, fun k _ hs => b.block k hs⟩
theorem Chg.set {lo hi : Nat} (w : World) (p : Addr) (u : Value) (h0 : lo ≤ p.block) (h1 : p.block < hi) : Chg lo hi w (w.setCell p u) :=
  ⟨rfl, rfl, rfl, by simp, fun k hk _ => by
    unfold World.setCell
    simp only [Array.getElem?_modify]
    rw [if_neg (by omega)]⟩
theorem Chg.below {lo hi : Nat} {w w' : World} (h : Chg lo hi w w') (hs : lo ≤ w.heap.size) : Below lo w w' := ⟨h.os, h.tape, h.output, h.size, fun k hk => h.block k (.inl hk) (Nat.lt_of_lt_of_le hk hs)⟩
theorem Chg.high {α : Type} [Rdb α] [Mkb α] {lo hi : Nat} {w w' : World} {fr : Bool} {a : Option Addr} {l : List α} (h : Chg lo hi w w') (r : Rows fr hi w a l) : Rows fr hi w' a l :=
  r.move h.size (fun k hk hs => h.block k (.inr hk) hs)
/-- A record of a slice written anew: where reading hangs on no memory (flat records). -/
theorem Rows.put {α : Type} [Rdb α] (hflat : ∀ {fr : Bool} {lo : Nat} {w w' : World} {cs : List Value} {d : α}, Rdb.rd fr lo w cs d → Rdb.rd fr lo w' cs d) {fr : Bool} {lo : Nat} {w : World} {b off j : Nat} {l : List α} {cs : List Value} {x : α}
    (h : Rows fr lo w (some ⟨b, off, none⟩) l) (hj : j < l.length) (hr : Rdb.rd fr lo w cs x) : Rows fr lo (w.setCells b (off + j * Rdb.size α) cs) (some ⟨b, off, none⟩) (l.set j x) := by
  rcases h with h | ⟨b', off', e, h0, hB, hf, hc⟩
  · rw [h] at hj; simp at hj
  · obtain ⟨rfl, rfl⟩ : b = b' ∧ off = off' := by simpa using e
    have hlen := Rdb.len hr
    have all : ∀ c, c < cs.length → (w.cell? ⟨b, off + j * Rdb.size α + c, none⟩).isSome = true := fun c hc' => by
      obtain ⟨cs2, r2, cc2⟩ := hc j _ (List.getElem?_eq_getElem hj)
      have h2 := Rdb.len r2
      rw [cc2 c (cs2[c]'(by omega)) (List.getElem?_eq_getElem (by omega))]; rfl
    refine .inr ⟨b, off, rfl, h0, by rw [size_setCells]; exact hB, fun q i => (World.frozen?_setCells _ _ _ _ _).trans (hf q i), fun i y hy => ?_⟩
    rw [List.getElem?_set] at hy
    by_cases q : j = i
    · subst q
      rw [if_pos rfl, if_pos hj] at hy
      obtain rfl := Option.some.inj hy
      refine ⟨cs, hflat hr, fun c v hv => ?_⟩
      have hc' : c < cs.length := (List.getElem?_eq_some_iff.1 hv).1
      rw [World.cell?_setCells_in b cs _ w all c hc', ← List.getElem?_eq_getElem hc']; exact hv
    · rw [if_neg q] at hy
      obtain ⟨cs2, r2, cc2⟩ := hc i y hy
      refine ⟨cs2, hflat r2, fun c v hv => ?_⟩
      have hc' : c < cs2.length := (List.getElem?_eq_some_iff.1 hv).1
      have hl2 := Rdb.len r2
      rw [World.cell?_setCells_out b cs _ w _ (fun _ _ => by
        show off + i * Rdb.size α + c < off + j * Rdb.size α ∨ off + j * Rdb.size α + cs.length ≤ off + i * Rdb.size α + c
        rcases Nat.lt_or_ge i j with g | g
        · have : (i + 1) * Rdb.size α ≤ j * Rdb.size α := Nat.mul_le_mul_right _ (by omega)
          rw [Nat.succ_mul] at this; left; omega
        · have : (j + 1) * Rdb.size α ≤ i * Rdb.size α := Nat.mul_le_mul_right _ (by omega)
          rw [Nat.succ_mul] at this; right; omega)]
      exact cc2 c v hv
/-- The first j records replaced. -/
def mixL {α : Type} (g : Nat → α) (l : List α) : Nat → List α
  | 0 => l
  | j + 1 => (mixL g l j).set j (g j)
theorem mixL_len {α : Type} (g : Nat → α) (l : List α) : ∀ j, (mixL g l j).length = l.length
  | 0 => rfl
  | j + 1 => by show ((mixL g l j).set j (g j)).length = _; rw [List.length_set, mixL_len g l j]
theorem mixL_at {α : Type} (g : Nat → α) (l : List α) : ∀ (j i : Nat), i < j → i < l.length → (mixL g l j)[i]? = some (g i)
  | 0, i, h, _ => absurd h (Nat.not_lt_zero _)
  | j + 1, i, h, hl => by
    show ((mixL g l j).set j (g j))[i]? = _
    rw [List.getElem?_set]
    by_cases q : j = i
    · subst q; rw [if_pos rfl, if_pos (by rw [mixL_len]; exact hl)]
    · rw [if_neg q]; exact mixL_at g l j i (by omega) hl
theorem mixL_all {α : Type} (g : Nat → α) (l : List α) : mixL g l l.length = (List.range l.length).map g := by
  refine List.ext_getElem? fun i => ?_
  by_cases h : i < l.length
  · rw [mixL_at g l _ i h h, List.getElem?_map, List.getElem?_range h]; rfl
  · rw [List.getElem?_eq_none (by rw [mixL_len]; omega), List.getElem?_eq_none (by simp; omega)]
/-- v' is v with numbers and bools given other values, in any number of steps. -/
inductive Stirred : World → World → Prop
  | refl (v : World) : Stirred v v
  | step {v v' : World} (p : Addr) {u u' : Value} : Stirred v v' → v'.cell? p = some u → Sim u u' → Stirred v (v'.setCell p u')
theorem Stirred.trans {a b c : World} (h : Stirred a b) (k : Stirred b c) : Stirred a c := by
  induction k with
  | refl => exact h
  | step p _ hc hs ih => exact .step p ih hc hs
theorem Stirred.size {a b : World} (h : Stirred a b) : b.heap.size = a.heap.size := by
  induction h with
  | refl => rfl
  | step p _ _ _ ih => rw [World.size_setCell]; exact ih
theorem Rows.stirred {α : Type} [Rdb α] [Mkb α] [Inhabited α] {fr : Bool} {lo : Nat} {v v' : World} {a : Option Addr} {l : List α} (h : Rows fr lo v a l) (s : Stirred v v') : ∃ l' : List α, l'.map Rdb.sz = l.map Rdb.sz ∧ Rows fr lo v' a l' := by
  induction s with
  | refl => exact ⟨l, rfl, h⟩
  | step p _ hc hs ih =>
    obtain ⟨l1, e1, r1⟩ := ih
    obtain ⟨l2, e2, r2⟩ := r1.stir hc hs
    exact ⟨l2, e2.trans e1, r2⟩
end Go.Proofs.YtbnjgehgaellmaaDoor.Rd
