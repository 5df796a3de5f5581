/-
  Boxes of cells; a slice of strings that came in or that the law copied.
-/
import Derived.Test.YtbnjgehgaellmaaDoorGfSpec
import Derived.SliceStrings
import Derived.ChangeArms
import Derived.Deep.Slices
import Derived.Deep.Strs
namespace Go.Proofs.YtbnjgehgaellmaaDoor.Sg
open Go.RowKit Go.ChangeShapes Go.WideShapes
set_option linter.unusedVariables false

theorem lay (w : World) (x : Obj) : Below w.heap.size w (w.alloc x) := (Below.refl _ _).alloc (Nat.le_refl _) _
theorem chain {w a b : World} (h : Below w.heap.size w a) (k : Below a.heap.size a b) : Below w.heap.size w b := h.trans (k.mono h.size)
theorem undrew {V w1 : World} (h : Below V.drew.heap.size V.drew w1) : Below V.heap.size V w1 := ⟨h.os, h.tape, h.output, h.size, h.block⟩

/-- Block b holds the cells vs and may be written. -/
structure BxN (w : World) (b : Nat) (vs : List Value) : Prop where
  lt : b < w.heap.size
  cells : ∀ i v, vs[i]? = some v → w.cell? ⟨b, i, none⟩ = some v
  free : ∀ i, w.frozen? ⟨b, i, none⟩ = false
theorem BxN.new (w : World) (c : Array Value) (T : TypeId) : BxN (w.alloc (.cells c T)) w.heap.size c.toList :=
  ⟨by simp, fun i v h => by rw [World.cell?_alloc_new, ← h]; simp, fun i => World.frozen?_alloc_at _ _ _ _ rfl⟩
theorem BxN.later {w w' : World} {b : Nat} {vs : List Value} (h : BxN w b vs) (k : Below w.heap.size w w') : BxN w' b vs :=
  ⟨Nat.lt_of_lt_of_le h.lt k.size, fun i v hv => (k.cell (p := ⟨b, i, none⟩) h.lt).trans (h.cells i v hv), fun i => (k.frozen (p := ⟨b, i, none⟩) h.lt).trans (h.free i)⟩
theorem BxN.put {w : World} {b : Nat} {vs : List Value} (h : BxN w b vs) (i : Nat) (hi : i < vs.length) (v : Value) : BxN (w.setCell ⟨b, i, none⟩ v) b (vs.set i v) := by
  refine ⟨by simpa using h.lt, fun j u hj => ?_, fun j => (World.frozen?_setCell _ _ _ _).trans (h.free j)⟩
  rw [List.getElem?_set] at hj
  by_cases e : i = j
  · subst e
    rw [if_pos rfl, if_pos hi] at hj
    obtain rfl : v = u := by simpa using hj
    exact World.cell?_setCell_same _ _ _ (h.cells i _ (List.getElem?_eq_getElem hi))
  · rw [if_neg e] at hj
    exact (World.cell?_setCell_other _ _ _ _ (fun x => e (congrArg Addr.off x))).trans (h.cells j u hj)
theorem BxN.far {w : World} {b : Nat} {vs : List Value} (h : BxN w b vs) {p : Addr} (hp : p.block ≠ b) (v : Value) : BxN (w.setCell p v) b vs :=
  ⟨by simpa using h.lt, fun j u hj => (World.cell?_setCell_other _ _ _ _ (fun x => hp (congrArg Addr.block x))).trans (h.cells j u hj), fun j => (World.frozen?_setCell _ _ _ _).trans (h.free j)⟩
theorem BxN.drew {w : World} {b : Nat} {vs : List Value} (h : BxN w b vs) : BxN w.drew b vs := ⟨h.lt, h.cells, h.free⟩

/-- The n strings of a slice, nil or not. -/
def Strs (w : World) (a : Option Addr) (n : Nat) (S : Nat → ByteArray) : Prop :=
  n = 0 ∨ ∃ b off, a = some ⟨b, off, none⟩ ∧ b < w.heap.size ∧ ∀ i, i < n → w.cell? ⟨b, off + i, none⟩ = some (.string (S i))
theorem Strs.below {w w' : World} {a : Option Addr} {n : Nat} {S : Nat → ByteArray} (h : Strs w a n S) (hb : Below w.heap.size w w') : Strs w' a n S := by
  rcases h with h | ⟨b, off, rfl, hB, hc⟩
  · exact .inl h
  · exact .inr ⟨b, off, rfl, Nat.lt_of_lt_of_le hB hb.size, fun i hi => (hb.cell (p := ⟨b, off + i, none⟩) hB).trans (hc i hi)⟩
/-- What the frame of a law tells of such a slice that came in. -/
def StrArg (w : World) (a : Option Addr) (n : Nat) (S : Nat → ByteArray) : Prop := n ≤ 9223372036854775807 ∧ Strs w a n S ∧ ∀ i, i < n → (S i).size ≤ 9223372036854775807
def strOf : Value → ByteArray
  | .string s => s
  | _ => ByteArray.empty
theorem strArg_of {H : Type} {enc : TypeId × Value → H} {P : Program} {w : World} {base : Nat} {spare : Nat → Bool} {held : Bool} {t e : TypeId} {fuel : Nat} {x : DataW H × List MemPlace} {u : Option Addr} {m c : Nat} {cs0 : List Value} (hcs0 : cs0 = [.slice u m c])
    (ht : P.underlying t = some (.slice e)) (he : P.underlying e = some .string) (ce : P.cellsOf e = 1) (h : DataW.trod enc P w base spare held fuel t cs0 = some x) : ∃ S, StrArg w u m S := by
  subst hcs0
  rcases Go.Deep.open_slice ht h with ⟨hcs, _⟩ | ⟨a, l, cp, mm, n, D, Pl, hcs, _, hl, hm, hmm, _, hi⟩
  · simp at hcs
    obtain ⟨rfl, rfl, rfl⟩ := hcs
    exact ⟨fun _ => ByteArray.empty, by omega, .inl rfl, fun i hi => absurd hi (Nat.not_lt_zero _)⟩
  · simp at hcs
    obtain ⟨rfl, rfl, rfl⟩ := hcs
    unfold maxLen at hm
    have hmm2 : m ≤ mm := by rw [hmm]; split <;> omega
    rw [ce] at hi
    have each : ∀ i, i < m → ∃ s : ByteArray, w.cell? (a.add i) = some (.string s) ∧ s.size ≤ 9223372036854775807 := by
      intro i hi'
      obtain ⟨cs, k0, t0⟩ := hi i (by omega)
      obtain ⟨_, hcl, hat⟩ := World.cells?_some k0
      obtain ⟨s, e0, _, w0⟩ := DataW.trod_string he t0
      have h0 := hat 0 (by omega)
      rw [e0] at h0
      rw [Nat.mul_one] at h0
      exact ⟨s, by simpa [Addr.add] using h0, by unfold maxLen at w0; omega⟩
    refine ⟨fun i => strOf ((w.cell? (a.add i)).getD undef), by omega, ?_, fun i hi => ?_⟩
    · by_cases hz : m = 0
      · exact .inl hz
      · obtain ⟨b, off, spot⟩ := a
        obtain ⟨s, hc, _⟩ := each 0 (by omega)
        have hspot : spot = none := by simpa [Addr.add] using World.cell?_spot hc
        subst hspot
        refine .inr ⟨b, off, rfl, World.block_lt_of_cell? w ⟨b, off, none⟩ (by simpa [Addr.add] using hc), fun i hi => ?_⟩
        obtain ⟨s, e, _⟩ := each i hi
        simp only [e, Option.getD_some, strOf]
        rw [Addr.add_lit] at e
        exact e
    · obtain ⟨s, e, hs⟩ := each i hi
      simp only [e, Option.getD_some, strOf]
      exact hs
theorem strArg_of' {H : Type} {enc : TypeId × Value → H} {P : Program} {w : World} {base : Nat} {spare : Nat → Bool} {held : Bool} {t e : TypeId} {fuel : Nat} {x : DataW H × List MemPlace} {cs0 : List Value}
    (ht : P.underlying t = some (.slice e)) (he : P.underlying e = some .string) (ce : P.cellsOf e = 1) (h : DataW.trod enc P w base spare held fuel t cs0 = some x) : ∃ u m c S, cs0 = [.slice u m c] ∧ StrArg w u m S := by
  have h' := h
  rcases Go.Deep.open_slice ht h with ⟨hcs, _⟩ | ⟨a, l, cp, mm, n, D, Pl, hcs, _⟩
  · obtain ⟨S, hS⟩ := strArg_of hcs ht he ce h'
    exact ⟨_, _, _, S, hcs, hS⟩
  · obtain ⟨S, hS⟩ := strArg_of hcs ht he ce h'
    exact ⟨_, _, _, S, hcs, hS⟩
/-- A struct of a code, two numbers and a slice of strings, opened. -/
theorem wide_open {H : Type} {enc : TypeId × Value → H} {P : Program} {w : World} {base : Nat} {spare : Nat → Bool} {held : Bool} {r : Reach} {b0 : Nat} {t e : TypeId} {f0 f1 f2 f3 g0 g1 : Field} {v : Value} {d : DataW H} {p : List MemPlace}
    (hs : P.underlying t = some (.struct #[f0, f1, f2, f3])) (hc : P.underlying f0.type = some (.struct #[g0, g1])) (hC : P.cellsOf t = 5)
    (off : f0.offset = 0 ∧ f1.offset = 2 ∧ f2.offset = 3 ∧ f3.offset = 4 ∧ g0.offset = 0 ∧ g1.offset = 1)
    (siz : P.cellsOf f0.type = 2 ∧ P.cellsOf f1.type = 1 ∧ P.cellsOf f2.type = 1 ∧ P.cellsOf f3.type = 1 ∧ P.cellsOf g0.type = 1 ∧ P.cellsOf g1.type = 1)
    (i0 : P.underlying g0.type = some (.int .i64)) (i1 : P.underlying g1.type = some (.int .i64)) (i2 : P.underlying f1.type = some (.int .i64)) (i3 : P.underlying f2.type = some (.int .i64))
    (ht : P.underlying f3.type = some (.slice e)) (he : P.underlying e = some .string) (ce : P.cellsOf e = 1)
    (hv : Value.okWide P w r b0 t v) (h : DataW.Trod enc P w base spare held t v d p) :
    ∃ (x0 x1 x2 x3 : Int) (a : Option Addr) (n cap : Nat) (S : Nat → ByteArray), v = .agg #[.int .i64 x0, .int .i64 x1, .int .i64 x2, .int .i64 x3, .slice a n cap] ∧ StrArg w a n S := by
  obtain ⟨cs, rfl, hsz⟩ := okWide_struct hs hv
  obtain ⟨l⟩ := cs
  obtain ⟨p0, p1, p2, p3, p4, p5⟩ := off
  obtain ⟨q0, q1, q2, q3, q4, q5⟩ := siz
  match l, hsz.trans hC with
  | [c0, c1, c2, c3, c4], _ =>
    obtain ⟨fuel, hf⟩ := h
    obtain ⟨xs, n, _, _, _, hlen, hg⟩ := DataW.trod_struct hs hf
    match xs, hlen with
    | [y0, y1, y2, y3], _ =>
      have t0 := hg 0 f0 rfl
      have t1 := hg 1 f1 rfl
      have t2 := hg 2 f2 rfl
      have t3 := hg 3 f3 rfl
      rw [p0, q0] at t0
      rw [p1, q1] at t1
      rw [p2, q2] at t2
      rw [p3, q3] at t3
      simp [Value.cells] at t0 t1 t2 t3
      obtain ⟨z2, e2, _, _⟩ := DataW.trod_int i2 t1
      obtain ⟨z3, e3, _, _⟩ := DataW.trod_int i3 t2
      obtain ⟨a, nn, cap, S, e4, hS⟩ := strArg_of' ht he ce t3
      obtain ⟨xs', n', _, _, _, hlen', hg'⟩ := DataW.trod_struct hc t0
      match xs', hlen' with
      | [u0, u1], _ =>
        have v0 := hg' 0 g0 rfl
        have v1 := hg' 1 g1 rfl
        rw [p4, q4] at v0
        rw [p5, q5] at v1
        simp at v0 v1
        obtain ⟨z0, e0, _, _⟩ := DataW.trod_int i0 v0
        obtain ⟨z1, e1, _, _⟩ := DataW.trod_int i1 v1
        simp at e0 e1 e2 e3 e4
        subst e0 e1 e2 e3 e4
        exact ⟨z0, z1, z2, z3, a, nn, cap, S, rfl, hS⟩
end Go.Proofs.YtbnjgehgaellmaaDoor.Sg
