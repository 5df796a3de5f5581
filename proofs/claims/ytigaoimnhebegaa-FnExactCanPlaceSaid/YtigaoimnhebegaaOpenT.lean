/-
  Arguments of the laws, opened: a tree (two slices, the second of structs with a slice inside), a rule.
-/
import Derived.Test.YtigaoimnhebegaaBkts
import Derived.Test.YtigaoimnhebegaaStrs
import Derived.Lib.SmallJoins
namespace Go.Proofs.Ytigaoimnhebegaa.Op
open Go.RowKit Go.ChangeShapes Go.WideShapes Go.Proofs.Ytigaoimnhebegaa.At Go.Proofs.Ytigaoimnhebegaa.MixC
open Go.Proofs.Ytigaoimnhebegaa.Rc (RecArg recArg_of Recs)
open Go.Proofs.Ytigaoimnhebegaa.Bk (Bks)
set_option linter.unusedVariables false

/-- A slice of numbers that came in as one cell. -/
theorem row_of {H : Type} {enc : TypeId × Value → H} {P : Program} {w : World} {base : Nat} {spare : Nat → Bool} {held : Bool} {t e : TypeId} {fuel : Nat} {x : DataW H × List MemPlace} {cs : List Value}
    (ht : P.underlying t = some (.slice e)) (he : P.underlying e = some (.int .i64)) (ce : P.cellsOf e = 1) (h : DataW.trod enc P w base spare held fuel t cs = some x) :
    ∃ a len cap zs, cs = [.slice a len cap] ∧ zs.length = len ∧ len ≤ 9223372036854775807 ∧ Words w a zs ∧ ∀ n ∈ zs, (Lit.int .i64 n).wf = true := by
  rcases open_ints ht he ce h with ⟨hcs, _⟩ | ⟨a, len, cap, zs, hcs, _, hl, hm, hz, _, hcell, hwz⟩
  · exact ⟨none, 0, 0, [], hcs, rfl, by omega, .inl rfl, fun n hn => by cases hn⟩
  · unfold maxLen at hm
    have hlz : len ≤ zs.length := by rw [hz]; split <;> omega
    refine ⟨some a, len, cap, zs.take len, hcs, by rw [List.length_take]; omega, by omega, ?_, fun n hn => hwz n (List.mem_of_mem_take hn)⟩
    by_cases h0 : len = 0
    · exact .inl (by rw [h0]; rfl)
    · obtain ⟨b, off, spot⟩ := a
      have hc := hcell 0 (by omega)
      have hspot : spot = none := by simpa [Addr.add] using World.cell?_spot hc
      subst hspot
      refine .inr ⟨b, off, rfl, World.block_lt_of_cell? w ⟨b, off, none⟩ (by simpa [Addr.add] using hc), fun i hi => ?_⟩
      rw [List.length_take] at hi
      have := hcell i (by omega)
      rw [Addr.add_lit] at this
      rw [this, List.getD_eq_getElem?_getD, List.getD_eq_getElem?_getD, List.getElem?_take, if_pos (by omega)]
/-- What the frame of a law tells of a slice of buckets that came in. -/
structure BkArg (w : World) (a : Option Addr) (n : Nat) (f g : Nat → Int) (I : Nat → Option Addr) (L : Nat → List Int) (C : Nat → Nat) : Prop where
  top : n ≤ 9223372036854775807
  bks : Bks w a n f g I L C
  len : ∀ i, i < n → (L i).length ≤ 9223372036854775807
  wf : ∀ i, i < n → ∀ x, x ∈ L i → (Lit.int .i64 x).wf = true
instance : Inhabited (Int × Int × Option Addr × Nat × List Int) := ⟨0, 0, none, 0, []⟩
theorem bkArg_of {H : Type} {enc : TypeId × Value → H} {P : Program} {w : World} {base : Nat} {spare : Nat → Bool} {held : Bool} {t e e2 : TypeId} {f0 f1 f2 : Field} {fuel : Nat} {x : DataW H × List MemPlace} {cs0 : List Value}
    (ht : P.underlying t = some (.slice e)) (he : P.underlying e = some (.struct #[f0, f1, f2])) (ce : P.cellsOf e = 3) (off : f0.offset = 0 ∧ f1.offset = 1 ∧ f2.offset = 2) (siz : P.cellsOf f0.type = 1 ∧ P.cellsOf f1.type = 1 ∧ P.cellsOf f2.type = 1)
    (i0 : P.underlying f0.type = some (.int .i64)) (i1 : P.underlying f1.type = some (.int .i64)) (i2 : P.underlying f2.type = some (.slice e2)) (i3 : P.underlying e2 = some (.int .i64)) (c3 : P.cellsOf e2 = 1)
    (h : DataW.trod enc P w base spare held fuel t cs0 = some x) : ∃ u m c f g I L C, cs0 = [.slice u m c] ∧ BkArg w u m f g I L C := by
  obtain ⟨o0, o1, o2⟩ := off
  obtain ⟨q0, q1, q2⟩ := siz
  rcases Go.Deep.open_slice ht h with ⟨hcs, _⟩ | ⟨a, l, cp, mm, n, D, Pl, hcs, _, hl, hm, hmm, _, hi⟩
  · exact ⟨none, 0, 0, fun _ => 0, fun _ => 0, fun _ => none, fun _ => [], fun _ => 0, hcs, ⟨by omega, .inl rfl, fun i hi => absurd hi (Nat.not_lt_zero _), fun i hi => absurd hi (Nat.not_lt_zero _)⟩⟩
  · unfold maxLen at hm
    have hmm2 : l ≤ mm := by rw [hmm]; split <;> omega
    rw [ce] at hi
    obtain ⟨V, hV⟩ := Go.Deep.choose_lt (α := Int × Int × Option Addr × Nat × List Int) (n := l) (p := fun i v => w.cell? (a.add (i * 3)) = some (.int .i64 v.1) ∧ w.cell? (a.add (i * 3 + 1)) = some (.int .i64 v.2.1) ∧ w.cell? (a.add (i * 3 + 2)) = some (.slice v.2.2.1 v.2.2.2.2.length v.2.2.2.1) ∧ Words w v.2.2.1 v.2.2.2.2 ∧ v.2.2.2.2.length ≤ 9223372036854775807 ∧ ∀ x ∈ v.2.2.2.2, (Lit.int .i64 x).wf = true) (fun i hi' => by
      obtain ⟨cs, k0, t0⟩ := hi i (by omega)
      obtain ⟨_, hcl, hat⟩ := World.cells?_some k0
      obtain ⟨xs, n', _, _, hlc, hlen, hg⟩ := DataW.trod_struct he t0
      match cs, hcl with
      | [v0, v1, v2], _ =>
        match xs, hlen with
        | [y0, y1, y2], _ =>
          have t0 := hg 0 f0 rfl
          have t1 := hg 1 f1 rfl
          have t2 := hg 2 f2 rfl
          rw [o0, q0] at t0
          rw [o1, q1] at t1
          rw [o2, q2] at t2
          simp at t0 t1 t2
          obtain ⟨z0, e0, _, _⟩ := DataW.trod_int i0 t0
          obtain ⟨z1, e1, _, _⟩ := DataW.trod_int i1 t1
          obtain ⟨ia, il, ic, zs, e2, hzl, hil, hw, hwf⟩ := row_of i2 i3 c3 t2
          simp at e0 e1 e2
          have a0 := hat 0 (by omega)
          have a1 := hat 1 (by omega)
          have a2 := hat 2 (by omega)
          simp only [List.getElem?_cons_zero, List.getElem?_cons_succ] at a0 a1 a2
          rw [e0] at a0
          rw [e1] at a1
          rw [e2, ← hzl] at a2
          refine ⟨⟨z0, z1, ia, ic, zs⟩, ?_, ?_, ?_, hw, by dsimp only; omega, hwf⟩
          · simpa [Addr.add_add] using a0
          · simpa [Addr.add_add] using a1
          · simpa [Addr.add_add] using a2)
    refine ⟨some a, l, cp, fun i => (V i).1, fun i => (V i).2.1, fun i => (V i).2.2.1, fun i => (V i).2.2.2.2, fun i => (V i).2.2.2.1, hcs, ⟨by omega, ?_, fun i hi => (hV i hi).2.2.2.2.1, fun i hi => (hV i hi).2.2.2.2.2⟩⟩
    by_cases hz : l = 0
    · exact .inl hz
    · obtain ⟨b, off, spot⟩ := a
      have hc := (hV 0 (by omega)).1
      have hspot : spot = none := by simpa [Addr.add] using World.cell?_spot hc
      subst hspot
      refine .inr ⟨b, off, rfl, World.block_lt_of_cell? w ⟨b, off, none⟩ (by simpa [Addr.add] using hc), fun i hi => ?_⟩
      have e := hV i hi
      rw [Addr.add_lit, Addr.add_lit, Addr.add_lit, ← Nat.add_assoc, ← Nat.add_assoc] at e
      exact ⟨e.1, e.2.1, e.2.2.1, e.2.2.2.1⟩
theorem recArg_of' {H : Type} {enc : TypeId × Value → H} {P : Program} {w : World} {base : Nat} {spare : Nat → Bool} {held : Bool} {t e : TypeId} {f0 f1 : Field} {fuel : Nat} {x : DataW H × List MemPlace} {cs0 : List Value}
    (ht : P.underlying t = some (.slice e)) (he : P.underlying e = some (.struct #[f0, f1])) (ce : P.cellsOf e = 2) (o0 : f0.offset = 0) (o1 : f1.offset = 1) (c0 : P.cellsOf f0.type = 1) (c1 : P.cellsOf f1.type = 1)
    (i0 : P.underlying f0.type = some (.int .i64)) (i1 : P.underlying f1.type = some (.int .i64))
    (h : DataW.trod enc P w base spare held fuel t cs0 = some x) : ∃ u m c f g, cs0 = [.slice u m c] ∧ RecArg w u m f g := by
  have h' := h
  rcases Go.Deep.open_slice ht h with ⟨hcs, _⟩ | ⟨a, l, cp, mm, n, D, Pl, hcs, _⟩
  · obtain ⟨f, g, hS⟩ := recArg_of hcs ht he ce o0 o1 c0 c1 i0 i1 h'
    exact ⟨_, _, _, f, g, hcs, hS⟩
  · obtain ⟨f, g, hS⟩ := recArg_of hcs ht he ce o0 o1 c0 c1 i0 i1 h'
    exact ⟨_, _, _, f, g, hcs, hS⟩
/-- What the frame of a law tells of a tree that came in. -/
structure TreeArg (w : World) (da : Option Addr) (dn : Nat) (f g : Nat → Int) (ba : Option Addr) (bn : Nat) (F G : Nat → Int) (I : Nat → Option Addr) (L : Nat → List Int) (C : Nat → Nat) : Prop where
  dev : RecArg w da dn f g
  bkt : BkArg w ba bn F G I L C
theorem tree_open {H : Type} {enc : TypeId × Value → H} {P : Program} {w : World} {base : Nat} {spare : Nat → Bool} {held : Bool} {r : Reach} {b0 : Nat} {t td tb e2 : TypeId} {f0 f1 d0 d1 k0 k1 k2 : Field} {v : Value} {d : DataW H} {p : List MemPlace}
    (hs : P.underlying t = some (.struct #[f0, f1])) (hone : Deep.oneCellFields P #[f0, f1] = true) (hC : P.cellsOf t = 2)
    (sd : P.underlying f0.type = some (.slice td)) (ed : P.underlying td = some (.struct #[d0, d1])) (cd : P.cellsOf td = 2) (od : d0.offset = 0 ∧ d1.offset = 1) (qd : P.cellsOf d0.type = 1 ∧ P.cellsOf d1.type = 1) (id : P.underlying d0.type = some (.int .i64) ∧ P.underlying d1.type = some (.int .i64))
    (sb : P.underlying f1.type = some (.slice tb)) (eb : P.underlying tb = some (.struct #[k0, k1, k2])) (cb : P.cellsOf tb = 3) (ob : k0.offset = 0 ∧ k1.offset = 1 ∧ k2.offset = 2) (qb : P.cellsOf k0.type = 1 ∧ P.cellsOf k1.type = 1 ∧ P.cellsOf k2.type = 1)
    (ib : P.underlying k0.type = some (.int .i64) ∧ P.underlying k1.type = some (.int .i64) ∧ P.underlying k2.type = some (.slice e2)) (i3 : P.underlying e2 = some (.int .i64)) (c3 : P.cellsOf e2 = 1)
    (hv : Value.okWide P w r b0 t v) (h : DataW.Trod enc P w base spare held t v d p) :
    ∃ da dn dc f g ba bn bc F G I L C, v = .agg #[.slice da dn dc, .slice ba bn bc] ∧ TreeArg w da dn f g ba bn F G I L C := by
  obtain ⟨v0, v1, y0, y1, n, rfl, _, _, t0, t1⟩ := Joins.open_agg2 hs hone hC hv h
  obtain ⟨da, dn, dc, f, g, e0, R⟩ := recArg_of' sd ed cd od.1 od.2 qd.1 qd.2 id.1 id.2 t0
  obtain ⟨ba, bn, bc, F, G, I, L, C, e1, K⟩ := bkArg_of sb eb cb ob qb ib.1 ib.2.1 ib.2.2 i3 c3 t1
  simp at e0 e1
  exact ⟨da, dn, dc, f, g, ba, bn, bc, F, G, I, L, C, by rw [e0, e1], R, K⟩
/-- A struct of three numbers and a bool. -/
theorem rule_open {H : Type} {enc : TypeId × Value → H} {P : Program} {w : World} {base : Nat} {spare : Nat → Bool} {held : Bool} {r : Reach} {b0 : Nat} {t : TypeId} {f0 f1 f2 f3 : Field} {v : Value} {d : DataW H} {p : List MemPlace}
    (hs : P.underlying t = some (.struct #[f0, f1, f2, f3])) (hone : Deep.oneCellFields P #[f0, f1, f2, f3] = true) (hC : P.cellsOf t = 4)
    (ty : P.underlying f0.type = some (.int .i64) ∧ P.underlying f1.type = some (.int .i64) ∧ P.underlying f2.type = some (.int .i64) ∧ P.underlying f3.type = some .bool)
    (hv : Value.okWide P w r b0 t v) (h : DataW.Trod enc P w base spare held t v d p) :
    ∃ (x y z : Int) (b : Bool), v = .agg #[.int .i64 x, .int .i64 y, .int .i64 z, .bool b] ∧ (Lit.int .i64 x).wf = true ∧ (Lit.int .i64 y).wf = true ∧ (Lit.int .i64 z).wf = true := by
  obtain ⟨v0, v1, v2, v3, y0, y1, y2, y3, n, rfl, _, _, t0, t1, t2, t3⟩ := Joins.open_agg4 hs hone hC hv h
  obtain ⟨x, e0, _, w0⟩ := DataW.trod_int ty.1 t0
  obtain ⟨y, e1, _, w1⟩ := DataW.trod_int ty.2.1 t1
  obtain ⟨z, e2, _, w2⟩ := DataW.trod_int ty.2.2.1 t2
  obtain ⟨b, e3, _⟩ := DataW.trod_bool ty.2.2.2 t3
  simp at e0 e1 e2 e3
  exact ⟨x, y, z, b, by rw [e0, e1, e2, e3], w0, w1, w2⟩
end Go.Proofs.Ytigaoimnhebegaa.Op
