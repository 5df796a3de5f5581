/-
  Trees read as data are trees of the elder notion (TD, TIn).
-/
import Derived.Test.YtigaoimnhebegaaDTree
import Derived.Test.YtigaoimnhebegaaTlaw
namespace Go.Proofs.Ytigaoimnhebegaa.Rd
open Go.RowKit Go.ChangeShapes Go.WideShapes
open Go.Proofs.Ytigaoimnhebegaa.Tm (TD TA TIn)
open Go.Proofs.Ytigaoimnhebegaa.MixC (Words)
set_option linter.unusedVariables false
set_option linter.unusedSimpArgs false

def TDof (t : DTree) : TD where
  dn := t.devices.length
  df := fun i => (t.devices.getD i default).id
  dg := fun i => (t.devices.getD i default).weight
  bn := t.buckets.length
  bf := fun i => (t.buckets.getD i default).id
  bg := fun i => (t.buckets.getD i default).kind
  L := fun i => (t.buckets.getD i default).items
theorem getD_at {α : Type} [Inhabited α] {l : List α} {i : Nat} (h : i < l.length) : l.getD i default = l[i] := by rw [List.getD_eq_getElem?_getD, List.getElem?_eq_getElem h]; rfl
instance : Inhabited (Option Addr × Nat) := ⟨none, 0⟩
theorem recs_of {fr : Bool} {lo : Nat} {w : World} {a : Option Addr} {l : List DDevice} (h : Rows fr lo w a l) : Rc.Recs w a l.length (fun i => (l.getD i default).id) (fun i => (l.getD i default).weight) := by
  rcases h with h | ⟨b, off, e, h0, hB, hf, hc⟩
  · exact .inl (by rw [h]; rfl)
  · refine .inr ⟨b, off, e, hB, fun i hi => ?_⟩
    obtain ⟨cs, r, cc⟩ := hc i _ (List.getElem?_eq_getElem hi)
    obtain ⟨rfl, -, -⟩ := shape_Device r
    dsimp only
    rw [getD_at hi]
    exact ⟨cc 0 _ rfl, cc 1 _ rfl⟩
theorem bks_of {fr : Bool} {lo : Nat} {w : World} {a : Option Addr} {l : List DBucket} (h : Rows fr lo w a l) : ∃ I C, Bk.Bks w a l.length (fun i => (l.getD i default).id) (fun i => (l.getD i default).kind) I (fun i => (l.getD i default).items) C := by
  rcases h with h | ⟨b, off, e, h0, hB, hf, hc⟩
  · exact ⟨fun _ => none, fun _ => 0, .inl (by rw [h]; rfl)⟩
  · obtain ⟨V, hV⟩ := Go.Deep.choose_lt (α := Option Addr × Nat) (n := l.length) (p := fun i v => w.cell? ⟨b, off + i * 3, none⟩ = some (.int .i64 (l.getD i default).id) ∧ w.cell? ⟨b, off + i * 3 + 1, none⟩ = some (.int .i64 (l.getD i default).kind) ∧
        w.cell? ⟨b, off + i * 3 + 2, none⟩ = some (.slice v.1 (l.getD i default).items.length v.2) ∧ Words w v.1 (l.getD i default).items) (fun i hi => by
      obtain ⟨cs, r, cc⟩ := hc i _ (List.getElem?_eq_getElem hi)
      obtain ⟨a2, c2, rfl, -, -, f2, -⟩ := shape_Bucket r
      rw [getD_at hi]
      exact ⟨(a2, c2), cc 0 _ rfl, cc 1 _ rfl, cc 2 _ rfl, rows_words f2⟩)
    exact ⟨fun i => (V i).1, fun i => (V i).2, .inr ⟨b, off, e, hB, hV⟩⟩
theorem tin_of {fr : Bool} {lo : Nat} {w : World} {a0 a1 : Option Addr} {t : DTree} (h0 : Rows fr lo w a0 t.devices) (h1 : Rows fr lo w a1 t.buckets) (c0 c1 : Nat) : ∃ I C, TIn w (TDof t) ⟨a0, c0, a1, c1, I, C⟩ := by
  obtain ⟨I, C, hb⟩ := bks_of h1
  exact ⟨I, C, recs_of h0, hb⟩
theorem tsz_of {t : DTree} (h : Rdb.sz t ≤ 2097152) : (TDof t).Sz := by
  have e : Rdb.sz t = Rdb.sz t.devices + Rdb.sz t.buckets := rfl
  have e1 := sz_len t.devices
  have e2 := sz_len t.buckets
  refine ⟨by show t.devices.length ≤ _; omega, by show t.buckets.length ≤ _; omega, fun i hi => ?_⟩
  show (t.buckets.getD i default).items.length ≤ _
  have hi' : i < t.buckets.length := hi
  rw [getD_at hi']
  have e3 := sz_mem (List.getElem?_eq_getElem hi')
  have e4 : Rdb.sz t.buckets[i] = Rdb.sz t.buckets[i].items := rfl
  have e5 := sz_len t.buckets[i].items
  omega
theorem twf_of {fr : Bool} {lo : Nat} {w : World} {a1 : Option Addr} {t : DTree} (h1 : Rows fr lo w a1 t.buckets) : (TDof t).Wf := by
  intro j hj x hx
  have hj' : j < t.buckets.length := hj
  have hx' : x ∈ (t.buckets.getD j default).items := hx
  rw [getD_at hj'] at hx'
  obtain ⟨b, off, cs, e, _, _, r, _⟩ := h1.at' (List.getElem?_eq_getElem hj')
  obtain ⟨a2, c2, rfl, -, -, f2, -⟩ := shape_Bucket r
  exact rows_wf f2 x hx'
end Go.Proofs.Ytigaoimnhebegaa.Rd
