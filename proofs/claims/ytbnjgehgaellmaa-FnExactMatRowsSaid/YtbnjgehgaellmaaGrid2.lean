/-
  Grids: a copy of cells as one step of the walk; the unit grid; a grid out of a matrix, a matrix out of a grid.
-/
import Derived.Test.YtbnjgehgaellmaaGridFn
import Derived.Laws.CopyOwn
namespace Go.Proofs.Ytbnjgehgaellmaa.Gf2
open Go.RowKit Go.Proofs.Ytbnjgehgaellmaa.At Go.Proofs.Ytbnjgehgaellmaa.MixC Go.Proofs.Ytbnjgehgaellmaa.Ml Go.Proofs.Ytbnjgehgaellmaa.Gr Go.Proofs.Ytbnjgehgaellmaa.Gj
set_option linter.unusedVariables false

/-- copy of numbers into memory of the call's own. -/
theorem wpList_copy_ints {k : IntKind} {P : Program} {w : World} {ops : Array Oper} {rest : List Oper} {o : Oper} {a : Act} {Q : Exit → Act → World → Prop} (hgd : o.guard = none) (d s : Operand) (dT sT : TypeId)
    (ho : o.op = .call { callee := .builtin .copy, args := #[d, s], argTypes := #[dT, sT] }) (elem : TypeId) (hu : P.underlying dT = some (.slice elem)) (hsz : (P.info? elem).map (·.size) = some 1)
    (g off dLen dCap : Nat) (sp : Option Addr) (sLen sCap : Nat) (hd : a.eval d = .slice (some ⟨g, off, none⟩) dLen dCap) (hs : a.eval s = .slice sp sLen sCap)
    (zs : List Int) (hn : zs.length = Nat.min sLen dLen) (hsrc : 0 < zs.length → ∃ ad, sp = some ad ∧ ∀ j, j < zs.length → w.cell? (ad.add j) = some (.int k (zs.getD j 0)))
    (hc : ∀ j, j < zs.length → (w.cell? ⟨g, off + j, none⟩).isSome = true) (hf : ∀ j, w.frozen? ⟨g, j, none⟩ = false)
    (h : ∀ w', Wrote k w w' g off zs.length (fun i => zs.getD i 0) → wpList P ops Q rest (a.put o.dst (goInt zs.length)) w') : wpList P ops Q (o :: rest) a w := by
  by_cases h0 : zs.length = 0
  · refine wpList_copy_nothing hgd d s dT sT ho elem hu hsz _ sp dLen dCap sLen sCap hd hs (by omega) ?_
    have := h w (by rw [h0]; exact Part.zero)
    rwa [h0] at this
  · obtain ⟨ad, rfl, hcell⟩ := hsrc (by omega)
    refine wpList_plain hgd fun K hK => ?_
    have hl : (zs.map (Value.int k)).length = zs.length := by simp
    have hrun := run_copy_cells (P := P) w dT sT o.type elem g off dLen dCap ad sLen sCap (zs.map (Value.int k)) hu hsz (by rw [hl]; exact hn)
      (fun j v hv => by
        have hj : j < zs.length := by
          rcases Nat.lt_or_ge j zs.length with hj | hj
          · exact hj
          · rw [List.getElem?_eq_none (by simpa using hj)] at hv; cases hv
        rw [List.getElem?_map, List.getElem?_eq_getElem hj] at hv
        have := hcell j hj
        rw [List.getD_eq_getElem?_getD, List.getElem?_eq_getElem hj] at this
        rw [this]; simpa using hv)
      (fun j hj => hc j (by rw [hl] at hj; exact hj)) (fun j _ => hf _) (by intro v hv; obtain ⟨z, _, rfl⟩ := List.mem_map.1 hv; rfl)
    have hw := Wrote.copied (k := k) (w := w) (g := g) (o := off) (cs := zs) hc
    unfold Oper.wp
    simp [execOp, ho, resolve, invoke, builtin, hd, hs, hrun, Result.andThen]
    exact hK _ _ (h _ hw)

/-- A box of three cells that may be written. -/
structure Bx (w : World) (b : Nat) (x y z : Value) : Prop where
  lt : b < w.heap.size
  c0 : w.cell? ⟨b, 0, none⟩ = some x
  c1 : w.cell? ⟨b, 1, none⟩ = some y
  c2 : w.cell? ⟨b, 2, none⟩ = some z
  f0 : w.frozen? ⟨b, 0, none⟩ = false
  f1 : w.frozen? ⟨b, 1, none⟩ = false
  f2 : w.frozen? ⟨b, 2, none⟩ = false
theorem Bx.top (V : World) (x y z : Value) (T : TypeId) : Bx (V.alloc (.cells #[x, y, z] T)) V.heap.size x y z := by
  have r := box3 (Below.refl (V.alloc (.cells #[x, y, z] T)).heap.size (V.alloc (.cells #[x, y, z] T)))
  exact ⟨by simp, r.1, r.2.1, r.2.2.1, r.2.2.2.1, r.2.2.2.2.1, r.2.2.2.2.2⟩
theorem Bx.below {w w1 : World} {b : Nat} {x y z : Value} (h : Bx w b x y z) (k : Below w.heap.size w w1) : Bx w1 b x y z :=
  ⟨Nat.lt_of_lt_of_le h.lt k.size, (k.cell h.lt).trans h.c0, (k.cell h.lt).trans h.c1, (k.cell h.lt).trans h.c2, (k.frozen h.lt).trans h.f0, (k.frozen h.lt).trans h.f1, (k.frozen h.lt).trans h.f2⟩
theorem Bx.alloc {w : World} {b : Nat} {x y z : Value} (h : Bx w b x y z) (ob : Obj) : Bx (w.alloc ob) b x y z := h.below (lay _ _)
theorem Bx.far {w : World} {b : Nat} {x y z : Value} (h : Bx w b x y z) {p : Addr} (hp : p.block ≠ b) (v : Value) : Bx (w.setCell p v) b x y z := by
  have c : ∀ i, (w.setCell p v).cell? ⟨b, i, none⟩ = w.cell? ⟨b, i, none⟩ := fun i => World.cell?_setCell_other _ _ _ _ (fun e => hp (congrArg Addr.block e))
  have f : ∀ i, (w.setCell p v).frozen? ⟨b, i, none⟩ = w.frozen? ⟨b, i, none⟩ := fun i => World.frozen?_setCell _ _ _ _
  exact ⟨by simpa using h.lt, (c 0).trans h.c0, (c 1).trans h.c1, (c 2).trans h.c2, (f 0).trans h.f0, (f 1).trans h.f1, (f 2).trans h.f2⟩
theorem Bx.wrote {k : IntKind} {w w1 : World} {g o n : Nat} {F : Nat → Int} {b : Nat} {x y z : Value} (h : Bx w b x y z) (r : Wrote k w w1 g o n F) (hne : b ≠ g) : Bx w1 b x y z := by
  have c : ∀ i, w1.cell? ⟨b, i, none⟩ = w.cell? ⟨b, i, none⟩ := fun i => World.cell?_of_block (r.block b h.lt hne)
  have f : ∀ i, w1.frozen? ⟨b, i, none⟩ = w.frozen? ⟨b, i, none⟩ := fun i => World.frozen?_of_block (r.block b h.lt hne)
  exact ⟨Nat.lt_of_lt_of_le h.lt r.size, (c 0).trans h.c0, (c 1).trans h.c1, (c 2).trans h.c2, (f 0).trans h.f0, (f 1).trans h.f1, (f 2).trans h.f2⟩

set_option maxRecDepth 100000 in
theorem matrixOf (h wd : Nat) (a : Option Addr) (n cap : Nat) (w : World) :
    Calls Try.prog 45 #[.agg #[.int .i64 h, .int .i64 wd, .slice a n cap]] w (ValB (mval h wd (.slice a n cap)) w) := by
  go_enter Try.func45, Try.ntmps45
  go_wp2
  exact bodyPost_ret (v := mval h wd (.slice a n cap)) (by simp [results, Try.results45, go_sem]) rfl ⟨rfl, ((Below.refl _ _).alloc (Nat.le_refl _) _).alloc (by simp) _⟩

theorem unit_step {h k : Nat} {M : Mx} (hM : ∀ i j, M i j = if i = j ∧ i < k then 1 else 0) (i j : Nat) : (if i = k ∧ j = k then (1 : Int) else M i j) = if i = j ∧ i < k + 1 then 1 else 0 := by
  rw [hM]
  by_cases e : i = k ∧ j = k
  · rw [if_pos e, if_pos (by omega)]
  · rw [if_neg e]
    by_cases q : i = j ∧ i < k
    · rw [if_pos q, if_pos (by omega)]
    · rw [if_neg q, if_neg (by omega)]
def unitTo (k : Nat) : Mx := fun i j => if i = j ∧ i < k then 1 else 0

end Go.Proofs.Ytbnjgehgaellmaa.Gf2
