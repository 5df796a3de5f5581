/-
  The generator matrix: what the program's function returns.
-/
import Derived.Test.YtbnjgehgaellmaaMatRes
import Derived.Test.YtbnjgehgaellmaaUnit
import Derived.Deep.RegionLaw
import Derived.Deep.DeepCutAuto
namespace Go.Proofs.Ytbnjgehgaellmaa.Gf2
open Go.RowKit Go.Proofs.Ytbnjgehgaellmaa.At Go.Proofs.Ytbnjgehgaellmaa.MixC Go.Proofs.Ytbnjgehgaellmaa.Ml Go.Proofs.Ytbnjgehgaellmaa.Gr Go.Proofs.Ytbnjgehgaellmaa.Gj Go.Proofs.Ytbnjgehgaellmaa.GfI
set_option linter.unusedVariables false

/-- copy of numbers as one step of a region that draws its order. -/
theorem step_copy_ints {k : IntKind} {P : Program} {ops : Array Oper} {o : Oper} {a : Act} {w : World} {K : Act → World → Prop} {Q : Exit → Act → World → Prop} {E : Prop} (hgd : o.guard = none) (d s : Operand) (dT sT : TypeId)
    (ho : o.op = .call { callee := .builtin .copy, args := #[d, s], argTypes := #[dT, sT] }) (elem : TypeId) (hu : P.underlying dT = some (.slice elem)) (hsz : (P.info? elem).map (·.size) = some 1)
    (g off dLen dCap : Nat) (ad : Addr) (sLen sCap : Nat) (hd : a.eval d = .slice (some ⟨g, off, none⟩) dLen dCap) (hs : a.eval s = .slice (some ad) sLen sCap)
    (zs : List Int) (hn : zs.length = Nat.min sLen dLen) (hcell : ∀ j, j < zs.length → w.cell? (ad.add j) = some (.int k (zs.getD j 0)))
    (hc : ∀ j, j < zs.length → (w.cell? ⟨g, off + j, none⟩).isSome = true) (hf : ∀ j, w.frozen? ⟨g, j, none⟩ = false)
    (h : ∀ w', Wrote k w w' g off zs.length (fun i => zs.getD i 0) → K (a.put o.dst (goInt zs.length)) w') :
    if Region.wanted o (yielded ops a.tmps) = true then Oper.wp P o a w K Q else E := by
  have hw : Region.wanted o (yielded ops a.tmps) = true := by simp [Region.wanted, hgd]
  rw [if_pos hw]
  have hl : (zs.map (Value.int k)).length = zs.length := by simp
  have hrun := run_copy_cells (P := P) w dT sT o.type elem g off dLen dCap ad sLen sCap (zs.map (Value.int k)) hu hsz (by rw [hl]; exact hn)
    (fun j v hv => by
      have hj : j < zs.length := by
        rcases Nat.lt_or_ge j zs.length with hj | hj
        · exact hj
        · rw [List.getElem?_eq_none (by simpa using hj)] at hv; cases hv
      rw [List.getElem?_map, List.getElem?_eq_getElem hj] at hv
      have := hcell j hj
      rw [List.getD_eq_getElem?_getD, List.getElem?_eq_getElem hj] at this
      rw [this]; simpa using hv)
    (fun j hj => hc j (by rw [hl] at hj; exact hj)) (fun j _ => hf _) (by intro v hv; obtain ⟨z, _, rfl⟩ := List.mem_map.1 hv; rfl)
  have hwr := Wrote.copied (k := k) (w := w) (g := g) (o := off) (cs := zs) hc
  unfold Oper.wp
  simp [execOp, ho, resolve, invoke, builtin, hd, hs, hrun, Result.andThen]
  exact h _ hwr

theorem Mat_prefix {k : IntKind} {B : Nat} {w w1 : World} {g h wd p : Nat} {M M' : Mx} (m : Mat k B w g h wd M) (hp : p ≤ h) (r : Wrote k w w1 g 0 (p * wd) (fun x => (flat p wd M').getD x 0)) :
    Mat k B w1 g h wd (fun i j => if i < p then M' i j else M i j) := by
  refine ⟨m.old, Nat.lt_of_lt_of_le m.lt r.size, fun i j hi hj => ?_, fun i => (r.free i).trans (m.free i)⟩
  by_cases e : i < p
  · rw [if_pos e]
    have hx := flat_lt e hj
    have := r.cell _ hx
    have hw : 0 < wd := by omega
    rw [Nat.zero_add, flat_get hx] at this
    rw [this]
    have h1 : (i * wd + j) / wd = i := by rw [Nat.mul_comm, Nat.mul_add_div hw, Nat.div_eq_of_lt hj]; rfl
    have h2 : (i * wd + j) % wd = j := by rw [Nat.mul_comm, Nat.mul_add_mod, Nat.mod_eq_of_lt hj]
    rw [h1, h2]
  · rw [if_neg e, r.out _ (.inr ?_)]
    · exact m.cell i j hi hj
    · have : p * wd ≤ i * wd := Nat.mul_le_mul_right _ (by omega)
      omega

theorem undrew {V w1 : World} (h : Below V.drew.heap.size V.drew w1) : Below V.heap.size V w1 := ⟨h.os, h.tape, h.output, h.size, h.block⟩
/-- The generator matrix's cells. -/
def codeM (k : Nat) : Mx := fun i j => if i < k then unitZ i j else mulZ i (invZ (xorZ i j))
def codeTo (k p : Nat) : Mx := fun a b => if a < p then codeM k a b else 0
def codeIn (k p q : Nat) : Mx := fun a b => if a < p ∨ (a = p ∧ b < q) then codeM k a b else 0
theorem codeIn_zero (k p : Nat) : codeTo k p = codeIn k p 0 := by
  funext a b; unfold codeTo codeIn
  by_cases e : a < p
  · rw [if_pos e, if_pos (.inl e)]
  · rw [if_neg e, if_neg (by omega)]
theorem codeIn_full {k p b a : Nat} (hb : b < k) : codeIn k p k a b = codeTo k (p + 1) a b := by
  unfold codeTo codeIn
  by_cases e : a < p + 1
  · rw [if_pos e, if_pos (by omega)]
  · rw [if_neg e, if_neg (by omega)]
theorem codeIn_step {k p q : Nat} (hp : k ≤ p) {v : Int} (hv : v = mulZ p (invZ (xorZ p q))) (a b : Nat) : (if a = p ∧ b = q then v else codeIn k p q a b) = codeIn k p (q + 1) a b := by
  unfold codeIn
  by_cases e : a = p ∧ b = q
  · obtain ⟨rfl, rfl⟩ := e
    rw [if_pos ⟨rfl, rfl⟩, if_pos (.inr ⟨rfl, by omega⟩), hv]
    unfold codeM; rw [if_neg (by omega)]
  · rw [if_neg e]
    by_cases q : a < p ∨ (a = p ∧ b < q)
    · rw [if_pos q, if_pos (by omega)]
    · rw [if_neg q, if_neg (by omega)]

theorem Mat_cellAt {k : IntKind} {B : Nat} {w : World} {g h wd : Nat} {M : Mx} (m : Mat k B w g h wd M) {x : Nat} (hx : x < h * wd) : w.cell? ⟨g, x, none⟩ = some (.int k ((flat h wd M).getD x 0)) := by
  have hw : 0 < wd := by rcases Nat.eq_zero_or_pos wd with q | q; (rw [q, Nat.mul_zero] at hx; omega); exact q
  have := m.cell (x / wd) (x % wd) (by rw [Nat.div_lt_iff_lt_mul hw]; exact hx) (Nat.mod_lt _ hw)
  rw [flat_get hx, ← this, Nat.mul_comm, Nat.div_add_mod]
theorem len_min {k q N : Nat} {M : Mx} (hq : q = k * k) (h : q ≤ N) : (flat k k M).length = Nat.min q N := by rw [flat_length, ← hq]; exact (Nat.min_eq_left h).symm
theorem src_cells {k : IntKind} {B : Nat} {w : World} {g n : Nat} {M : Mx} (m : Mat k B w g n n M) (j : Nat) (hj : j < (flat n n M).length) : w.cell? ((⟨g, 0, none⟩ : Addr).add j) = some (.int k ((flat n n M).getD j 0)) := by
  rw [flat_length] at hj
  rw [Addr.add_lit, Nat.zero_add]; exact Mat_cellAt m hj
theorem dst_cells {k : IntKind} {B : Nat} {w : World} {g h n : Nat} {M M' : Mx} (m : Mat k B w g h n M) (hn : n ≤ h) (j : Nat) (hj : j < (flat n n M').length) : (w.cell? ⟨g, 0 + j, none⟩).isSome = true := by
  rw [flat_length] at hj
  have : n * n ≤ h * n := Nat.mul_le_mul_right _ hn
  rw [Nat.zero_add, Mat_cellAt m (x := j) (by omega)]; rfl
theorem code_start {B : Nat} {w w1 : World} {g h k : Nat} (m : Mat .i64 B w g h k (fun _ _ => 0)) (hk : k ≤ h) (r : Wrote .i64 w w1 g 0 (flat k k unitZ).length (fun x => (flat k k unitZ).getD x 0)) : Mat .i64 B w1 g h k (codeTo k k) := by
  rw [flat_length] at r
  refine (Mat_prefix m hk r).ext fun i j _ _ => ?_
  unfold codeTo codeM
  by_cases e : i < k
  · rw [if_pos e, if_pos e, if_pos e]
  · rw [if_neg e, if_neg e]

end Go.Proofs.Ytbnjgehgaellmaa.Gf2
