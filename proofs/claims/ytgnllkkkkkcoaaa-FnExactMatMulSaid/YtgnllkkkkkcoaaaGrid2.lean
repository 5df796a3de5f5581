/-
  Grids: a copy of cells as one step of the walk; the unit grid; a grid out of a matrix, a matrix out of a grid.
-/
import Derived.Test.YtgnllkkkkkcoaaaGridFn
import Derived.Laws.CopyOwn
namespace Go.Proofs.Ytgnllkkkkkcoaaa.Gf2
open Go.RowKit Go.Proofs.Ytgnllkkkkkcoaaa.At Go.Proofs.Ytgnllkkkkkcoaaa.MixC Go.Proofs.Ytgnllkkkkkcoaaa.Ml Go.Proofs.Ytgnllkkkkkcoaaa.Gr Go.Proofs.Ytgnllkkkkkcoaaa.Gj
set_option linter.unusedVariables false

/-- copy of numbers into memory of the call's own. -/
theorem wpList_copy_ints {k : IntKind} {P : Program} {w : World} {ops : Array Oper} {rest : List Oper} {o : Oper} {a : Act} {Q : Exit → Act → World → Prop} (hgd : o.guard = none) (d s : Operand) (dT sT : TypeId)
    (ho : o.op = .call { callee := .builtin .copy, args := #[d, s], argTypes := #[dT, sT] }) (elem : TypeId) (hu : P.underlying dT = some (.slice elem)) (hsz : (P.info? elem).map (·.size) = some 1)
    (g off dLen dCap : Nat) (sp : Option Addr) (sLen sCap : Nat) (hd : a.eval d = .slice (some ⟨g, off, none⟩) dLen dCap) (hs : a.eval s = .slice sp sLen sCap)
    (zs : List Int) (hn : zs.length = Nat.min sLen dLen) (hsrc : 0 < zs.length → ∃ ad, sp = some ad ∧ ∀ j, j < zs.length → w.cell? (ad.add j) = some (.int k (zs.getD j 0)))
    (hc : ∀ j, j < zs.length → (w.cell? ⟨g, off + j, none⟩).isSome = true) (hf : ∀ j, w.frozen? ⟨g, j, none⟩ = false)
    (h : ∀ w', Wrote k w w' g off zs.length (fun i => zs.getD i 0) → wpList P ops Q rest (a.put o.dst (goInt zs.length)) w') : wpList P ops Q (o :: rest) a w := by
  by_cases h0 : zs.length = 0
  · refine wpList_copy_nothing hgd d s dT sT ho elem hu hsz _ sp dLen dCap sLen sCap hd hs (by omega) ?_
    have := h w (by rw [h0]; exact Part.zero)
    rwa [h0] at this
  · obtain ⟨ad, rfl, hcell⟩ := hsrc (by omega)
    refine wpList_plain hgd fun K hK => ?_
    have hl : (zs.map (Value.int k)).length = zs.length := by simp
    have hrun := run_copy_cells (P := P) w dT sT o.type elem g off dLen dCap ad sLen sCap (zs.map (Value.int k)) hu hsz (by rw [hl]; exact hn)
      (fun j v hv => by
        have hj : j < zs.length := by
          rcases Nat.lt_or_ge j zs.length with hj | hj
          · exact hj
          · rw [List.getElem?_eq_none (by simpa using hj)] at hv; cases hv
        rw [List.getElem?_map, List.getElem?_eq_getElem hj] at hv
        have := hcell j hj
        rw [List.getD_eq_getElem?_getD, List.getElem?_eq_getElem hj] at this
        rw [this]; simpa using hv)
      (fun j hj => hc j (by rw [hl] at hj; exact hj)) (fun j _ => hf _) (by intro v hv; obtain ⟨z, _, rfl⟩ := List.mem_map.1 hv; rfl)
    have hw := Wrote.copied (k := k) (w := w) (g := g) (o := off) (cs := zs) hc
    unfold Oper.wp
    simp [execOp, ho, resolve, invoke, builtin, hd, hs, hrun, Result.andThen]
    exact hK _ _ (h _ hw)

/-- A box of three cells that may be written. -/
structure Bx (w : World) (b : Nat) (x y z : Value) : Prop where
  lt : b < w.heap.size
  c0 : w.cell? ⟨b, 0, none⟩ = some x
  c1 : w.cell? ⟨b, 1, none⟩ = some y
  c2 : w.cell? ⟨b, 2, none⟩ = some z
  f0 : w.frozen? ⟨b, 0, none⟩ = false
  f1 : w.frozen? ⟨b, 1, none⟩ = false
  f2 : w.frozen? ⟨b, 2, none⟩ = false
theorem Bx.top (V : World) (x y z : Value) (T : TypeId) : Bx (V.alloc (.cells #[x, y, z] T)) V.heap.size x y z := by
  have r := box3 (Below.refl (V.alloc (.cells #[x, y, z] T)).heap.size (V.alloc (.cells #[x, y, z] T)))
  exact ⟨by simp, r.1, r.2.1, r.2.2.1, r.2.2.2.1, r.2.2.2.2.1, r.2.2.2.2.2⟩
theorem Bx.below {w w1 : World} {b : Nat} {x y z : Value} (h : Bx w b x y z) (k : Below w.heap.size w w1) : Bx w1 b x y z :=
  ⟨Nat.lt_of_lt_of_le h.lt k.size, (k.cell h.lt).trans h.c0, (k.cell h.lt).trans h.c1, (k.cell h.lt).trans h.c2, (k.frozen h.lt).trans h.f0, (k.frozen h.lt).trans h.f1, (k.frozen h.lt).trans h.f2⟩
theorem Bx.alloc {w : World} {b : Nat} {x y z : Value} (h : Bx w b x y z) (ob : Obj) : Bx (w.alloc ob) b x y z := h.below (lay _ _)
theorem Bx.far {w : World} {b : Nat} {x y z : Value} (h : Bx w b x y z) {p : Addr} (hp : p.block ≠ b) (v : Value) : Bx (w.setCell p v) b x y z := by
  have c : ∀ i, (w.setCell p v).cell? ⟨b, i, none⟩ = w.cell? ⟨b, i, none⟩ := fun i => World.cell?_setCell_other _ _ _ _ (fun e => hp (congrArg Addr.block e))
  have f : ∀ i, (w.setCell p v).frozen? ⟨b, i, none⟩ = w.frozen? ⟨b, i, none⟩ := fun i => World.frozen?_setCell _ _ _ _
  exact ⟨by simpa using h.lt, (c 0).trans h.c0, (c 1).trans h.c1, (c 2).trans h.c2, (f 0).trans h.f0, (f 1).trans h.f1, (f 2).trans h.f2⟩
theorem Bx.wrote {k : IntKind} {w w1 : World} {g o n : Nat} {F : Nat → Int} {b : Nat} {x y z : Value} (h : Bx w b x y z) (r : Wrote k w w1 g o n F) (hne : b ≠ g) : Bx w1 b x y z := by
  have c : ∀ i, w1.cell? ⟨b, i, none⟩ = w.cell? ⟨b, i, none⟩ := fun i => World.cell?_of_block (r.block b h.lt hne)
  have f : ∀ i, w1.frozen? ⟨b, i, none⟩ = w.frozen? ⟨b, i, none⟩ := fun i => World.frozen?_of_block (r.block b h.lt hne)
  exact ⟨Nat.lt_of_lt_of_le h.lt r.size, (c 0).trans h.c0, (c 1).trans h.c1, (c 2).trans h.c2, (f 0).trans h.f0, (f 1).trans h.f1, (f 2).trans h.f2⟩

set_option maxRecDepth 100000 in
theorem matrixOf (h wd : Nat) (a : Option Addr) (n cap : Nat) (w : World) :
    Calls Try.prog 64 #[.agg #[.int .i64 h, .int .i64 wd, .slice a n cap]] w (ValB (mval h wd (.slice a n cap)) w) := by
  go_enter Try.func64, Try.ntmps64
  go_wp2
  exact bodyPost_ret (v := mval h wd (.slice a n cap)) (by simp [results, Try.results64, go_sem]) rfl ⟨rfl, ((Below.refl _ _).alloc (Nat.le_refl _) _).alloc (by simp) _⟩

theorem unit_step {h k : Nat} {M : Mx} (hM : ∀ i j, M i j = if i = j ∧ i < k then 1 else 0) (i j : Nat) : (if i = k ∧ j = k then (1 : Int) else M i j) = if i = j ∧ i < k + 1 then 1 else 0 := by
  rw [hM]
  by_cases e : i = k ∧ j = k
  · rw [if_pos e, if_pos (by omega)]
  · rw [if_neg e]
    by_cases q : i = j ∧ i < k
    · rw [if_pos q, if_pos (by omega)]
    · rw [if_neg q, if_neg (by omega)]
def unitTo (k : Nat) : Mx := fun i j => if i = j ∧ i < k then 1 else 0

set_option maxRecDepth 100000 in
theorem unitGrid (n : Nat) (hn : n ≤ 16) (w : World) :
    Calls Try.prog 65 #[.int .i64 n] w (NewG n n unitZ w) := by
  have hnn : n * n ≤ 16 * 16 := Nat.mul_le_mul hn hn
  obtain ⟨N, hN⟩ : ∃ N, N = n * n := ⟨_, rfl⟩
  have FIN : ∀ g e w', e = Ending.returned (gval n n g N) → Mat .i64 w.heap.size w' g n n unitZ → Below w.heap.size w w' → NewG n n unitZ w e w' := fun g e w' x y z => ⟨g, by rw [← hN]; exact x, y, z⟩
  have FIN := Lib.hid FIN
  have C := Lib.hid (newGrid n n (by omega))
  have HN := Lib.hid hN
  have R0 := Bx.top w (.int .i64 0) (.int .i64 0) (.slice none 0 0) 79
  clear hN
  go_enter Try.func65, Try.ntmps65
  go_wp2_with fail
  refine (C.out _).mono ?_
  rintro e w1 ⟨g, rfl, M0, b1⟩
  rw [← HN.out]
  have R1 := R0.below b1
  have T1 := Bx.top w1 (.int .i64 n) (.int .i64 n) (.slice (some ⟨g, 0, none⟩) N N) 79
  have hz := b1.size
  rw [World.size_alloc] at hz
  have hgw : w1.heap.size ≠ g := by have := M0.lt; omega
  have hg0 : w.heap.size < g := by have := M0.old; rw [World.size_alloc] at this; omega
  have B1 := chain (lay w _) b1
  have M1 := (M0.alloc (.cells #[.int .i64 n, .int .i64 n, .slice (some ⟨g, 0, none⟩) N N] 79)).ext (N := unitTo 0) (fun i j _ _ => by unfold unitTo; rw [if_neg (by omega)])
  have R2 := R1.alloc (.cells #[.int .i64 n, .int .i64 n, .slice (some ⟨g, 0, none⟩) N N] 79)
  have B2 := chain B1 (lay _ (.cells #[.int .i64 n, .int .i64 n, .slice (some ⟨g, 0, none⟩) N N] 79))
  clear R0 R1 b1 B1 M0
  go_wp2_with fail
  go_loopw [9] (fun i wr => ∃ k : Nat, k ≤ n ∧ i = .int .i64 k ∧ Mat .i64 (w.heap.size + 1) wr g n n (unitTo k) ∧ Bx wr w.heap.size (.int .i64 0) (.int .i64 0) (.slice none 0 0) ∧ Bx wr w1.heap.size (.int .i64 n) (.int .i64 n) (.slice (some ⟨g, 0, none⟩) N N) ∧ Below w.heap.size w wr) (fun i _ => n - (intOf i).toNat)
  case atStart => exact ⟨0, by omega, rfl, by rw [World.size_alloc] at M1; exact M1, R2, T1, B2⟩
  case round =>
    obtain ⟨k, hk, rfl, M, R, T, B⟩ := hrel
    clear M1 R2 T1 B2
    by_cases hlt : k < n
    · have HT := Lib.hid T
      obtain ⟨-, c0, c1, c2, -, -, -⟩ := T
      go_wp2_with fail
      refine (row n n g k N HN.out hlt (by omega) (by have := HN.out; omega) _).mono ?_
      rintro e w2 ⟨rfl, b2⟩
      have M2 := M.below b2
      have d := M2.cell k k hlt hlt
      have f := M2.free (k * n + k)
      have M3 := (M2.put hlt hlt 1).ext (N := unitTo (k + 1)) (fun i j _ _ => unit_step (h := n) (fun _ _ => rfl) i j)
      have R3 := (R.below b2).far (p := ⟨g, k * n + k, none⟩) (by show g ≠ w.heap.size; omega) (.int .i64 1)
      have T3 := (HT.out.below b2).far (p := ⟨g, k * n + k, none⟩) (by show g ≠ w1.heap.size; omega) (.int .i64 1)
      have B3 := (chain B b2).setCell (p := ⟨g, k * n + k, none⟩) (by show w.heap.size ≤ g; omega) (.int .i64 1)
      clear M R B b2 M2 c0 c1 c2
      go_wp2
      go_roundw
      case rel => exact ⟨k + 1, by omega, by go_num, M3, R3, T3, B3⟩
      case measure => simp [intOf]; omega
    · obtain rfl : k = n := by omega
      have M' := Lib.hid (M.ext (N := unitZ) (fun i j hi hj => by unfold unitTo unitZ; by_cases e : i = j; (rw [if_pos ⟨e, hi⟩, if_pos e]); (rw [if_neg (fun q => e q.1), if_neg e])))
      obtain ⟨-, c0, c1, c2, -, -, -⟩ := T
      obtain ⟨-, d0, d1, d2, f0, f1, f2⟩ := R
      have B' := Lib.hid B
      clear M B
      go_wp2
      refine bodyPost_ret (v := gval k k g N) (by simp [results, Try.results65, go_sem, *]) rfl (FIN.out g _ _ rfl ?_ ?_)
      · exact matMono (((M'.out.far (by show w.heap.size ≠ g; omega) _).far (by show w.heap.size ≠ g; omega) _).far (by show w.heap.size ≠ g; omega) _) (by omega)
      · exact ((B'.out.setCell (Nat.le_refl _) _).setCell (Nat.le_refl _) _).setCell (Nat.le_refl _) _
end Go.Proofs.Ytgnllkkkkkcoaaa.Gf2
