/-
  A matrix that a call hands back: its cells are the call's own. A list of numbers that is built by append.
-/
import Derived.Test.YtbnjgehgaellmaaGrid2
import Derived.Laws.AppendOwn
import Derived.WalkSpells
namespace Go.Proofs.Ytbnjgehgaellmaa.Gf2
open Go.RowKit Go.Proofs.Ytbnjgehgaellmaa.At Go.Proofs.Ytbnjgehgaellmaa.MixC Go.Proofs.Ytbnjgehgaellmaa.Ml Go.Proofs.Ytbnjgehgaellmaa.Gr Go.Proofs.Ytbnjgehgaellmaa.Gj
set_option linter.unusedVariables false

/-- The numbers zs lie in a slice that was made behind w. -/
def OwnS (w w' : World) (a : Option Addr) (zs : List Int) : Prop :=
  zs = [] ∨ ∃ g, a = some ⟨g, 0, none⟩ ∧ w.heap.size ≤ g ∧ g < w'.heap.size ∧ Nums w' g 0 zs ∧ ∀ i, w'.frozen? ⟨g, i, none⟩ = false
theorem OwnS.below {w w' w2 : World} {a : Option Addr} {zs : List Int} (h : OwnS w w' a zs) (b : Below w'.heap.size w' w2) : OwnS w w2 a zs := by
  rcases h with h | ⟨g, ha, h0, h1, hn, hf⟩
  · exact .inl h
  · exact .inr ⟨g, ha, h0, Nat.lt_of_lt_of_le h1 b.size, hn.below b h1, fun i => (b.frozen h1).trans (hf i)⟩
theorem OwnS.from {w0 w w' : World} {a : Option Addr} {zs : List Int} (h : OwnS w w' a zs) (b : w0.heap.size ≤ w.heap.size) : OwnS w0 w' a zs := by
  rcases h with h | ⟨g, ha, h0, h1, hn, hf⟩
  · exact .inl h
  · exact .inr ⟨g, ha, by omega, h1, hn, hf⟩
theorem OwnS.words {w w' : World} {a : Option Addr} {zs : List Int} (h : OwnS w w' a zs) : Words w' a zs := by
  rcases h with h | ⟨g, ha, h0, h1, hn, hf⟩
  · exact .inl h
  · exact .inr ⟨g, 0, ha, h1, hn⟩
theorem OwnS.mine {w w' : World} {a : Option Addr} {zs : List Int} (h : OwnS w w' a zs) : Mine w' a zs.length := by
  rcases h with h | ⟨g, ha, h0, h1, hn, hf⟩
  · exact .inl (by rw [h]; rfl)
  · exact .inr ⟨g, ha, h1, fun i hi => ⟨_, by have := hn i hi; rwa [Nat.zero_add] at this⟩, hf⟩
theorem OwnS.far {w w' : World} {a : Option Addr} {zs : List Int} (h : OwnS w w' a zs) {p : Addr} (hp : p.block < w.heap.size) (v : Value) : OwnS w (w'.setCell p v) a zs := by
  rcases h with h | ⟨g, ha, h0, h1, hn, hf⟩
  · exact .inl h
  · exact .inr ⟨g, ha, h0, by simpa using h1, fun i hi => (World.cell?_setCell_other _ _ _ _ (fun e => by have := congrArg Addr.block e; simp at this; omega)).trans (hn i hi), fun i => (World.frozen?_setCell _ _ _ _).trans (hf i)⟩

/-- The cells of a matrix, row by row. -/
def flat (h wd : Nat) (M : Mx) : List Int := (List.range (h * wd)).map fun x => M (x / wd) (x % wd)
theorem flat_length (h wd : Nat) (M : Mx) : (flat h wd M).length = h * wd := by simp [flat]
theorem flat_get {h wd : Nat} {M : Mx} {x : Nat} (hx : x < h * wd) : (flat h wd M).getD x 0 = M (x / wd) (x % wd) := by
  unfold flat
  rw [List.getD_eq_getElem?_getD, List.getElem?_map, List.getElem?_range hx]; rfl
theorem flat_ext {h wd : Nat} {M N : Mx} (e : ∀ i j, i < h → j < wd → M i j = N i j) : flat h wd M = flat h wd N := by
  unfold flat
  refine List.map_congr_left fun x hx => ?_
  have hx := List.mem_range.1 hx
  have hw : 0 < wd := by rcases Nat.eq_zero_or_pos wd with q | q; (rw [q, Nat.mul_zero] at hx; omega); exact q
  exact e _ _ (by rw [Nat.div_lt_iff_lt_mul hw]; exact hx) (Nat.mod_lt _ hw)
theorem Mat_own {B : Nat} {w0 w' : World} {g h wd : Nat} {M : Mx} (m : Mat .i64 B w' g h wd M) (hB : w0.heap.size ≤ B) : OwnS w0 w' (some ⟨g, 0, none⟩) (flat h wd M) := by
  refine .inr ⟨g, rfl, Nat.le_trans hB m.old, m.lt, fun x hx => ?_, m.free⟩
  rw [flat_length] at hx
  have hw : 0 < wd := by rcases Nat.eq_zero_or_pos wd with q | q; (rw [q, Nat.mul_zero] at hx; omega); exact q
  have := m.cell (x / wd) (x % wd) (by rw [Nat.div_lt_iff_lt_mul hw]; exact hx) (Nat.mod_lt _ hw)
  rw [Nat.zero_add, flat_get hx, ← this, Nat.mul_comm, Nat.div_add_mod]

/-- A matrix handed back. -/
def MatRes (h wd : Int) (zs : List Int) (w : World) (e : Ending) (w' : World) : Prop :=
  ∃ a cap, e = .returned (mval h wd (.slice a zs.length cap)) ∧ OwnS w w' a zs ∧ Below w.heap.size w w'
/-- A matrix and an error's number handed back. -/
def MatErr (h wd : Int) (zs : List Int) (err : Int) (w : World) (e : Ending) (w' : World) : Prop :=
  ∃ a cap, e = .returned (.tuple #[mval h wd (.slice a zs.length cap), .int .i64 err]) ∧ OwnS w w' a zs ∧ Below w.heap.size w w'

theorem Bx.under {w w1 : World} {b C : Nat} {x y z : Value} (h : Bx w b x y z) (hb : b < C) (k : Below C w w1) : Bx w1 b x y z :=
  ⟨Nat.lt_of_lt_of_le h.lt k.size, (k.cell (p := ⟨b, 0, none⟩) hb).trans h.c0, (k.cell (p := ⟨b, 1, none⟩) hb).trans h.c1, (k.cell (p := ⟨b, 2, none⟩) hb).trans h.c2, (k.frozen (p := ⟨b, 0, none⟩) hb).trans h.f0, (k.frozen (p := ⟨b, 1, none⟩) hb).trans h.f1, (k.frozen (p := ⟨b, 2, none⟩) hb).trans h.f2⟩
theorem Bx.put2 {w : World} {b : Nat} {x y z : Value} (h : Bx w b x y z) (u : Value) : Bx (w.setCell ⟨b, 2, none⟩ u) b x y u := by
  have f : ∀ i, (w.setCell ⟨b, 2, none⟩ u).frozen? ⟨b, i, none⟩ = w.frozen? ⟨b, i, none⟩ := fun i => World.frozen?_setCell _ _ _ _
  exact ⟨by simpa using h.lt, (World.cell?_setCell_other _ _ _ _ (by simp)).trans h.c0, (World.cell?_setCell_other _ _ _ _ (by simp)).trans h.c1, World.cell?_setCell_same _ _ _ h.c2, (f 0).trans h.f0, (f 1).trans h.f1, (f 2).trans h.f2⟩
/-- A slice of the call's own that holds zs, and may grow. -/
def Ib (B : Nat) (w : World) (v : Value) (zs : List Int) : Prop := w.ownsRow B 2 1 v zs.length (zs.map (Value.int .i64))
theorem Ib.nil (B : Nat) (w : World) : Ib B w (.slice none 0 0) [] := World.ownsRow_nil _ _ _ _
theorem Ib.alloc {B : Nat} {w : World} {v : Value} {zs : List Int} (h : Ib B w v zs) (o : Obj) : Ib B (w.alloc o) v zs := World.ownsRow.alloc h o
theorem Ib.below {B : Nat} {w w1 : World} {v : Value} {zs : List Int} (h : Ib B w v zs) (b : Below w.heap.size w w1) : Ib B w1 v zs :=
  World.ownsRow.kept (row := none) h ⟨b.os, b.tape, b.output, b.size, fun k hk _ => b.block k hk⟩ (by by_cases q : v.ownBlock = none; exact .inl q; exact .inr q)
theorem Ib.far {B : Nat} {w : World} {v : Value} {zs : List Int} (h : Ib B w v zs) {p : Addr} (hp : p.block < B) (u : Value) : Ib B (w.setCell p u) v zs := ownsRow_setCell_below h hp u
theorem Ib.done {B : Nat} {w0 w : World} {v : Value} {zs : List Int} (h : Ib B w v zs) (hB : w0.heap.size ≤ B) : ∃ a cap, v = .slice a zs.length cap ∧ OwnS w0 w a zs := by
  have h' := h
  rcases h with ⟨hl, hr⟩
  rcases hr with ⟨rfl, h0⟩ | ⟨g, cap, cur, rfl, hb, hg, hn, hcm, hcs, htake⟩
  · exact ⟨none, 0, by rw [h0], .inl (List.length_eq_zero_iff.1 h0)⟩
  · refine ⟨_, cap, rfl, .inr ⟨g, rfl, by omega, (h'.lt g rfl).2, fun i hi => ?_, fun i => h'.frozenAt i⟩⟩
    rw [Nat.zero_add, h'.cellAt i (by omega), List.getElem?_map, List.getElem?_eq_getElem hi, List.getD_eq_getElem?_getD, List.getElem?_eq_getElem hi]; rfl
theorem Ib.own {B : Nat} {w0 w : World} {a : Option Addr} {L cap : Nat} {zs : List Int} (h : Ib B w (.slice a L cap) zs) (hB : w0.heap.size ≤ B) : OwnS w0 w a zs ∧ L = zs.length := by
  obtain ⟨a', cap', hv, O⟩ := h.done hB
  simp only [Value.slice.injEq] at hv
  obtain ⟨rfl, rfl, rfl⟩ := hv
  exact ⟨O, rfl⟩
theorem Ib.shape {B : Nat} {w : World} {v : Value} {zs : List Int} (h : Ib B w v zs) : ∃ a L cap, v = .slice a L cap := by
  rcases h with ⟨_, ⟨rfl, _⟩ | ⟨g, cap, cur, rfl, _⟩⟩
  · exact ⟨_, _, _, rfl⟩
  · exact ⟨_, _, _, rfl⟩
theorem Ib.grown {B : Nat} {w w1 : World} {v : Value} {zs : List Int} (h : Ib B w v zs) (hB : B ≤ w.heap.size) (o : Obj) (g : (w.alloc o).grownBy w1 v.ownBlock) : Below B w w1 :=
  ((Below.refl B w).alloc hB o).grown g (by rw [World.size_alloc]; omega) (fun k hk => (World.ownsRow.lt h k hk).1)
/-- A matrix handed back whose cells may grow. -/
def MatResI (h wd : Int) (zs : List Int) (w : World) (e : Ending) (w' : World) : Prop :=
  ∃ a L cap, e = .returned (mval h wd (.slice a L cap)) ∧ L = zs.length ∧ Ib w.heap.size w' (.slice a L cap) zs ∧ Below w.heap.size w w'
theorem MatResI.res {h wd : Int} {zs : List Int} {w : World} {e : Ending} {w' : World} (r : MatResI h wd zs w e w') : MatRes h wd zs w e w' := by
  obtain ⟨a, L, cap, rfl, rfl, I, b⟩ := r
  exact ⟨a, cap, rfl, (I.own (Nat.le_refl _)).1, b⟩
theorem Ib.mono {B C : Nat} {w : World} {v : Value} {zs : List Int} (h : Ib B w v zs) (hC : C ≤ B) : Ib C w v zs := by
  obtain ⟨hl, hr⟩ := h
  refine ⟨hl, ?_⟩
  rcases hr with h | ⟨g, cap, cur, hv, hb, hrest⟩
  · exact .inl h
  · exact .inr ⟨g, cap, cur, hv, Nat.le_trans hC hb, hrest⟩
theorem wpList_append_int {w0 : World} {ops : Array Oper} {rest : List Oper} {o : Oper} {a : Act} {Q : Exit → Act → World → Prop} (hgd : o.guard = none) (s x : Operand)
    (ho : o.op = .call { callee := .builtin .append, args := #[s, x], argTypes := #[22, 22] }) (B : Nat) (v : Value) (zs : List Int) (hs : a.eval s = v) (c : Int) (hb : Ib B w0 v zs)
    (hx : a.eval x = .slice (some ⟨w0.heap.size, 0, none⟩) 1 1) (hlen : zs.length ≤ 1000000) (hB : B ≤ w0.heap.size)
    (h : ∀ v' w', Ib B w' v' (zs ++ [c]) → (w0.alloc (.cells #[.int .i64 c] 2)).grownBy w' v.ownBlock → wpList Try.prog ops Q rest (a.put o.dst v') w') : wpList Try.prog ops Q (o :: rest) a (w0.alloc (.cells #[.int .i64 c] 2)) := by
  obtain ⟨i0, hi, hz0, hz1, hz2⟩ := info_parts info2
  refine wpList_append_own _ hgd s x 22 ho B 2 i0 (.int .i64 0) 1 8 Try.underlying22 hi hz0 hz1 hz2 rfl (by decide) v zs.length (zs.map (Value.int .i64)) hs (World.ownsRow.alloc hb _) ⟨w0.heap.size, 0, none⟩ 1 1 [.int .i64 c] hx rfl (cell_one_new _ _ _) (by intro u hu; simp at hu; subst hu; rfl) (by unfold maxLen; omega) (by omega) (by simp; omega) ?_
  intro v' w' ho' hg' _
  refine h v' w' ?_ hg'
  unfold Ib
  rw [List.length_append, List.map_append]
  exact ho'
end Go.Proofs.Ytbnjgehgaellmaa.Gf2
