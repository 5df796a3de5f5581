/-
  A list put behind one of the call's own, at a step of a region that draws.
-/
import Derived.Test.YtdieekgihdikdaaOwnF
import Derived.Deep.RegionLaw
namespace Go.Proofs.Ytdieekgihdikdaa.Rd
open Go.RowKit Go.ChangeShapes Go.WideShapes Go.Proofs.Ytdieekgihdikdaa.GfI Go.Proofs.Ytdieekgihdikdaa.GfS
open Go.Proofs.Ytdieekgihdikdaa.Sg (BxN)
set_option linter.unusedVariables false
set_option linter.unusedSimpArgs false

theorem wp_append_F {α : Type} [Rdb α] [Enc α] {w : World} {o : Oper} {a : Act} {K : Act → World → Prop} {Q : Exit → Act → World → Prop} (s x : Operand) (T E : TypeId) (z : Value) (bytes : Nat)
    (ho : o.op = .call { callee := .builtin .append, args := #[s, x], argTypes := #[T, T] }) (hT : Try.prog.underlying T = some (.slice E)) (hI : (Try.prog.info? E).map (fun i => (i.zero, i.size, i.bytes)) = some (some z, Rdb.size α, bytes)) (hzs : z.cells.size = Rdb.size α) (hby : bytes ≤ 4096)
    (B : Nat) (v : Value) (l ls : List α) (hs : a.eval s = v) (hb : OwnL E B w v l) (al : Option Addr) (c : Nat) {fr : Bool} {lo : Nat} (hx : a.eval x = .slice al ls.length c) (hw : Rows fr lo w al ls) (hlen : l.length + ls.length ≤ 1000000) (hB : B ≤ w.heap.size)
    (h : ∀ v' w', OwnL E B w' v' (l ++ ls) → w.grownBy w' v.ownBlock → K (a.put o.dst v') w') : o.wp Try.prog a w K Q := by
  obtain ⟨i0, hi, hz0, hz1, hz2⟩ := info_parts hI
  have wfs : ∀ x, x ∈ l ++ ls → Enc.wf x := fun x hx => by
    rcases List.mem_append.1 hx with q | q
    · exact hb.2 x q
    · exact rows_wfL hw x q
  have go : ∀ ad : Addr, al = some ad → (∀ j u, (encs ls)[j]? = some u → w.cell? (ad.add j) = some u) → o.wp Try.prog a w K Q := by
    intro ad e hN
    subst e
    refine wp_append_own w s x T ho B E i0 z (Rdb.size α) bytes hT hi hz0 hz1 hz2 hzs Enc.pos v l.length (encs l) hs hb.1 ad ls.length c (encs ls) hx (encs_len ls) hN (fun u hu => encs_mem hu) (by unfold maxLen; omega) (by
      have : (l.length + ls.length) * bytes ≤ 1000000 * 4096 := Nat.mul_le_mul hlen hby
      omega) hB ?_
    intro v' w' ho' hg' _
    refine h v' w' ⟨?_, wfs⟩ hg'
    rw [List.length_append, encs_app]; exact ho'
  by_cases he : ls = []
  · subst he
    cases al with
    | none =>
      have hrun := run_append_own_noneC (P := Try.prog) (w := w) B T o.type E i0 (Rdb.size α) hT hi v l.length c (encs l) hb.1
      have hx' : a.eval x = .slice none 0 c := hx
      unfold Oper.wp
      simp [execOp, ho, resolve, invoke, builtin, hs, hx', hrun, Result.andThen]
      exact h v w (by rw [List.append_nil]; exact hb) ⟨rfl, rfl, rfl, Nat.le_refl _, fun _ _ _ => rfl⟩
    | some ad => exact go ad rfl (fun j u hu => by simp [encs] at hu)
  · obtain ⟨b, off, rfl, _, hB', _, hc⟩ := hw.resolve_left he
    refine go _ rfl (fun j u hu => ?_)
    obtain ⟨i, y, c', rfl, hy, hu'⟩ := encs_get hu
    obtain ⟨cs, r, cc⟩ := hc i y hy
    obtain ⟨rfl, _⟩ := Enc.iff.1 r
    rw [Addr.add_lit, ← Nat.add_assoc]
    exact cc c' u hu'
theorem step_append_F {α : Type} [Rdb α] [Enc α] {w : World} {ops : Array Oper} {o : Oper} {a : Act} {K : Act → World → Prop} {Q : Exit → Act → World → Prop} {EE : Prop} (hgd : o.guard = none) (s x : Operand) (T E : TypeId) (z : Value) (bytes : Nat)
    (ho : o.op = .call { callee := .builtin .append, args := #[s, x], argTypes := #[T, T] }) (hT : Try.prog.underlying T = some (.slice E)) (hI : (Try.prog.info? E).map (fun i => (i.zero, i.size, i.bytes)) = some (some z, Rdb.size α, bytes)) (hzs : z.cells.size = Rdb.size α) (hby : bytes ≤ 4096)
    (B : Nat) (v : Value) (l ls : List α) (hs : a.eval s = v) (hb : OwnL E B w v l) (al : Option Addr) (c : Nat) {fr : Bool} {lo : Nat} (hx : a.eval x = .slice al ls.length c) (hw : Rows fr lo w al ls) (hlen : l.length + ls.length ≤ 1000000) (hB : B ≤ w.heap.size)
    (h : ∀ v' w', OwnL E B w' v' (l ++ ls) → w.grownBy w' v.ownBlock → K (a.put o.dst v') w') : if Region.wanted o (yielded ops a.tmps) = true then Oper.wp Try.prog o a w K Q else EE := by
  have hw' : Region.wanted o (yielded ops a.tmps) = true := by simp [Region.wanted, hgd]
  rw [if_pos hw']
  exact wp_append_F s x T E z bytes ho hT hI hzs hby B v l ls hs hb al c hx hw hlen hB h
theorem OwnL.alloc {α : Type} [Rdb α] [Enc α] {E : TypeId} {B : Nat} {w : World} {v : Value} {l : List α} (h : OwnL E B w v l) (o : Obj) : OwnL E B (w.alloc o) v l := ⟨World.ownsRow.alloc h.1 o, h.2⟩
theorem OwnL.kept {α : Type} [Rdb α] [Enc α] {E : TypeId} {B : Nat} {w w' : World} {v : Value} {l : List α} {row : Option Nat} (h : OwnL E B w v l) (g : w.grownBy w' row) (hne : ∀ k, v.ownBlock = some k → some k ≠ row) : OwnL E B w' v l :=
  ⟨h.1.kept g (by cases hv : v.ownBlock with
    | none => exact .inl rfl
    | some k => exact .inr (hne k hv)), h.2⟩
theorem OwnL.heap {α : Type} [Rdb α] [Enc α] {E : TypeId} {B : Nat} {w w' : World} {v : Value} {l : List α} (h : OwnL E B w v l) (e : ∀ g, v.ownBlock = some g → w'.heap[g]? = w.heap[g]?) : OwnL E B w' v l := by
  refine ⟨⟨h.1.1, ?_⟩, h.2⟩
  rcases h.1.2 with q | ⟨g, cap, cur, rfl, hb, hg, r⟩
  · exact .inl q
  · exact .inr ⟨g, cap, cur, rfl, hb, (e g rfl).trans hg, r⟩
theorem OwnL.blk {α : Type} [Rdb α] [Enc α] {E : TypeId} {B : Nat} {w : World} {v : Value} {l : List α} (h : OwnL E B w v l) {g : Nat} (e : v.ownBlock = some g) : B ≤ g ∧ g < w.heap.size := h.1.lt g e
theorem OwnL.set {α : Type} [Rdb α] [Enc α] {E : TypeId} {B : Nat} {w : World} {v : Value} {l : List α} (h : OwnL E B w v l) (p : Addr) (u : Value) (hp : p.block < B) : OwnL E B (w.setCell p u) v l :=
  h.heap (fun g e => heap_setCell_other w p g u (by have := (h.blk e).1; omega))
theorem OwnL.later {α : Type} [Rdb α] [Enc α] {E : TypeId} {B : Nat} {w w' : World} {v : Value} {l : List α} (h : OwnL E B w v l) (b : Below w.heap.size w w') : OwnL E B w' v l :=
  h.heap (fun g e => b.block g (h.blk e).2)
theorem OwnL.weakB {α : Type} [Rdb α] [Enc α] {E : TypeId} {B B' : Nat} {w : World} {v : Value} {l : List α} (h : OwnL E B w v l) (hb : B' ≤ B) : OwnL E B' w v l := by
  refine ⟨⟨h.1.1, ?_⟩, h.2⟩
  rcases h.1.2 with q | ⟨g, cap, cur, rfl, hb', hg, r⟩
  · exact .inl q
  · exact .inr ⟨g, cap, cur, rfl, Nat.le_trans hb hb', hg, r⟩
/-- Lists of different types lie in different blocks. -/
theorem own_ne {α β : Type} [Rdb α] [Enc α] [Rdb β] [Enc β] {E E' : TypeId} {B B' : Nat} {w : World} {v v' : Value} {l : List α} {l' : List β} (h : OwnL E B w v l) (k : OwnL E' B' w v' l') (ne : E ≠ E') : ∀ g, v.ownBlock = some g → some g ≠ v'.ownBlock := by
  intro g hg e
  rcases h.1.2 with ⟨rfl, _⟩ | ⟨g1, cap, cur, rfl, _, hg1, _⟩
  · cases hg
  · obtain rfl : g1 = g := by cases hg; rfl
    rcases k.1.2 with ⟨rfl, _⟩ | ⟨g2, cap2, cur2, rfl, _, hg2, _⟩
    · cases e
    · obtain rfl : g1 = g2 := by cases e; rfl
      rw [hg1] at hg2
      simp only [Option.some.injEq, Obj.cells.injEq] at hg2
      exact ne hg2.2.1
/-- A disk in lists of the call's own. -/
def AnsW (d : DDisk) (w : World) (e : Ending) (w' : World) : Prop := ∃ a0 c0 a1 c1, e = .returned (.agg #[.slice a0 d.sectors.length c0, .slice a1 d.waits.length c1]) ∧ OwnL 9 w.heap.size w' (.slice a0 d.sectors.length c0) d.sectors ∧ OwnL 87 w.heap.size w' (.slice a1 d.waits.length c1) d.waits ∧ Below w.heap.size w w'
theorem OwnL.one {α : Type} [Rdb α] [Enc α] {E : TypeId} {B : Nat} {w : World} {a : Option Addr} {c : Nat} {l : List α} (h : OwnL E B w (.slice a l.length c) l) : One B w.heap.size w a l ∧ l.length ≤ c := by
  obtain ⟨a', c', e, hc, o, _⟩ := h.shape
  simp only [Value.slice.injEq] at e
  obtain ⟨rfl, -, rfl⟩ := e
  exact ⟨o, hc⟩
theorem AnsW.r {d : DDisk} {w w' : World} {e : Ending} (h : AnsW d w e w') : AnsKRD d w e w' := by
  obtain ⟨a0, c0, a1, c1, rfl, o0, o1, b⟩ := h
  exact ⟨a0, c0, a1, c1, rfl, ⟨o0.one.1.rows.weak (Nat.zero_le _) (fun e => by cases e), o1.one.1.rows.weak (Nat.zero_le _) (fun e => by cases e)⟩, ⟨o0.one.2, o1.one.2⟩, b⟩
theorem OwnL.val {α : Type} [Rdb α] [Enc α] {E : TypeId} {B : Nat} {w : World} {v : Value} {l : List α} (h : OwnL E B w v l) : ∃ a c, v = .slice a l.length c := by
  obtain ⟨a, c, e, _⟩ := h.shape
  exact ⟨a, c, e⟩
end Go.Proofs.Ytdieekgihdikdaa.Rd
