/-
  All writes of a disk done, in the program.
-/
import Derived.Test.YtdieekgihdikdaaDkC
import Derived.Test.YtdieekgihdikdaaDkI
namespace Go.Proofs.Ytdieekgihdikdaa.Rd
open Go.RowKit Go.ChangeShapes Go.WideShapes Go.Proofs.Ytdieekgihdikdaa.GfI Go.Proofs.Ytdieekgihdikdaa.GfS
open Go.Proofs.Ytdieekgihdikdaa.Sg (BxN)
set_option linter.unusedVariables false
set_option linter.unusedSimpArgs false

theorem iff_eq {P : Prop} {b c : Bool} (h : b = true ↔ P) (k : c = true ↔ P) : b = c := by
  cases b <;> cases c <;> simp_all
theorem Own2.lift {d : DDisk} {w W w2 : World} {a0 a1 : Option Addr} {y : Nat} {v0 v1 : Value} (b : Below w.heap.size w W) (h : Own2 W.heap.size w2.heap.size w2 d a0 a1) (hy : y < W.heap.size) (hlo : w.heap.size ≤ W.heap.size) :
    Own2 w.heap.size ((w2.setCell ⟨y, 0, none⟩ v0).setCell ⟨y, 1, none⟩ v1).heap.size ((w2.setCell ⟨y, 0, none⟩ v0).setCell ⟨y, 1, none⟩ v1) d a0 a1 := by
  obtain ⟨hh, m, h1, h2, o0, o1⟩ := h
  refine ⟨Nat.le_refl _, m, by omega, by simpa using h2, (((o0.set _ _ (.inl ?_)).set _ _ (.inl ?_)).wide hlo (Nat.le_refl _)), (((o1.set _ _ (.inl ?_)).set _ _ (.inl ?_)).wide (Nat.le_refl _) (by simp))⟩
  · exact hy
  · exact hy
  · show y < m; omega
  · show y < m; omega
theorem AnsKD.lift {d : DDisk} {w W w2 : World} {v : Value} {y : Nat} {v0 v1 : Value} (b : Below w.heap.size w W) (h : AnsKD d W (.returned v) w2) (h0 : w.heap.size ≤ y) (hy : y < W.heap.size) :
    AnsKD d w (.returned v) ((w2.setCell ⟨y, 0, none⟩ v0).setCell ⟨y, 1, none⟩ v1) := by
  obtain ⟨a0, c0, a1, c1, e, o, l, bb⟩ := h
  exact ⟨a0, c0, a1, c1, e, o.lift b hy b.size, l, ((chain b bb).setCell (p := ⟨y, 0, none⟩) h0 _).setCell (p := ⟨y, 1, none⟩) h0 _⟩
theorem AnsKD.liftK {d : DDisk} {w W w2 : World} {v : Value} {y : Nat} {v0 v1 : Value} {rc : Int} (b : Below w.heap.size w W) (h : AnsKD d W (.returned v) w2) (h0 : w.heap.size ≤ y) (hy : y < W.heap.size) :
    AnsK d rc w (.returned (.tuple #[v, .int .i64 rc])) ((w2.setCell ⟨y, 0, none⟩ v0).setCell ⟨y, 1, none⟩ v1) := by
  obtain ⟨a0, c0, a1, c1, e, o, l, bb⟩ := h
  simp only [Ending.returned.injEq] at e
  subst e
  exact ⟨a0, c0, a1, c1, rfl, o.lift b hy b.size, l, ((chain b bb).setCell (p := ⟨y, 0, none⟩) h0 _).setCell (p := ⟨y, 1, none⟩) h0 _⟩
def zeroD : DDisk := ⟨[], []⟩
theorem ansKD_zero {w w' : World} (b : Below w.heap.size w w') : AnsKD zeroD w (.returned (.agg #[.slice none 0 0, .slice none 0 0])) w' :=
  ⟨none, 0, none, 0, rfl, ⟨Nat.le_refl _, w.heap.size, Nat.le_refl _, b.size, .inl rfl, .inl rfl⟩, ⟨Nat.le_refl _, Nat.le_refl _⟩, b⟩
theorem ansK_zero {w w' : World} (rc : Int) (b : Below w.heap.size w w') : AnsK zeroD rc w (.returned (.tuple #[.agg #[.slice none 0 0, .slice none 0 0], .int .i64 rc])) w' :=
  ⟨none, 0, none, 0, rfl, ⟨Nat.le_refl _, w.heap.size, Nat.le_refl _, b.size, .inl rfl, .inl rfl⟩, ⟨Nat.le_refl _, Nat.le_refl _⟩, b⟩
theorem AnsKD.r {d : DDisk} {w w' : World} {e : Ending} (h : AnsKD d w e w') : AnsKRD d w e w' := by
  obtain ⟨a0, c0, a1, c1, e, o, l, bb⟩ := h
  exact ⟨a0, c0, a1, c1, e, o.rows, l, bb⟩
theorem AnsK.r {d : DDisk} {rc : Int} {w w' : World} {e : Ending} (h : AnsK d rc w e w') : AnsKR d rc w e w' := by
  obtain ⟨a0, c0, a1, c1, e, o, l, bb⟩ := h
  exact ⟨a0, c0, a1, c1, e, o.rows, l, bb⟩
/-- All writes done. -/
def flushD (d : DDisk) : DDisk := ⟨flushL d.sectors d.waits, []⟩
theorem dok_lens {d : DDisk} (h : DOk d) : d.sectors.length ≤ 1000000 ∧ d.waits.length ≤ 1000000 := ⟨by have := h.1; omega, by have := h.2.1; omega⟩
theorem dok_in {d : DDisk} (h : DOk d) : ∀ x, x ∈ d.waits → inD d.sectors.length x.atF = true := fun x hx => by
  have := h.2.2.2 x hx
  unfold wait at this
  exact (Bool.and_eq_true_iff.1 this).1
theorem rd_rw2 {d : DDisk} {fr : Bool} {lo : Nat} {w : World} {a0 : Option Addr} {a1 : Option Addr} (h0 : Rows fr lo w a0 d.sectors) (h1 : Rows fr lo w a1 d.waits) : Rw2 w d a0 a1 :=
  ⟨h0.weak (Nat.zero_le _) (fun e => by cases e), h1.weak (Nat.zero_le _) (fun e => by cases e)⟩
end Go.Proofs.Ytdieekgihdikdaa.Rd
