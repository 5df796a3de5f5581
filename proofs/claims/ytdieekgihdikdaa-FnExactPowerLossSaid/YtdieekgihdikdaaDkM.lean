/-
  Disks: what is valid.
-/
import Derived.Test.YtdieekgihdikdaaDDisk
import Derived.Test.YtdieekgihdikdaaWithin
namespace Go.Proofs.Ytdieekgihdikdaa.Rd
open Go.RowKit Go.ChangeShapes Go.WideShapes Go.Proofs.Ytdieekgihdikdaa.GfI Go.Proofs.Ytdieekgihdikdaa.GfS
open Go.Proofs.Ytdieekgihdikdaa.Sg (BxN)
set_option linter.unusedVariables false
set_option linter.unusedSimpArgs false

/-- A Bool that tells whether P, and memory that was there is as it was. -/
def IffB (P : Prop) (w : World) (e : Ending) (w' : World) : Prop := ∃ b, e = .returned (.bool b) ∧ (b = true ↔ P) ∧ Below w.heap.size w w'
theorem IffB.yes {P : Prop} {w w' : World} (h : P) (b : Below w.heap.size w w') : IffB P w (.returned (.bool true)) w' := ⟨true, rfl, by simp [h], b⟩
theorem IffB.no {P : Prop} {w w' : World} (h : ¬ P) (b : Below w.heap.size w w') : IffB P w (.returned (.bool false)) w' := ⟨false, rfl, by simp [h], b⟩
theorem iff_ret {P : Prop} {b : Bool} {w w' : World} {e : Ending} (hb : b = true ↔ P) (h : IffB P w e w') : RetW (.bool b) w e w' := by
  obtain ⟨b', rfl, hb', B⟩ := h
  obtain rfl : b' = b := by
    cases b <;> cases b' <;> simp_all
  exact ⟨rfl, B⟩
/-- An index found, or none. -/
def IdxW (P : Prop) (w : World) (e : Ending) (w' : World) : Prop := ∃ i : Int, e = .returned (.int .i64 i) ∧ Below w.heap.size w w' ∧ ((0 ≤ i ∧ P) ∨ (i = -1 ∧ ¬ P))
theorem none_of {α : Type} {l : List α} {p : α → Bool} (h : ∀ i x, i < l.length → l[i]? = some x → p x = false) : ¬ ∃ x, x ∈ l ∧ p x = true := by
  rintro ⟨x, hx, hp⟩
  obtain ⟨i, hi, rfl⟩ := List.getElem_of_mem hx
  rw [h i _ hi (List.getElem?_eq_getElem hi)] at hp
  cases hp
/-- The bytes of a sector. -/
def sec (s : ByteArray) : Bool := decide (s.size = 64)
def nosec (s : ByteArray) : Bool := !sec s
/-- The index of one of n sectors. -/
def inD (n : Nat) (i : Int) : Bool := decide (0 ≤ i ∧ i < (n : Int))
def wait (n : Nat) (x : DPending) : Bool := inD n x.atF && sec x.bytes
def nowait (n : Nat) (x : DPending) : Bool := !wait n x
/-- A disk that is valid. -/
def DOk (d : DDisk) : Prop := (1 ≤ d.sectors.length ∧ d.sectors.length ≤ 1200) ∧ d.waits.length ≤ 600 ∧ (∀ s, s ∈ d.sectors → sec s = true) ∧ ∀ x, x ∈ d.waits → wait d.sectors.length x = true
theorem all_of {α : Type} {l : List α} {p q : α → Bool} (hq : ∀ x, q x = !p x) (h : ¬ ∃ x, x ∈ l ∧ q x = true) : ∀ x, x ∈ l → p x = true := fun x hx => by
  cases e : p x
  · exact absurd ⟨x, hx, by rw [hq, e]; rfl⟩ h
  · rfl
theorem not_all {α : Type} {l : List α} {p q : α → Bool} (hq : ∀ x, q x = !p x) (h : ∃ x, x ∈ l ∧ q x = true) : ¬ ∀ x, x ∈ l → p x = true := fun k => by
  obtain ⟨x, hx, e⟩ := h
  rw [hq, k x hx] at e; cases e
end Go.Proofs.Ytdieekgihdikdaa.Rd
