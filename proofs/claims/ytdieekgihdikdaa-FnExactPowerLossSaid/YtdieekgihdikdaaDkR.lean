/-
  A sector read, in the program and in the model.
-/
import Derived.Test.YtdieekgihdikdaaDkF
import Derived.Test.YtdieekgihdikdaaDkS
namespace Go.Proofs.Ytdieekgihdikdaa.Rd
open Go.RowKit Go.ChangeShapes Go.WideShapes Go.Proofs.Ytdieekgihdikdaa.GfI Go.Proofs.Ytdieekgihdikdaa.GfS
open Go.Proofs.Ytdieekgihdikdaa.Sg (BxN)
set_option linter.unusedVariables false
set_option linter.unusedSimpArgs false

/-- What a sector reads as behind a list of writes. -/
def lastW (ws : List DPending) (i : Int) (s : ByteArray) : ByteArray := ws.foldl (fun s x => if x.atF = i then x.bytes else s) s
theorem lastW_succ {ws : List DPending} {k : Nat} {x : DPending} (h : ws[k]? = some x) (i : Int) (s : ByteArray) : lastW (ws.take (k + 1)) i s = if x.atF = i then x.bytes else lastW (ws.take k) i s := by
  unfold lastW; rw [List.take_add_one, h, List.foldl_append]; rfl
theorem flushL_at (t : Nat) : ∀ (ws : List DPending) (l : List ByteArray) (s : ByteArray), l[t]? = some s → (∀ x, x ∈ ws → 0 ≤ x.atF) → (flushL l ws)[t]? = some (lastW ws t s)
  | [], _, _, h, _ => h
  | x :: ws, l, s, h, k => by
    show (flushL (putS l x) ws)[t]? = some (lastW ws t (if x.atF = (t : Int) then x.bytes else s))
    refine flushL_at t ws (putS l x) _ ?_ (fun y hy => k y (by simp [hy]))
    have hx := k x (by simp)
    have ht : t < l.length := (List.getElem?_eq_some_iff.1 h).1
    unfold putS
    rw [List.getElem?_set]
    by_cases e : x.atF = (t : Int)
    · rw [if_pos (by omega), if_pos (by omega), if_pos e]
    · rw [if_neg (by omega), if_neg e]; exact h
theorem waits_pos {d : DDisk} (h : DOk d) : ∀ x, x ∈ d.waits → 0 ≤ x.atF := fun x hx => (inD_yes (dok_in h x hx)).1
/-- What ReadSector answers. -/
def RdP (d : DDisk) (i : Int) (s : ByteArray) (c : Int) : Prop :=
  (¬ DOk d ∧ s = ByteArray.empty ∧ c = 1) ∨ (DOk d ∧ inD d.sectors.length i = false ∧ s = ByteArray.empty ∧ c = 2) ∨
  (DOk d ∧ ∃ t y, i = ((t : Nat) : Int) ∧ d.sectors[t]? = some y ∧ s = lastW d.waits i y ∧ c = 0)
theorem rdP_ex (d : DDisk) (i : Int) : ∃ s c, RdP d i s c := by
  classical
  by_cases h : DOk d
  · cases hi : inD d.sectors.length i
    · exact ⟨_, _, .inr (.inl ⟨h, hi, rfl, rfl⟩)⟩
    · obtain ⟨i0, i1⟩ := inD_yes hi
      obtain ⟨y, hy⟩ := get_lt (show i.toNat < d.sectors.length by omega)
      exact ⟨_, _, .inr (.inr ⟨h, i.toNat, y, by omega, hy, rfl, rfl⟩)⟩
  · exact ⟨_, _, .inl ⟨h, rfl, rfl⟩⟩
theorem inD_t {n t : Nat} (h : t < n) : inD n (t : Int) = true := decide_eq_true ⟨by omega, by omega⟩
end Go.Proofs.Ytdieekgihdikdaa.Rd
