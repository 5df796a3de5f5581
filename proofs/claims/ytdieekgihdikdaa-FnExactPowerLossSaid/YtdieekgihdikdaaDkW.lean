/-
  WriteAll in the program.
-/
import Derived.Test.YtdieekgihdikdaaDkB
import Derived.Test.YtdieekgihdikdaaDkZ
namespace Go.Proofs.Ytdieekgihdikdaa.Rd
open Go.RowKit Go.ChangeShapes Go.WideShapes Go.Proofs.Ytdieekgihdikdaa.GfI Go.Proofs.Ytdieekgihdikdaa.GfS
open Go.Proofs.Ytdieekgihdikdaa.Sg (BxN)
set_option linter.unusedVariables false
set_option linter.unusedSimpArgs false

def lok (l : List ByteArray) : Prop := ∀ s, s ∈ l → sec s = true
/-- Whether writes of the list from a on lie in n sectors. -/
def inW (n : Nat) (a : Int) (l : List ByteArray) : Prop := l = [] ∨ (0 ≤ a ∧ a + (l.length : Int) ≤ (n : Int))
/-- What WriteAll answers. -/
def WaP (d : DDisk) (a : Int) (l : List ByteArray) (r : DDisk) (c : Int) : Prop :=
  (¬ (DOk d ∧ lok l) ∧ r = zeroD ∧ c = 1) ∨ (DOk d ∧ lok l ∧ ¬ inW d.sectors.length a l ∧ r = zeroD ∧ c = 2) ∨
  (DOk d ∧ lok l ∧ inW d.sectors.length a l ∧ 600 < d.waits.length + l.length ∧ r = zeroD ∧ c = 4) ∨
  (DOk d ∧ lok l ∧ inW d.sectors.length a l ∧ d.waits.length + l.length ≤ 600 ∧ r = bufD d a l ∧ c = 0)
theorem waP_ex (d : DDisk) (a : Int) (l : List ByteArray) : ∃ r c, WaP d a l r c := by
  classical
  by_cases h : DOk d ∧ lok l
  · by_cases i : inW d.sectors.length a l
    · by_cases j : d.waits.length + l.length ≤ 600
      · exact ⟨_, _, .inr (.inr (.inr ⟨h.1, h.2, i, j, rfl, rfl⟩))⟩
      · exact ⟨_, _, .inr (.inr (.inl ⟨h.1, h.2, i, by omega, rfl, rfl⟩))⟩
    · exact ⟨_, _, .inr (.inl ⟨h.1, h.2, i, rfl, rfl⟩)⟩
  · exact ⟨_, _, .inl ⟨h, rfl, rfl⟩⟩
theorem sz_bufD {d : DDisk} {a : Int} {l : List ByteArray} (h : DOk d) (k : lok l) (j : d.waits.length + l.length ≤ 600) : Rdb.sz (bufD d a l) ≤ 2097152 :=
  sz_disk 1200 600 h.2.2.1 (fun x hx => by
    rcases List.mem_append.1 hx with q | q
    · exact wait_sec (h.2.2.2 x q)
    · exact k _ (addW_mem q)) h.1.2 (by show (d.waits ++ addW a l).length ≤ 600; rw [List.length_append, addW_len]; exact j) (by omega)
theorem waP_sz {d : DDisk} {a : Int} {l : List ByteArray} {r : DDisk} {c : Int} (h : WaP d a l r c) : Rdb.sz r ≤ 2097152 := by
  rcases h with ⟨_, rfl, _⟩ | ⟨_, _, _, rfl, _⟩ | ⟨_, _, _, _, rfl, _⟩ | ⟨h, k, _, j, rfl, _⟩
  · exact (by show (0 : Nat) ≤ _; omega)
  · exact (by show (0 : Nat) ≤ _; omega)
  · exact (by show (0 : Nat) ≤ _; omega)
  · exact sz_bufD h k j
theorem inW_no {n : Nat} {a : Int} {l : List ByteArray} (h : ¬ inW n a l) : 0 < l.length ∧ (a < 0 ∨ (n : Int) - (l.length : Int) < a) := by
  unfold inW at h
  have h1 : l ≠ [] := fun e => h (.inl e)
  have h2 : ¬ (0 ≤ a ∧ a + (l.length : Int) ≤ (n : Int)) := fun e => h (.inr e)
  have := List.length_pos_iff.2 h1
  exact ⟨this, by omega⟩
theorem inW_yes {n : Nat} {a : Int} {l : List ByteArray} (h : inW n a l) : l.length = 0 ∨ (0 ≤ a ∧ a ≤ (n : Int) - (l.length : Int)) := by
  rcases h with h | h
  · exact .inl (by rw [h]; rfl)
  · exact .inr (by omega)
end Go.Proofs.Ytdieekgihdikdaa.Rd
