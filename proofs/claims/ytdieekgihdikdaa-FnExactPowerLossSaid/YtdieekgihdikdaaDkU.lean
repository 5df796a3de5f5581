/-
  RotSector in the model.
-/
import Derived.Test.YtdieekgihdikdaaDkT
import Derived.Test.YtdieekgihdikdaaTurn
import Derived.Deep.RegionWith
namespace Go.Proofs.Ytdieekgihdikdaa.Rd
open Go.RowKit Go.ChangeShapes Go.WideShapes Go.Proofs.Ytdieekgihdikdaa.GfI Go.Proofs.Ytdieekgihdikdaa.GfS
open Go.Proofs.Ytdieekgihdikdaa.Sg (BxN)
set_option linter.unusedVariables false
set_option linter.unusedSimpArgs false

/-- A disk with one byte of a sector turned. -/
def rotD (d : DDisk) (t q : Nat) (s : ByteArray) (y : Int) : DDisk := ⟨d.sectors.set t (turnS s q y), d.waits⟩
/-- What RotSector answers. -/
def RotP (d : DDisk) (i p y : Int) (r : DDisk) (c : Int) : Prop :=
  (¬ DOk d ∧ r = zeroD ∧ c = 1) ∨ (DOk d ∧ ((inD d.sectors.length i && inB p 0 63) && inB y 1 255) = false ∧ r = zeroD ∧ c = 2) ∨
  (DOk d ∧ ∃ t q s, i = ((t : Nat) : Int) ∧ p = ((q : Nat) : Int) ∧ q < 64 ∧ (1 ≤ y ∧ y ≤ 255) ∧ d.sectors[t]? = some s ∧ r = rotD d t q s y ∧ c = 0)
theorem rotP_ex (d : DDisk) (i p y : Int) : ∃ r c, RotP d i p y r c := by
  classical
  by_cases h : DOk d
  · cases e : ((inD d.sectors.length i && inB p 0 63) && inB y 1 255)
    · exact ⟨_, _, .inr (.inl ⟨h, e, rfl, rfl⟩)⟩
    · obtain ⟨e1, e3⟩ := Bool.and_eq_true_iff.1 e
      obtain ⟨e1, e2⟩ := Bool.and_eq_true_iff.1 e1
      obtain ⟨i0, i1⟩ := inD_yes e1
      have e2 : 0 ≤ p ∧ p ≤ 63 := of_decide_eq_true e2
      have e3 : 1 ≤ y ∧ y ≤ 255 := of_decide_eq_true e3
      obtain ⟨s, hs⟩ := get_lt (show i.toNat < d.sectors.length by omega)
      exact ⟨_, _, .inr (.inr ⟨h, i.toNat, p.toNat, s, by omega, by omega, by omega, e3, hs, rfl, rfl⟩)⟩
  · exact ⟨_, _, .inl ⟨h, rfl, rfl⟩⟩
theorem rot_sec {d : DDisk} (h : DOk d) {t q : Nat} {s : ByteArray} {y : Int} (hs : d.sectors[t]? = some s) : ∀ x, x ∈ (rotD d t q s y).sectors → sec x = true := fun x hx => by
  rcases List.mem_or_eq_of_mem_set hx with z | z
  · exact h.2.2.1 x z
  · rw [z]
    have := h.2.2.1 s (List.mem_of_getElem? hs)
    unfold sec at this ⊢
    rw [turnS_size]; exact this
theorem rotP_sz {d : DDisk} {i p y : Int} {r : DDisk} {c : Int} (h : RotP d i p y r c) : Rdb.sz r ≤ 2097152 := by
  rcases h with ⟨_, rfl, _⟩ | ⟨_, _, rfl, _⟩ | ⟨h, t, q, s, _, _, _, _, hs, rfl, _⟩
  · exact (by show (0 : Nat) ≤ _; omega)
  · exact (by show (0 : Nat) ≤ _; omega)
  · exact sz_disk 1200 600 (rot_sec h hs) (fun x hx => wait_sec (h.2.2.2 x hx)) (by show (d.sectors.set t _).length ≤ 1200; rw [List.length_set]; exact h.1.2) h.2.1 (by omega)
theorem One.put {lo hi : Nat} {w : World} {g t : Nat} {l : List ByteArray} {s : ByteArray} (h : One lo hi w (some ⟨g, 0, none⟩) l) (ht : t < l.length) (hs : s.size ≤ 9223372036854775807) : One lo hi (w.setCell ⟨g, t, none⟩ (.string s)) (some ⟨g, 0, none⟩) (l.set t s) := by
  rcases h with z | ⟨q, e, r, h1, h2⟩
  · rw [z] at ht; simp at ht
  · obtain rfl : g = q := by simpa using e
    have P := Rows.put (fun h => h) r ht (show Rdb.rd true lo w [.string s] s from ⟨rfl, hs⟩)
    rw [show 0 + t * Rdb.size ByteArray = t from by show 0 + t * 1 = _; omega] at P
    exact .inr ⟨g, rfl, P, h1, h2⟩
theorem One.at_ {lo hi : Nat} {w : World} {a : Option Addr} {l : List ByteArray} {t : Nat} {s : ByteArray} (h : One lo hi w a l) (hs : l[t]? = some s) : ∃ g, a = some ⟨g, 0, none⟩ ∧ lo ≤ g ∧ g < hi ∧ w.cell? ⟨g, t, none⟩ = some (.string s) ∧ w.frozen? ⟨g, t, none⟩ = false := by
  rcases h with z | ⟨g, rfl, r, h1, h2⟩
  · rw [z] at hs; simp at hs
  · obtain ⟨b, off, cs, e, -, hB, ⟨rfl, -⟩, hcc⟩ := r.at' hs
    obtain ⟨rfl, rfl⟩ : g = b ∧ 0 = off := by simpa using e
    refine ⟨g, rfl, h1, h2, by have := hcc 0 _ rfl; rwa [show 0 + t * Rdb.size ByteArray + 0 = t from by show 0 + t * 1 + 0 = _; omega] at this, ?_⟩
    rcases r with z | ⟨b2, o2, e2, -, -, hf, -⟩
    · rw [z] at hs; simp at hs
    · obtain ⟨rfl, -⟩ : g = b2 ∧ 0 = o2 := by simpa using e2
      exact hf rfl t
end Go.Proofs.Ytdieekgihdikdaa.Rd
