/-
  The choices of the first tries: the program's and the model's functions.
-/
import Derived.Test.YtgfpngjfhmiphaaLawChoose
import Derived.Test.YtgfpngjfhmiphaaMatRes2
namespace Go.Proofs.Ytgfpngjfhmiphaa.Ch
open Go.RowKit Go.Proofs.Ytgfpngjfhmiphaa.It Go.Proofs.Ytgfpngjfhmiphaa.Rc Go.Proofs.Ytgfpngjfhmiphaa.Gf2 Go.Proofs.Ytgfpngjfhmiphaa.GfS
set_option linter.unusedVariables false

theorem chB_same (n : Nat) (f g : Nat → Int) (seed t u : Int) : chB n f g seed t = chB n f g seed u := by
  have h : ∀ k, (tsN f g seed t k).length = (tsN f g seed u k).length := by
    intro k
    induction k with
    | zero => rfl
    | succ k ih => unfold tsN; split <;> simp [ih]
  unfold chB; rw [h]
theorem chB_01 (n : Nat) (f g : Nat → Int) (seed t : Int) : chB n f g seed t = 0 ∨ chB n f g seed t = 3 := by unfold chB; split <;> simp
theorem chB_all (n : Nat) (f g : Nat → Int) (seed t : Int) (h2 : t = 0 ∨ chB n f g seed 0 = 0) : ∀ k : Nat, k < t.toNat → chB n f g seed k = 0 := by
  intro k hk
  rcases h2 with h2 | h2
  · omega
  · rw [chB_same n f g seed k 0]; exact h2
/-- The first k choices. -/
def drN (n : Nat) (f g : Nat → Int) (seed : Int) (k : Nat) : List Int := (List.range k).map fun (i : Nat) => chA n f g seed i
theorem drN_snoc (n : Nat) (f g : Nat → Int) (seed : Int) (k : Nat) : drN n f g seed (k + 1) = drN n f g seed k ++ [chA n f g seed k] := by unfold drN; rw [List.range_succ, List.map_append]; rfl
theorem drN_len (n : Nat) (f g : Nat → Int) (seed : Int) (k : Nat) : (drN n f g seed k).length = k := by simp [drN]

/-- A list of numbers of the call's own, and a code. -/
def ListRes (zs : List Int) (b : Int) (w : World) (e : Ending) (w' : World) : Prop :=
  ∃ a c, e = .returned (.tuple #[.slice a zs.length c, .int .i64 b]) ∧ OwnS w w' a zs ∧ Below w.heap.size w w'
theorem ListRes.nilr {w w' : World} {b : Int} (h : Below w.heap.size w w') : ListRes [] b w (.returned (.tuple #[.slice none 0 0, .int .i64 b])) w' := ⟨none, 0, rfl, .inl rfl, h⟩
theorem ListRes.empty {w w' : World} {b : Int} {g : Nat} (h : Below w.heap.size w w') : ListRes [] b w (.returned (.tuple #[.slice (some ⟨g, 0, none⟩) 0 0, .int .i64 b])) w' := ⟨_, 0, rfl, .inl rfl, h⟩
theorem ListRes.own {w w' : World} {a : Option Addr} {L c : Nat} {zs : List Int} {b : Int} (h : Ib w.heap.size w' (.slice a L c) zs) (hb : Below w.heap.size w w') : ListRes zs b w (.returned (.tuple #[.slice a L c, .int .i64 b])) w' := by
  obtain ⟨O, rfl⟩ := h.own (Nat.le_refl _)
  exact ⟨a, c, rfl, O, hb⟩

def drA (n : Nat) (f g : Nat → Int) (seed t : Int) : List Int := if okL n f g = true ∧ (0 ≤ t ∧ t ≤ 30) ∧ (t = 0 ∨ chB n f g seed 0 = 0) then drN n f g seed t.toNat else []
def drB (n : Nat) (f g : Nat → Int) (seed t : Int) : Int := if okL n f g = true then (if 0 ≤ t ∧ t ≤ 30 then (if t = 0 ∨ chB n f g seed 0 = 0 then 0 else 3) else 2) else 1

theorem chB_yes {n : Nat} {f g : Nat → Int} {seed t : Int} (h : chB n f g seed t = 0) : (!decide ((tsN f g seed t n).length = 0)) = true := by
  unfold chB at h
  by_cases q : (tsN f g seed t n).length = 0
  · rw [if_pos q] at h; omega
  · rw [decide_eq_false q]; rfl
theorem chB_no {n : Nat} {f g : Nat → Int} {seed t : Int} (h : chB n f g seed t = 3) : (!decide ((tsN f g seed t n).length = 0)) = false := by
  unfold chB at h
  by_cases q : (tsN f g seed t n).length = 0
  · rw [decide_eq_true q]; rfl
  · rw [if_neg q] at h; omega

end Go.Proofs.Ytgfpngjfhmiphaa.Ch
