/-
  Which bucket each thing of a tree hangs under, while the buckets are taken one after another; what a map of the parts holds. No program runs.
-/
import Derived.Test.YtoikdonecbpjaaaTonce
import Derived.Test.YtoikdonecbpjaaaPmap
namespace Go.Proofs.Ytoikdonecbpjaaa.Tm
open Go.RowKit
open Go.Proofs.Ytoikdonecbpjaaa.Sg (BxN)
set_option linter.unusedVariables false

/-- After k buckets and i items of the next, U x is the bucket above x. -/
structure Up (T : TD) (k i : Nat) (U : Int → Option Nat) : Prop where
  nd : (seenL T k i).Nodup
  no : ∀ x, U x = none ↔ x ∉ seenL T k i
  so : ∀ x j, U x = some j → j < T.bn ∧ x ∈ T.L j
theorem Up.start (T : TD) : Up T 0 0 (fun _ => none) := ⟨by simp [seenL, flatL], fun x => by simp [seenL, flatL], fun x j h => by cases h⟩
theorem Up.next {T : TD} {k : Nat} {U : Int → Option Nat} (h : Up T k (T.L k).length U) : Up T (k + 1) 0 U := by
  have e : seenL T (k + 1) 0 = seenL T k (T.L k).length := by rw [seen_end, seen_zero]
  exact ⟨by rw [e]; exact h.nd, fun x => by rw [e]; exact h.no x, h.so⟩
def upU (U : Int → Option Nat) (x : Int) (k : Nat) : Int → Option Nat := fun y => if y = x then some k else U y
theorem Up.step {T : TD} {k i : Nat} {U : Int → Option Nat} (h : Up T k i U) (hk : k < T.bn) (hi : i < (T.L k).length) (hx : U ((T.L k).getD i 0) = none) : Up T k (i + 1) (upU U ((T.L k).getD i 0) k) := by
  have hs := seen_snoc T hi
  refine ⟨?_, fun y => ?_, fun y j hy => ?_⟩
  · rw [hs]; exact nodup_snoc h.nd ((h.no _).1 hx)
  · rw [hs]; unfold upU
    by_cases e : y = (T.L k).getD i 0
    · rw [if_pos e, ← e]; simp
    · rw [if_neg e, h.no y, List.mem_append, List.mem_singleton]; exact ⟨fun q r => r.elim q e, fun q r => q (.inl r)⟩
  · unfold upU at hy
    split at hy
    · rename_i e
      obtain rfl : k = j := by simpa using hy
      rw [e]; exact ⟨hk, getD_mem hi⟩
    · exact h.so y j hy
theorem Up.bad {T : TD} {k i : Nat} {U : Int → Option Nat} (h : Up T k i U) (hk : k < T.bn) (hi : i < (T.L k).length) (hx : U ((T.L k).getD i 0) ≠ none) : ¬ T.Once := by
  intro d
  refine d.bad hk hi ?_
  exact Classical.byContradiction fun q => hx ((h.no _).2 q)
theorem Up.once {T : TD} {U : Int → Option Nat} (h : Up T T.bn 0 U) : T.Once := once_of (by have := h.nd; rwa [seen_zero] at this)
theorem Up.iff {T : TD} {U : Int → Option Nat} (h : Up T T.bn 0 U) (x : Int) (j : Nat) : U x = some j ↔ j < T.bn ∧ x ∈ T.L j := by
  constructor
  · exact h.so x j
  · rintro ⟨hj, hx⟩
    have hm : x ∈ seenL T T.bn 0 := by rw [seen_zero]; exact mem_flatL.2 ⟨j, hj, hx⟩
    cases q : U x with
    | none => exact absurd hm ((h.no x).1 q)
    | some j' =>
      obtain ⟨a, b⟩ := h.so x j' q
      have O := h.once
      rcases Nat.lt_trichotomy j j' with e | e | e
      · exact (O.two j j' e a x hx b).elim
      · rw [e]
      · exact (O.two j' j e hj x b hx).elim

/-- The thing of number x, if the first d devices and b buckets are there; they lie at every second block from p, and from q. -/
def thg (T : TD) (p q d b : Nat) (x : Int) : Value := match ix T.df x d with
  | some i => .iface 120 (.pointer (some ⟨p + 2 * i, 0, none⟩))
  | none => match ix T.bf x b with
    | some j => .iface 121 (.pointer (some ⟨q + 2 * j, 0, none⟩))
    | none => .nilIface
theorem thg_none (T : TD) (p q : Nat) (x : Int) : thg T p q 0 0 x = .nilIface := rfl
theorem ix_succ {f : Nat → Int} {x : Int} {n : Nat} (h : f n ≠ x) : ix f x (n + 1) = ix f x n := by
  show (match ix f x n with | some i => some i | none => if f n = x then some n else none) = _
  cases ix f x n with
  | some i => rfl
  | none => dsimp only; rw [if_neg h]
theorem thg_dev {T : TD} (D : T.DevOk) (p q : Nat) {i : Nat} (hi : i < T.dn) : Pm.upd (thg T p q i 0) (T.df i) (.iface 120 (.pointer (some ⟨p + 2 * i, 0, none⟩))) = thg T p q (i + 1) 0 := by
  funext y
  unfold Pm.upd thg
  by_cases e : y = T.df i
  · rw [if_pos e, e, ix_at (n := i + 1) (i := i) (by omega) (fun j hj e2 => by have := D.lt hj hi; omega)]
  · rw [if_neg e, ix_succ (fun e2 => e e2.symm)]
theorem thg_bkt {T : TD} (D : T.DevOk) (B : T.BktOk) (p q : Nat) {j : Nat} (hj : j < T.bn) : Pm.upd (thg T p q T.dn j) (T.bf j) (.iface 121 (.pointer (some ⟨q + 2 * j, 0, none⟩))) = thg T p q T.dn (j + 1) := by
  funext y
  unfold Pm.upd thg
  by_cases e : y = T.bf j
  · rw [if_pos e, e, ix_none.2 (fun i hi e2 => by have := (D.each i hi).1; have := (B.each j hj).2.1; omega)]
    dsimp only
    rw [ix_at (n := j + 1) (i := j) (by omega) (fun j' hj' e2 => by have := B.lt hj' hj; omega)]
  · rw [if_neg e, ix_succ (fun e2 => e e2.symm)]
/-- The thing of a number: a device, a bucket, or nothing. -/
theorem thg_cases {T : TD} (p q : Nat) (x : Int) : (∃ i, i < T.dn ∧ T.df i = x ∧ T.kd x = 0 ∧ thg T p q T.dn T.bn x = .iface 120 (.pointer (some ⟨p + 2 * i, 0, none⟩)))
    ∨ (∃ j, j < T.bn ∧ T.bf j = x ∧ T.kd x = T.bg j ∧ thg T p q T.dn T.bn x = .iface 121 (.pointer (some ⟨q + 2 * j, 0, none⟩)))
    ∨ (T.kd x = -1 ∧ thg T p q T.dn T.bn x = .nilIface) := by
  unfold TD.kd thg
  cases h : ix T.df x T.dn with
  | some i => obtain ⟨a, b, _⟩ := ix_some h; exact .inl ⟨i, a, b, rfl, rfl⟩
  | none =>
    dsimp only
    cases r : ix T.bf x T.bn with
    | some j => obtain ⟨a, b, _⟩ := ix_some r; exact .inr (.inl ⟨j, a, b, rfl, rfl⟩)
    | none => exact .inr (.inr ⟨rfl, rfl⟩)
/-- A pointer to the bucket above. -/
def upv (q : Nat) : Option Nat → Value
  | none => .pointer none
  | some j => .pointer (some ⟨q + 2 * j, 0, none⟩)
end Go.Proofs.Ytoikdonecbpjaaa.Tm
