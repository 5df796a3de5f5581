/-
  Whether a list of items is valid: the program's function (by a map) and the model's (by two loops).
-/
import Derived.Test.YtigaoimnhebegaaItemS
import Derived.Maps.OwnOps
import Derived.Maps.Views
import Derived.BigQuiet
import Derived.Deep.QuietTactic
namespace Go.Proofs.Ytigaoimnhebegaa.Rc
open Go.RowKit Go.Proofs.Ytigaoimnhebegaa.It Go.Proofs.Ytigaoimnhebegaa.GfI
open Go.Maps
set_option linter.unusedVariables false

/-- Each of the first k items is valid, and no two have one number. -/
def Pre (f g : Nat → Int) (k : Nat) : Prop := (∀ i, i < k → okI (f i) (g i) = true) ∧ ∀ i, i < k → ∀ j, j < i → f j ≠ f i
instance (f g : Nat → Int) (k : Nat) : Decidable (Pre f g k) := by unfold Pre; infer_instance
def okL (n : Nat) (f g : Nat → Int) : Bool := decide (n ≤ 8 ∧ Pre f g n)
theorem Pre.zero (f g : Nat → Int) : Pre f g 0 := ⟨fun i hi => absurd hi (Nat.not_lt_zero _), fun i hi => absurd hi (Nat.not_lt_zero _)⟩
theorem Pre.succ {f g : Nat → Int} {k : Nat} (h : Pre f g k) (o : okI (f k) (g k) = true) (d : ∀ j, j < k → f j ≠ f k) : Pre f g (k + 1) :=
  ⟨fun i hi => by by_cases e : i = k; · rw [e]; exact o
                  · exact h.1 i (by omega), fun i hi j hj => by by_cases e : i = k; · rw [e]; rw [e] at hj; exact d j hj
                                                                · exact h.2 i (by omega) j hj⟩
theorem okL_long {n : Nat} {f g : Nat → Int} (h : ¬ n ≤ 8) : okL n f g = false := decide_eq_false fun e => h e.1
theorem okL_item {n k : Nat} {f g : Nat → Int} (hk : k < n) (h : okI (f k) (g k) = false) : okL n f g = false := decide_eq_false fun e => by have := e.2.1 k hk; rw [h] at this; cases this
theorem okL_twice {n k j : Nat} {f g : Nat → Int} (hk : k < n) (hj : j < k) (h : f j = f k) : okL n f g = false := decide_eq_false fun e => e.2.2 k hk j hj h
theorem okL_end {n : Nat} {f g : Nat → Int} (h : Pre f g n) : okL n f g = decide ((n : Int) ≤ 8) := by
  unfold okL
  by_cases q : n ≤ 8
  · rw [decide_eq_true (show n ≤ 8 ∧ Pre f g n from ⟨q, h⟩), decide_eq_true (by omega)]
  · rw [decide_eq_false (fun e => q e.1), decide_eq_false (by omega)]

theorem plainElem_bool_inv {H : Type} {P : Program} {e : TypeId} (he : P.underlying e = some .bool) {v : Value} {z : DataW H × List MemPlace} (h : plainElem P e v = some z) : ∃ x, v = .bool x ∧ z = (.lit (.bool x), []) := by
  unfold plainElem at h
  rw [he] at h
  cases v <;> simp at h
  exact ⟨_, rfl, h.symm⟩
/-- A look-up in a map of bools that the call made, where it is known what the map reads as at the key. -/
theorem wpList_lookup_bool {H : Type} {P : Program} (w : World) {ops : Array Oper} {rest : List Oper} {o : Oper} {a : Act} {Q : Exit → Act → World → Prop}
    (hg : Region.wanted o (yielded ops a.tmps) = true) (m x : Operand) (t : TypeId) (hop : o.op = Op.lookup t m x false)
    (k e : TypeId) (K : Keyed P k) (ht : P.underlying t = some (.map k e)) (he : P.underlying e = some .bool) (hz : (zeroValue e).run P w = .ok (.bool false) w) (b n : Nat) (D : DataW H)
    (hm : a.eval m = .map (some b)) (hown : w.ownsMap P k (plainElem P e) b n D) (key : Value) (kl : Lit) (hx : a.eval x = key) (hkey : keyOf P k key = some kl)
    (c : Bool) (hat : D.atKey kl (.lit (.bool false)) = .lit (.bool c)) (hK : wpList P ops Q rest (a.put o.dst (.bool c)) w) : wpList P ops Q (o :: rest) a w := by
  refine wpList_step fun K' hK' => ?_
  rw [if_pos hg]
  obtain ⟨v, ps, hrun, hv⟩ := hown.lookup K ht hz (plainElem_bool he false) hkey
  rw [hat] at hv
  obtain ⟨x', rfl, hc⟩ := plainElem_bool_inv he hv
  simp only [Prod.mk.injEq] at hc
  obtain rfl : c = x' := by have := hc.1; simpa using this
  unfold Oper.wp
  simp [execOp, hop, hm, hx, hrun, Result.andThen]
  exact hK' _ _ hK
theorem ownsMap_later {P : Program} {k : TypeId} {R : Value → Option (DataW Unit × List MemPlace)} {w w' : World} {b n : Nat} {D : DataW Unit} (h : w.ownsMap P k R b n D) (g : Below w.heap.size w w') : w'.ownsMap P k R b n D :=
  h.kept (row := none) ⟨g.os, g.tape, g.output, g.size, fun c hc _ => g.block c hc⟩ (by simp)

/-- The map of the numbers met: true at each of the first k. -/
def Met (f : Nat → Int) : Nat → DataW Unit
  | 0 => .map []
  | k + 1 => (Met f k).put (.int .i64 (f k)) (.lit (.bool true))
theorem met_isMap (f : Nat → Int) : ∀ k, IsMap (Met f k)
  | 0 => isMap_empty
  | k + 1 => (met_isMap f k).put _ _
theorem met_at (f : Nat → Int) (x : Int) : ∀ k, (Met f k).atKey (.int .i64 x) (.lit (.bool false)) = .lit (.bool (decide (∃ j, j < k ∧ f j = x)))
  | 0 => by
    rw [decide_eq_false (by rintro ⟨j, hj, _⟩; omega)]; rfl
  | k + 1 => by
    unfold Met
    by_cases e : f k = x
    · rw [decide_eq_true ⟨k, by omega, e⟩, e, atKey_put_same (met_isMap f k) (by trivial)]
    · rw [atKey_put_other (by intro h; cases h; exact e rfl), met_at f x k]
      congr 2
      rw [Bool.eq_iff_iff, decide_eq_true_iff, decide_eq_true_iff]
      constructor
      · rintro ⟨j, hj, h⟩; exact ⟨j, by omega, h⟩
      · rintro ⟨j, hj, h⟩
        by_cases q : j = k
        · rw [q] at h; exact absurd h e
        · exact ⟨j, by omega, h⟩

theorem keys : Keyed Try.prog 2 := int_keyed Try.underlying2
theorem zeroB (w : World) : (zeroValue 4).run Try.prog w = .ok (.bool false) w := by kernel_rfl

end Go.Proofs.Ytigaoimnhebegaa.Rc
