/-
  An item: a copy of it, whether it is valid, its best ticket: what the program's and the model's functions return.
-/
import Derived.Test.YtigaoimnhebegaaWithin
import Derived.Test.YtigaoimnhebegaaTicket
import Derived.Deep.RegionWith
import Derived.Deep.RegionLaw
namespace Go.Proofs.Ytigaoimnhebegaa.It
open Go.RowKit Go.Proofs.Ytigaoimnhebegaa.GfI Go.Proofs.Ytigaoimnhebegaa.GfS Go.Proofs.Ytigaoimnhebegaa.Tk
set_option linter.unusedVariables false

abbrev ival (id wt : Int) : Value := .agg #[.int .i64 id, .int .i64 wt]
def okI (id wt : Int) : Bool := decide (-12 ≤ id ∧ id ≤ 15 ∧ 0 ≤ wt ∧ wt ≤ 128)
theorem okI_no {id wt : Int} (d : ¬ (-12 ≤ id ∧ id ≤ 15 ∧ 0 ≤ wt ∧ wt ≤ 128)) : okI id wt = false := decide_eq_false d
theorem okI_yes {id wt : Int} (d : -12 ≤ id ∧ id ≤ 15 ∧ 0 ≤ wt ∧ wt ≤ 128) : okI id wt = true := decide_eq_true d
theorem okI_out {id wt : Int} (o : okI id wt = true) : -12 ≤ id ∧ id ≤ 15 ∧ 0 ≤ wt ∧ wt ≤ 128 := of_decide_eq_true o
def BoolB (b : Bool) (w : World) (e : Ending) (w' : World) : Prop := e = .returned (.bool b) ∧ Below w.heap.size w w'
def ValB (v : Value) (w : World) (e : Ending) (w' : World) : Prop := e = .returned v ∧ Below w.heap.size w w'
theorem lay (w : World) (x : Obj) : Below w.heap.size w (w.alloc x) := (Below.refl _ _).alloc (Nat.le_refl _) _
theorem chain {w a b : World} (h : Below w.heap.size w a) (k : Below a.heap.size a b) : Below w.heap.size w b := h.trans (k.mono h.size)
/-- A box of two cells that lay in V on top. -/
theorem box2 {V w1 : World} {x y : Value} {T : TypeId} (b : Below (V.alloc (.cells #[x, y] T)).heap.size (V.alloc (.cells #[x, y] T)) w1) :
    w1.cell? ⟨V.heap.size, 0, none⟩ = some x ∧ w1.cell? ⟨V.heap.size, 1, none⟩ = some y ∧ w1.frozen? ⟨V.heap.size, 0, none⟩ = false ∧ w1.frozen? ⟨V.heap.size, 1, none⟩ = false := by
  have c : ∀ i, w1.cell? ⟨V.heap.size, i, none⟩ = (V.alloc (.cells #[x, y] T)).cell? ⟨V.heap.size, i, none⟩ := fun i => b.cell (by simp)
  have f : ∀ i, w1.frozen? ⟨V.heap.size, i, none⟩ = false := fun i => (b.frozen (by simp)).trans (World.frozen?_alloc_at _ _ _ _ rfl)
  exact ⟨(c 0).trans (World.cell?_alloc_new _ _ _ _), (c 1).trans (World.cell?_alloc_new _ _ _ _), f 0, f 1⟩

theorem okI_split {id wt : Int} : okI id wt = (inB id (-12) 15 && inB wt 0 128) := by
  unfold okI inB
  by_cases q1 : -12 ≤ id ∧ id ≤ 15
  · rw [decide_eq_true q1, Bool.true_and]
    by_cases q2 : 0 ≤ wt ∧ wt ≤ 128
    · rw [decide_eq_true q2, decide_eq_true (by omega)]
    · rw [decide_eq_false q2, decide_eq_false (by omega)]
  · rw [decide_eq_false q1, Bool.false_and, decide_eq_false (by omega)]

/-- The highest ticket of the first k units, 0 of none. -/
def bn (id seed try' : Int) : Nat → Int
  | 0 => 0
  | k + 1 => if bn id seed try' k < tk id k seed try' then tk id k seed try' else bn id seed try' k
theorem bn_lt (id seed try' : Int) : ∀ k, 0 ≤ bn id seed try' k ∧ bn id seed try' k ≤ 4294967295
  | 0 => by simp [bn]
  | k + 1 => by
    have h := bn_lt id seed try' k
    have t := tk_lt id k seed try'
    unfold bn
    split <;> omega
/-- .. and -1 of none. -/
def bs (id seed try' : Int) (k : Nat) : Int := if k = 0 then -1 else bn id seed try' k
theorem bs_lt (id seed try' : Int) (k : Nat) : -1 ≤ bs id seed try' k ∧ bs id seed try' k ≤ 4294967295 := by
  unfold bs; have := bn_lt id seed try' k; split <;> omega
theorem bs_succ (id seed try' : Int) (k : Nat) : (if bs id seed try' k > tk id k seed try' then bs id seed try' k else tk id k seed try') = bs id seed try' (k + 1) := by
  have t := tk_lt id k seed try'
  have b := bn_lt id seed try' k
  unfold bs
  rw [if_neg (by omega : ¬ k + 1 = 0)]
  by_cases h : k = 0
  · subst h
    rw [if_pos rfl, if_neg (by omega), bn, bn]
    by_cases q : 0 < tk id ((0 : Nat) : Int) seed try'
    · rw [if_pos q]
    · rw [if_neg q]; omega
  · rw [if_neg h, bn]; split <;> split <;> omega

set_option maxRecDepth 100000 in
theorem l00Max (a b : Int) (w : World) : Calls Try.prog 154 #[.int .i64 a, .int .i64 b] w fun e w' => e = .returned (.int .i64 (if a > b then a else b)) ∧ w = w' := by
  by_cases h : a > b
  · rw [if_pos h]
    go_enter Try.func154, Try.ntmps154
    go_wp2
    go_ret
    exact ⟨rfl, rfl⟩
  · rw [if_neg h]
    go_enter Try.func154, Try.ntmps154
    go_wp2
    go_ret
    exact ⟨rfl, rfl⟩

/-- What lies in the item's box stays. -/
structure Bx2 (wr : World) (b : Nat) (id wt : Int) : Prop where
  c0 : wr.cell? ⟨b, 0, none⟩ = some (.int .i64 id)
  c1 : wr.cell? ⟨b, 1, none⟩ = some (.int .i64 wt)
  lt : b < wr.heap.size
theorem Bx2.later {wr w' : World} {b : Nat} {id wt : Int} (h : Bx2 wr b id wt) (k : Below wr.heap.size wr w') : Bx2 w' b id wt :=
  ⟨(k.cell h.lt).trans h.c0, (k.cell h.lt).trans h.c1, Nat.lt_of_lt_of_le h.lt k.size⟩
theorem Bx2.new (w : World) (id wt : Int) (T : TypeId) : Bx2 (w.alloc (.cells #[.int .i64 id, .int .i64 wt] T)) w.heap.size id wt :=
  ⟨World.cell?_alloc_new _ _ _ _, World.cell?_alloc_new _ _ _ _, by simp⟩

end Go.Proofs.Ytigaoimnhebegaa.It
