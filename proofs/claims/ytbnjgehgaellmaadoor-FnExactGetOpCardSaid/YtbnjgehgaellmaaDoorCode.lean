/-
  Whether a code is valid and how great its pieces are: what the program's and the model's functions return; the two exact laws.
-/
import Derived.Test.YtbnjgehgaellmaaDoorGfSpec
namespace Go.Proofs.YtbnjgehgaellmaaDoor.Cd
open Go.RowKit Go.Proofs.YtbnjgehgaellmaaDoor.GfI Go.Proofs.YtbnjgehgaellmaaDoor.GfS
set_option linter.unusedVariables false

abbrev cval (k m : Int) : Value := .agg #[.int .i64 k, .int .i64 m]
def okC (k m : Int) : Bool := decide (1 ≤ k ∧ k ≤ 4 ∧ 0 ≤ m ∧ m ≤ 3)
theorem okC_no {k m : Int} (d : ¬ (1 ≤ k ∧ k ≤ 4 ∧ 0 ≤ m ∧ m ≤ 3)) : okC k m = false := decide_eq_false d
theorem okC_yes {k m : Int} (d : 1 ≤ k ∧ k ≤ 4 ∧ 0 ≤ m ∧ m ≤ 3) : okC k m = true := decide_eq_true d
theorem okC_out {k m : Int} (o : okC k m = true) : 1 ≤ k ∧ k ≤ 4 ∧ 0 ≤ m ∧ m ≤ 3 := of_decide_eq_true o
def BoolB (b : Bool) (w : World) (e : Ending) (w' : World) : Prop := e = .returned (.bool b) ∧ Below w.heap.size w w'
def ValB (v : Value) (w : World) (e : Ending) (w' : World) : Prop := e = .returned v ∧ Below w.heap.size w w'
theorem lay (w : World) (x : Obj) : Below w.heap.size w (w.alloc x) := (Below.refl _ _).alloc (Nat.le_refl _) _
theorem chain {w a b : World} (h : Below w.heap.size w a) (k : Below a.heap.size a b) : Below w.heap.size w b := h.trans (k.mono h.size)
/-- A box of two cells that lay in V on top. -/
theorem box2 {V w1 : World} {x y : Value} {T : TypeId} (b : Below (V.alloc (.cells #[x, y] T)).heap.size (V.alloc (.cells #[x, y] T)) w1) :
    w1.cell? ⟨V.heap.size, 0, none⟩ = some x ∧ w1.cell? ⟨V.heap.size, 1, none⟩ = some y ∧ w1.frozen? ⟨V.heap.size, 0, none⟩ = false ∧ w1.frozen? ⟨V.heap.size, 1, none⟩ = false := by
  have c : ∀ i, w1.cell? ⟨V.heap.size, i, none⟩ = (V.alloc (.cells #[x, y] T)).cell? ⟨V.heap.size, i, none⟩ := fun i => b.cell (by simp)
  have f : ∀ i, w1.frozen? ⟨V.heap.size, i, none⟩ = false := fun i => (b.frozen (by simp)).trans (World.frozen?_alloc_at _ _ _ _ rfl)
  exact ⟨(c 0).trans (World.cell?_alloc_new _ _ _ _), (c 1).trans (World.cell?_alloc_new _ _ _ _), f 0, f 1⟩

set_option maxRecDepth 100000 in
theorem implCodeOk (k m : Int) (w : World) :
    Calls Tryd.prog 28 #[cval k m] w (BoolB (okC k m) w) := by
  have L := Lib.hid (lay w)
  by_cases d : 1 ≤ k ∧ k ≤ 4 ∧ 0 ≤ m ∧ m ≤ 3
  · rw [okC_yes d]
    obtain ⟨d1, d2, d3, d4⟩ := d
    go_enter Tryd.func28, Tryd.ntmps28
    go_wp2
    go_ret
    exact ⟨rfl, L.out _⟩
  · rw [okC_no d]
    have q : k < 1 ∨ (1 ≤ k ∧ 4 < k) ∨ (1 ≤ k ∧ k ≤ 4 ∧ m < 0) ∨ (1 ≤ k ∧ k ≤ 4 ∧ 0 ≤ m ∧ 3 < m) := by omega
    clear d
    rcases q with q | ⟨q1, q2⟩ | ⟨q1, q2, q3⟩ | ⟨q1, q2, q3, q4⟩ <;>
    · go_enter Tryd.func28, Tryd.ntmps28
      go_wp2
      go_ret
      exact ⟨by first | rfl | (show Ending.returned (.bool (decide _)) = _; rw [decide_eq_false (by omega)]), L.out _⟩

set_option maxRecDepth 100000 in
theorem l04Code (k m : Int) (w : World) :
    Calls Tryd.prog 25 #[cval k m] w (BoolB (okC k m) w) := by
  have L := Lib.hid (lay w)
  by_cases d1 : 1 ≤ k ∧ k ≤ 4
  · have I1 := inB_yes d1.1 d1.2
    have E : okC k m = inB m 0 3 := by
      unfold okC inB
      by_cases q : 0 ≤ m ∧ m ≤ 3
      · rw [decide_eq_true q, decide_eq_true (by omega)]
      · rw [decide_eq_false q, decide_eq_false (by omega)]
    rw [E]
    clear E d1
    go_enter Tryd.func25, Tryd.ntmps25
    go_wp2_with fail
    refine (l00In k 1 4 _).mono ?_
    rintro e' w1 ⟨rfl, rfl⟩
    go_wp2_with fail
    refine (l00In m 0 3 _).mono ?_
    rintro e' w1 ⟨rfl, rfl⟩
    go_wp2
    go_ret
    exact ⟨rfl, L.out _⟩
  · have I1 : inB k 1 4 = false := decide_eq_false d1
    rw [okC_no (by omega)]
    clear d1
    go_enter Tryd.func25, Tryd.ntmps25
    go_wp2_with fail
    refine (l00In k 1 4 _).mono ?_
    rintro e' w1 ⟨rfl, rfl⟩
    go_wp2
    go_ret
    exact ⟨rfl, L.out _⟩

set_option maxRecDepth 100000 in
theorem specCodeOk (k m : Int) (w : World) :
    Calls Tryd.prog 16 #[cval k m] w (BoolB (okC k m) w) := by
  have L := Lib.hid (lay w)
  have C := Lib.hid (l04Code k m)
  generalize okC k m = ok at *
  go_enter Tryd.func16, Tryd.ntmps16
  go_wp2_with fail
  refine (C.out _).mono ?_
  rintro e w1 ⟨rfl, b1⟩
  go_wp2
  go_ret
  exact ⟨rfl, chain (L.out _) b1⟩

def pieceZ (k size : Int) : Int := (size + k - 1) / k
def isBody (n : Int) : Bool := decide (0 ≤ n ∧ n ≤ 64)
set_option maxRecDepth 100000 in
theorem isBodySize (n : Int) (w : World) :
    Calls Tryd.prog 30 #[.int .i64 n] w fun e w' => e = .returned (.bool (isBody n)) ∧ w = w' := by
  by_cases d : 0 ≤ n ∧ n ≤ 64
  · rw [show isBody n = true from decide_eq_true d]
    obtain ⟨d1, d2⟩ := d
    go_enter Tryd.func30, Tryd.ntmps30
    go_wp2
    go_ret
    exact ⟨rfl, rfl⟩
  · rw [show isBody n = false from decide_eq_false d]
    have q : n < 0 ∨ (0 ≤ n ∧ 64 < n) := by omega
    clear d
    rcases q with q | ⟨q1, q2⟩ <;>
    · go_enter Tryd.func30, Tryd.ntmps30
      go_wp2
      go_ret
      exact ⟨by first | rfl | (show Ending.returned (.bool (decide _)) = _; rw [decide_eq_false (by omega)]), rfl⟩

end Go.Proofs.YtbnjgehgaellmaaDoor.Cd
