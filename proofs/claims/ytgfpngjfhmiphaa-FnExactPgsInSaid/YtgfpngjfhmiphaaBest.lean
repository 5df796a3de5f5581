/-
  The best ticket of an item: the program's and the model's functions, and the exact law of BestTicket.
-/
import Derived.Test.YtgfpngjfhmiphaaItem
namespace Go.Proofs.Ytgfpngjfhmiphaa.It
open Go.RowKit Go.Proofs.Ytgfpngjfhmiphaa.GfI Go.Proofs.Ytgfpngjfhmiphaa.GfS Go.Proofs.Ytgfpngjfhmiphaa.Tk
set_option linter.unusedVariables false
theorem undrew {V w1 : World} (h : Below V.drew.heap.size V.drew w1) : Below V.heap.size V w1 := ⟨h.os, h.tape, h.output, h.size, h.block⟩

theorem at_alloc {V w1 : World} {c : Array Value} {T : TypeId} (b : Below (V.alloc (.cells c T)).heap.size (V.alloc (.cells c T)) w1) (i : Nat) : w1.cell? ⟨V.heap.size, i, none⟩ = c[i]? ∧ w1.frozen? ⟨V.heap.size, i, none⟩ = false :=
  ⟨(b.cell (p := ⟨V.heap.size, i, none⟩) (by simp)).trans (World.cell?_alloc_new _ _ _ _), (b.frozen (p := ⟨V.heap.size, i, none⟩) (by simp)).trans (World.frozen?_alloc_at _ _ _ _ rfl)⟩

/-- The boxes of a draw: the item, the result, the best ticket so far. -/
structure Dw (w wr : World) (id wt best : Int) : Prop where
  c0 : wr.cell? ⟨w.heap.size, 0, none⟩ = some (.int .i64 id)
  c1 : wr.cell? ⟨w.heap.size, 1, none⟩ = some (.int .i64 wt)
  r0 : wr.cell? ⟨w.heap.size + 1, 0, none⟩ = some (.int .i64 0)
  r1 : wr.cell? ⟨w.heap.size + 1, 1, none⟩ = some (.int .i64 0)
  d0 : wr.cell? ⟨w.heap.size + 1 + 1, 0, none⟩ = some (.int .i64 id)
  d1 : wr.cell? ⟨w.heap.size + 1 + 1, 1, none⟩ = some (.int .i64 best)
  g0 : wr.frozen? ⟨w.heap.size + 1, 0, none⟩ = false
  g1 : wr.frozen? ⟨w.heap.size + 1, 1, none⟩ = false
  f0 : wr.frozen? ⟨w.heap.size + 1 + 1, 0, none⟩ = false
  f1 : wr.frozen? ⟨w.heap.size + 1 + 1, 1, none⟩ = false
  lt : w.heap.size + 2 < wr.heap.size
  below : Below w.heap.size w wr
theorem Dw.later {w wr w' : World} {id wt best : Int} (h : Dw w wr id wt best) (k : Below wr.heap.size wr w') : Dw w w' id wt best := by
  have lt := h.lt
  have c : ∀ b o, b ≤ w.heap.size + 1 + 1 → w'.cell? ⟨b, o, none⟩ = wr.cell? ⟨b, o, none⟩ := fun b o hb => k.cell (p := ⟨b, o, none⟩) (by show b < _; omega)
  have f : ∀ b o, b ≤ w.heap.size + 1 + 1 → w'.frozen? ⟨b, o, none⟩ = wr.frozen? ⟨b, o, none⟩ := fun b o hb => k.frozen (p := ⟨b, o, none⟩) (by show b < _; omega)
  exact ⟨(c _ _ (by omega)).trans h.c0, (c _ _ (by omega)).trans h.c1, (c _ _ (by omega)).trans h.r0, (c _ _ (by omega)).trans h.r1, (c _ _ (by omega)).trans h.d0, (c _ _ (by omega)).trans h.d1,
    (f _ _ (by omega)).trans h.g0, (f _ _ (by omega)).trans h.g1, (f _ _ (by omega)).trans h.f0, (f _ _ (by omega)).trans h.f1, Nat.lt_of_lt_of_le lt k.size, h.below.trans (k.mono (by omega))⟩
theorem Dw.put {w wr : World} {id wt best : Int} (h : Dw w wr id wt best) (n : Int) : Dw w (wr.setCell ⟨w.heap.size + 1 + 1, 1, none⟩ (.int .i64 n)) id wt n := by
  have c : ∀ b o, ¬ (b = w.heap.size + 1 + 1 ∧ o = 1) → (wr.setCell ⟨w.heap.size + 1 + 1, 1, none⟩ (.int .i64 n)).cell? ⟨b, o, none⟩ = wr.cell? ⟨b, o, none⟩ := fun b o hb => World.cell?_setCell_other _ _ _ _ (fun e => hb (by simp at e; omega))
  have f : ∀ b o, (wr.setCell ⟨w.heap.size + 1 + 1, 1, none⟩ (.int .i64 n)).frozen? ⟨b, o, none⟩ = wr.frozen? ⟨b, o, none⟩ := fun b o => World.frozen?_setCell _ _ _ _
  refine ⟨(c _ _ (by omega)).trans h.c0, (c _ _ (by omega)).trans h.c1, (c _ _ (by omega)).trans h.r0, (c _ _ (by omega)).trans h.r1, (c _ _ (by omega)).trans h.d0, ?_,
    (f _ _).trans h.g0, (f _ _).trans h.g1, (f _ _).trans h.f0, (f _ _).trans h.f1, by simpa using h.lt, h.below.setCell (by show _ ≤ w.heap.size + 1 + 1; omega) _⟩
  exact World.cell?_setCell_same _ _ _ h.d1
theorem Dw.new (w : World) (id wt : Int) (T U V : TypeId) :
    Dw w (((w.alloc (.cells #[.int .i64 id, .int .i64 wt] T)).alloc (.cells #[.int .i64 0, .int .i64 0] U)).alloc (.cells #[.int .i64 id, .int .i64 0] V)) id wt 0 := by
  have s1 : ∀ V : World, ∀ O, (V.alloc O).heap.size = V.heap.size + 1 := fun V O => World.size_alloc _ _
  have q0 := at_alloc (chain (lay (w.alloc (.cells #[.int .i64 id, .int .i64 wt] T)) (.cells #[.int .i64 0, .int .i64 0] U)) (lay _ (.cells #[.int .i64 id, .int .i64 0] V)))
  have q1 := at_alloc (lay ((w.alloc (.cells #[.int .i64 id, .int .i64 wt] T)).alloc (.cells #[.int .i64 0, .int .i64 0] U)) (.cells #[.int .i64 id, .int .i64 0] V))
  have q2 := at_alloc (Below.refl (((w.alloc (.cells #[.int .i64 id, .int .i64 wt] T)).alloc (.cells #[.int .i64 0, .int .i64 0] U)).alloc (.cells #[.int .i64 id, .int .i64 0] V)).heap.size _)
  simp only [s1] at q1 q2
  exact ⟨(q0 0).1, (q0 1).1, (q1 0).1, (q1 1).1, (q2 0).1, (q2 1).1, (q1 0).2, (q1 1).2, (q2 0).2, (q2 1).2, by simp only [s1]; omega, chain (chain (lay _ _) (lay _ _)) (lay _ _)⟩

def Drawn (n id : Int) (w : World) (e : Ending) (w' : World) : Prop := e = .returned (.agg #[.int .i64 id, .int .i64 n]) ∧ Below w.heap.size w w'

set_option maxRecDepth 100000 in
set_option maxHeartbeats 1000000 in
theorem implDraw (id wt seed try' : Int) (h0 : 0 ≤ wt) (h1 : wt ≤ 9223372036854775807) (w : World) :
    Calls Try.prog 143 #[ival id wt, .int .i64 seed, .int .i64 try'] w (Drawn (bn id seed try' wt.toNat) id w) := by
  obtain ⟨n, rfl⟩ : ∃ n : Nat, wt = n := ⟨wt.toNat, by omega⟩
  have B := Dw.new w id n 160 189 189
  rw [Int.toNat_natCast]
  clear h0
  go_enter Try.func143, Try.ntmps143
  go_wp2
  go_loopw [14] (fun i wr => ∃ k : Nat, k ≤ n ∧ i = .int .i64 k ∧ Dw w wr id n (bn id seed try' k)) (fun i _ => n - (intOf i).toNat)
  case atStart => exact ⟨0, by omega, rfl, B⟩
  case round =>
    obtain ⟨k, hk, rfl, X⟩ := hrel
    clear B
    by_cases hlt : k < n
    · have M := bn_lt id seed try' k
      have T := tk_lt id k seed try'
      have S : bn id seed try' (k + 1) = if bn id seed try' k < tk id k seed try' then tk id k seed try' else bn id seed try' k := rfl
      have S := Lib.hid S
      have XH := Lib.hid X
      have LT := X.lt
      obtain ⟨c0, c1, -, -, -, d1, -, -, -, f1, -, -⟩ := X
      go_wp2
      go_region_with (go_at_call 159; refine (implTicket _ _ _ _ _).mono ?_; rintro e w1 ⟨rfl, b1⟩; have X1 := Lib.hid (XH.out.later (undrew b1)); obtain ⟨-, -, -, -, -, d2, -, -, -, f2, lt2, -⟩ := X1.out; have c2 := X1.out.c0)
      all_goals
        go_wp2
        go_roundw
        case rel => exact ⟨k + 1, by omega, by go_num, by rw [S.out]; exact X1.out.put _⟩
        case measure => simp [intOf]; omega
    · obtain rfl : k = n := by omega
      obtain ⟨c0, c1, r0, r1, d0, d1, g0, g1, f0, f1, lt, hb⟩ := X
      go_wp2
      refine bodyPost_ret (v := .agg #[.int .i64 id, .int .i64 (bn id seed try' k)]) (by simp [results, Try.results143, go_sem, *]) rfl ⟨rfl, ?_⟩
      exact (hb.setCell (by show _ ≤ w.heap.size + 1; omega) _).setCell (by show _ ≤ w.heap.size + 1; omega) _

/-- Two numbers, and memory that was there is as it was. -/
def Two (a b : Int) (w : World) (e : Ending) (w' : World) : Prop := e = .returned (.tuple #[.int .i64 a, .int .i64 b]) ∧ Below w.heap.size w w'
def btA (id wt seed try' : Int) : Int := if okI id wt = true ∧ wt ≠ 0 then bn id seed try' wt.toNat else 0
def btB (id wt : Int) : Int := if okI id wt = true then (if wt = 0 then 3 else 0) else 1

end Go.Proofs.Ytgfpngjfhmiphaa.It
