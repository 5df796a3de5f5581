/-
  How long the columns of a striped object are: the program's and the model's functions.
-/
import Derived.Test.YtmndkmkknkodhaaWide
import Derived.Deep.RegionWith
namespace Go.Proofs.Ytmndkmkknkodhaa.Sg
open Go.RowKit Go.Proofs.Ytmndkmkknkodhaa.GfI Go.Proofs.Ytmndkmkknkodhaa.GfS
set_option linter.unusedVariables false

def BoolB (b : Bool) (w : World) (e : Ending) (w' : World) : Prop := e = .returned (.bool b) ∧ Below w.heap.size w w'
/-- How many bytes a column has. -/
def tall (k u s : Int) : Int := (s + k * u - 1) / (k * u) * u
theorem ku_bounds {k u : Int} (k0 : 1 ≤ k) (k1 : k ≤ 4) (u0 : 1 ≤ u) (u1 : u ≤ 8) : 1 ≤ k * u ∧ k * u ≤ 32 := by
  have h : k = 1 ∨ k = 2 ∨ k = 3 ∨ k = 4 := by omega
  rcases h with rfl | rfl | rfl | rfl <;> omega
theorem q_bounds {r s : Int} (r0 : 1 ≤ r) (r1 : r ≤ 32) (s0 : 0 ≤ s) (s1 : s ≤ 256) : 0 ≤ (s + r - 1) / r ∧ (s + r - 1) / r ≤ 300 :=
  ⟨Int.ediv_nonneg (by omega) (by omega), Int.le_trans (Int.ediv_le_self _ (by omega)) (by omega)⟩
theorem qu_bounds {q u : Int} (q0 : 0 ≤ q) (q1 : q ≤ 300) (u0 : 1 ≤ u) (u1 : u ≤ 8) : 0 ≤ q * u ∧ q * u ≤ 2400 := by
  have h : u = 1 ∨ u = 2 ∨ u = 3 ∨ u = 4 ∨ u = 5 ∨ u = 6 ∨ u = 7 ∨ u = 8 := by omega
  rcases h with rfl | rfl | rfl | rfl | rfl | rfl | rfl | rfl <;> omega
theorem tall_bounds {k u s : Int} (k0 : 1 ≤ k) (k1 : k ≤ 4) (u0 : 1 ≤ u) (u1 : u ≤ 8) (s0 : 0 ≤ s) (s1 : s ≤ 256) : 0 ≤ tall k u s ∧ tall k u s ≤ 2400 := by
  obtain ⟨a, b⟩ := ku_bounds k0 k1 u0 u1
  obtain ⟨c, d⟩ := q_bounds a b s0 s1
  exact qu_bounds c d u0 u1

theorem isUnit (u : Int) (w : World) : Calls Try.prog 100 #[.int .i64 u] w fun e w' => e = .returned (.bool (inB u 1 8)) ∧ w = w' := by
  by_cases h0 : 1 ≤ u
  · by_cases h1 : u ≤ 8
    · have E := inB_yes h0 h1
      rw [E]
      clear E
      go_enter Try.func100, Try.ntmps100
      go_wp2
      go_ret
      exact ⟨rfl, rfl⟩
    · have E : inB u 1 8 = false := decide_eq_false (by omega)
      rw [E]
      clear E
      go_enter Try.func100, Try.ntmps100
      go_wp2
      go_ret
      exact ⟨ret_bool (by simp), rfl⟩
  · have E : inB u 1 8 = false := decide_eq_false (by omega)
    rw [E]
    clear E
    go_enter Try.func100, Try.ntmps100
    go_wp2
    go_ret
    exact ⟨rfl, rfl⟩

theorem dividedUp (n r : Int) (n0 : 0 ≤ n) (n1 : n ≤ 1000000) (r0 : 1 ≤ r) (r1 : r ≤ 1000000) (w : World) :
    Calls Try.prog 128 #[.int .i64 n, .int .i64 r] w fun e w' => e = .returned (.int .i64 ((n + r - 1) / r)) ∧ w = w' := by
  have r2 : (r == 0) = false := by simp; omega
  have r3 : 0 ≤ n + r - 1 := by omega
  go_enter Try.func128, Try.ntmps128
  go_wp2
  go_ret
  exact ⟨rfl, rfl⟩

set_option maxRecDepth 100000 in
theorem stripeSize (k m u s : Int) (c : Value) (k0 : 1 ≤ k) (k1 : k ≤ 4) (u0 : 1 ≤ u) (u1 : u ≤ 8) (w : World) :
    Calls Try.prog 131 #[wval k m u s c] w (IntB (k * u) w) := by
  obtain ⟨a, b⟩ := ku_bounds k0 k1 u0 u1
  go_enter Try.func131, Try.ntmps131
  go_wp2
  go_ret
  exact ⟨rfl, lay _ _⟩

set_option maxRecDepth 100000 in
theorem l05Tall (k m u s : Int) (k0 : 1 ≤ k) (k1 : k ≤ 4) (u0 : 1 ≤ u) (u1 : u ≤ 8) (s0 : 0 ≤ s) (s1 : s ≤ 256) (w : World) :
    Calls Try.prog 130 #[Cd.cval k m, .int .i64 u, .int .i64 s] w (IntB (tall k u s) w) := by
  obtain ⟨a, b⟩ := ku_bounds k0 k1 u0 u1
  obtain ⟨q0, q1⟩ := q_bounds a b s0 s1
  obtain ⟨t0, t1⟩ := qu_bounds q0 q1 u0 u1
  have r2 : (k * u == 0) = false := by simp; omega
  have r3 : 0 ≤ s + k * u - 1 := by omega
  unfold tall
  go_enter Try.func130, Try.ntmps130
  go_wp2
  go_ret
  exact ⟨rfl, lay _ _⟩

set_option maxRecDepth 100000 in
set_option maxHeartbeats 2000000 in
theorem columnSize (k m u s : Int) (c : Value) (k0 : 1 ≤ k) (k1 : k ≤ 4) (u0 : 1 ≤ u) (u1 : u ≤ 8) (s0 : 0 ≤ s) (s1 : s ≤ 256) (w : World) :
    Calls Try.prog 101 #[wval k m u s c] w (IntB (tall k u s) w) := by
  obtain ⟨a, b⟩ := ku_bounds k0 k1 u0 u1
  obtain ⟨q0, q1⟩ := q_bounds a b s0 s1
  obtain ⟨t0, t1⟩ := qu_bounds q0 q1 u0 u1
  have X := BxN.new w #[.int .i64 k, .int .i64 m, .int .i64 u, .int .i64 s, c] 77
  have XH := Lib.hid X
  have LH := Lib.hid (lay w (.cells #[.int .i64 k, .int .i64 m, .int .i64 u, .int .i64 s, c] 77))
  have ST := Lib.hid (fun w' => stripeSize k m u s c k0 k1 u0 u1 w')
  have DU := Lib.hid (fun w' => dividedUp s (k * u) s0 (by omega) (by omega) (by omega) w')
  have WR : IntKind.i64.wrap ((s + k * u - 1) / (k * u) * u) = (s + k * u - 1) / (k * u) * u := by rw [IntKind.wrap_i64]; omega
  unfold tall
  clear X
  go_enter Try.func101, Try.ntmps101
  go_wp2
  generalize hq : (s + k * u - 1) / (k * u) = q at *
  go_region_with (first | (go_at_call 131; refine (ST.out _).mono ?_; rintro e w1 ⟨rfl, b1⟩; have X1 := XH.out.later (undrew b1); have x0 := X1.cells 0 _ rfl; have x1 := X1.cells 1 _ rfl; have x2 := X1.cells 2 _ rfl; have x3 := X1.cells 3 _ rfl; have x4 := X1.cells 4 _ rfl; have B1 := Lib.hid (chain LH.out (undrew b1)); clear X1 b1) | (go_at_call 128; refine (DU.out _).mono ?_; rintro e w2 ⟨rfl, rfl⟩; try rw [hq]))
  all_goals
    go_wp2
    go_ret
    exact ⟨rfl, B1.out⟩
end Go.Proofs.Ytmndkmkknkodhaa.Sg
