/-
  The column of a byte of a striped object and its place in it: the program's and the model's functions.
-/
import Derived.Test.YtmndkmkknkodhaaWideSpec
namespace Go.Proofs.Ytmndkmkknkodhaa.Sg
open Go.RowKit Go.Proofs.Ytmndkmkknkodhaa.GfI Go.Proofs.Ytmndkmkknkodhaa.GfS
set_option linter.unusedVariables false

def cellA (k u at' : Int) : Int := at' % (k * u) / u
def cellB (k u at' : Int) : Int := at' / (k * u) * u + at' % (k * u) % u
def TwoB (x y : Int) (w : World) (e : Ending) (w' : World) : Prop := e = .returned (.tuple #[.int .i64 x, .int .i64 y]) ∧ Below w.heap.size w w'

theorem div_bounds {r x : Int} (r0 : 1 ≤ r) (x0 : 0 ≤ x) (x1 : x ≤ 256) : 0 ≤ x / r ∧ x / r ≤ 256 := ⟨Int.ediv_nonneg x0 (by omega), Int.le_trans (Int.ediv_le_self _ x0) x1⟩
theorem mod_bounds {r x : Int} (r0 : 1 ≤ r) : 0 ≤ x % r ∧ x % r < r := ⟨Int.emod_nonneg _ (by omega), Int.emod_lt_of_pos _ (by omega)⟩

set_option maxRecDepth 100000 in
set_option maxHeartbeats 2000000 in
theorem place (k m u s : Int) (c : Value) (at' : Int) (k0 : 1 ≤ k) (k1 : k ≤ 4) (u0 : 1 ≤ u) (u1 : u ≤ 8) (a0 : 0 ≤ at') (a1 : at' ≤ 256) (w : World) :
    Calls Try.prog 107 #[wval k m u s c, .int .i64 at'] w (TwoB (cellA k u at') (cellB k u at') w) := by
  obtain ⟨r0, r1⟩ := ku_bounds k0 k1 u0 u1
  have ST := Lib.hid (fun w' => stripeSize k m u s c k0 k1 u0 u1 w')
  have X := BxN.new w #[.int .i64 k, .int .i64 m, .int .i64 u, .int .i64 s, c] 77
  have XH := Lib.hid X
  have LH := Lib.hid (lay w (.cells #[.int .i64 k, .int .i64 m, .int .i64 u, .int .i64 s, c] 77))
  have EA : cellA k u at' = at' % (k * u) / u := rfl
  have EB : cellB k u at' = at' / (k * u) * u + at' % (k * u) % u := rfl
  rw [EA, EB]
  clear X EA EB
  generalize k * u = r at *
  obtain ⟨q0, q1⟩ := div_bounds r0 a0 a1
  obtain ⟨m0, m1⟩ := mod_bounds (x := at') r0
  have r2 : (r == 0) = false := by simp; omega
  have u2 : (u == 0) = false := by simp; omega
  obtain ⟨t0, t1⟩ := qu_bounds (q := at' / r) (u := u) q0 (by omega) u0 u1
  obtain ⟨n0, n1⟩ := mod_bounds (r := u) (x := at' % r) u0
  have W1 : IntKind.i64.wrap (at' / r * u) = at' / r * u := by rw [IntKind.wrap_i64]; omega
  have W2 : IntKind.i64.wrap (at' / r * u + at' % r % u) = at' / r * u + at' % r % u := by rw [IntKind.wrap_i64]; omega
  have T1 : IntKind.i64.wrap (at'.tdiv r) = at' / r := by rw [Int.tdiv_eq_ediv_of_nonneg a0, IntKind.wrap_i64]; omega
  have T2 : at'.tmod r = at' % r := Int.tmod_eq_emod_of_nonneg a0
  have T3 : ¬ r = 0 := by omega
  go_enter Try.func107, Try.ntmps107
  go_wp2
  go_region_held3 (fun w' => w'.cell? ⟨w.heap.size, 0, none⟩ = some (.int .i64 k) ∧ w'.cell? ⟨w.heap.size, 1, none⟩ = some (.int .i64 m) ∧ w'.cell? ⟨w.heap.size, 2, none⟩ = some (.int .i64 u) ∧ w'.cell? ⟨w.heap.size, 3, none⟩ = some (.int .i64 s) ∧ w'.cell? ⟨w.heap.size, 4, none⟩ = some c) (go_keep)
    (first
      | (go_at_call 131; have tok := LH.out; refine (ST.out _).mono ?_; rintro e w1 ⟨rfl, b1⟩; have X1 := XH.out.later (undrew b1); have x0 := X1.cells 0 _ rfl; have x1 := X1.cells 1 _ rfl; have x2 := X1.cells 2 _ rfl; have x3 := X1.cells 3 _ rfl; have x4 := X1.cells 4 _ rfl; have X1H := Lib.hid X1; have B1 := Lib.hid (chain LH.out (undrew b1)); clear b1 tok LH X1)
      | (go_at_call 131; refine (ST.out _).mono ?_; rintro e w2 ⟨rfl, b2⟩; have X2 := X1H.out.later b2; have y0 := X2.cells 0 _ rfl; have y1 := X2.cells 1 _ rfl; have y2 := X2.cells 2 _ rfl; have y3 := X2.cells 3 _ rfl; have y4 := X2.cells 4 _ rfl; have B2 := Lib.hid (chain B1.out b2); clear b2 X2))
  all_goals
    go_wp2
    go_quiet (fail)
    go_wp2
    go_ret2
    exact ⟨rfl, below_drewN B2.out _⟩

set_option maxRecDepth 100000 in
set_option maxHeartbeats 2000000 in
theorem l05Cell (k m u s : Int) (c : Value) (at' : Int) (k0 : 1 ≤ k) (k1 : k ≤ 4) (u0 : 1 ≤ u) (u1 : u ≤ 8) (a0 : 0 ≤ at') (a1 : at' ≤ 256) (w : World) :
    Calls Try.prog 106 #[wval k m u s c, .int .i64 at'] w (TwoB (cellA k u at') (cellB k u at') w) := by
  obtain ⟨r0, r1⟩ := ku_bounds k0 k1 u0 u1
  have LH := Lib.hid (lay w (.cells #[.int .i64 k, .int .i64 m, .int .i64 u, .int .i64 s, c] 77))
  have EA : cellA k u at' = at' % (k * u) / u := rfl
  have EB : cellB k u at' = at' / (k * u) * u + at' % (k * u) % u := rfl
  rw [EA, EB]
  clear EA EB
  obtain ⟨q0, q1⟩ := div_bounds r0 a0 a1
  obtain ⟨m0, m1⟩ := mod_bounds (x := at') r0
  have r2 : (k * u == 0) = false := by simp; omega
  have u2 : (u == 0) = false := by simp; omega
  obtain ⟨t0, t1⟩ := qu_bounds (q := at' / (k * u)) (u := u) q0 (by omega) u0 u1
  obtain ⟨n0, n1⟩ := mod_bounds (r := u) (x := at' % (k * u)) u0
  have W1 : IntKind.i64.wrap (at' / (k * u) * u) = at' / (k * u) * u := by rw [IntKind.wrap_i64]; omega
  have W2 : IntKind.i64.wrap (at' / (k * u) * u + at' % (k * u) % u) = at' / (k * u) * u + at' % (k * u) % u := by rw [IntKind.wrap_i64]; omega
  go_enter Try.func106, Try.ntmps106
  go_wp2
  generalize k * u = r at *
  go_quiet (fail)
  go_wp2
  go_ret2
  exact ⟨rfl, below_drewN LH.out _⟩

/-- Three numbers, and memory that was there is as it was. -/
def Three (x y z : Int) (w : World) (e : Ending) (w' : World) : Prop := e = .returned (.tuple #[.int .i64 x, .int .i64 y, .int .i64 z]) ∧ Below w.heap.size w w'
def ceA (ok : Bool) (k u s at' : Int) : Int := if ok = true ∧ 0 ≤ at' ∧ at' < s then cellA k u at' else 0
def ceB (ok : Bool) (k u s at' : Int) : Int := if ok = true ∧ 0 ≤ at' ∧ at' < s then cellB k u at' else 0
def ceC (ok : Bool) (s at' : Int) : Int := if ok = true then (if 0 ≤ at' ∧ at' < s then 0 else 2) else 1

set_option maxRecDepth 100000 in
set_option maxHeartbeats 1000000 in
theorem implCellOf (k m u s : Int) (a : Option Addr) (cap n : Nat) (S : Nat → ByteArray) (at' : Int) (w : World) (hl : n ≤ 2097152) (ha : Strs w a n S) :
    Calls Try.prog 52 #[wval k m u s (.slice a n cap), .int .i64 at'] w (Three (ceA (okW k m u s n S) k u s at') (ceB (okW k m u s n S) k u s at') (ceC (okW k m u s n S) s at') w) := by
  have LH := Lib.hid (lay w (.cells #[.int .i64 k, .int .i64 m, .int .i64 u, .int .i64 s, .slice a n cap] 77))
  have X := BxN.new w #[.int .i64 k, .int .i64 m, .int .i64 u, .int .i64 s, .slice a n cap] 77
  have XH := Lib.hid X
  have C := Lib.hid (implWideOk k m u s a cap n S _ hl (ha.below LH.out))
  clear X ha
  cases o : okW k m u s n S
  · have E1 : ceA false k u s at' = 0 := by unfold ceA; rw [if_neg (by simp)]
    have E2 : ceB false k u s at' = 0 := by unfold ceB; rw [if_neg (by simp)]
    have E3 : ceC false s at' = 1 := by unfold ceC; rw [if_neg (by simp)]
    rw [E1, E2, E3]
    rw [o] at C
    clear E1 E2 E3 o
    go_enter Try.func52, Try.ntmps52
    go_wp2_with fail
    refine C.out.mono ?_
    rintro e w1 ⟨rfl, b1⟩
    have B1 := Lib.hid (chain LH.out b1)
    clear b1
    go_wp2
    go_ret3
    exact ⟨rfl, B1.out⟩
  · have K := okW_out o
    rw [o] at C
    have k0 := K.k0
    have k1 := K.k1
    have u0 := K.u0
    have u1 := K.u1
    have s1 := K.s1
    clear K
    by_cases q : 0 ≤ at' ∧ at' < s
    · have E1 : ceA true k u s at' = cellA k u at' := by unfold ceA; rw [if_pos ⟨rfl, q⟩]
      have E2 : ceB true k u s at' = cellB k u at' := by unfold ceB; rw [if_pos ⟨rfl, q⟩]
      have E3 : ceC true s at' = 0 := by unfold ceC; rw [if_pos rfl, if_pos q]
      rw [E1, E2, E3]
      obtain ⟨a0, a1⟩ := q
      have PL := Lib.hid (fun w' => place k m u s (.slice a n cap) at' k0 k1 u0 u1 a0 (by omega) w')
      clear E1 E2 E3 o
      generalize cellA k u at' = x at *
      generalize cellB k u at' = y at *
      go_enter Try.func52, Try.ntmps52
      go_wp2_with fail
      refine C.out.mono ?_
      rintro e w1 ⟨rfl, b1⟩
      have B1 := Lib.hid (chain LH.out b1)
      have X1 := XH.out.later b1
      have x0 := X1.cells 0 _ rfl
      have x1 := X1.cells 1 _ rfl
      have x2 := X1.cells 2 _ rfl
      have x3 := X1.cells 3 _ rfl
      have x4 := X1.cells 4 _ rfl
      clear b1 X1
      go_wp2_with fail
      refine (PL.out _).mono ?_
      rintro e w2 ⟨rfl, b2⟩
      have B2 := Lib.hid (chain B1.out b2)
      clear b2
      go_wp2
      go_ret3
      exact ⟨rfl, B2.out⟩
    · have E1 : ceA true k u s at' = 0 := by unfold ceA; rw [if_neg (fun e => q e.2)]
      have E2 : ceB true k u s at' = 0 := by unfold ceB; rw [if_neg (fun e => q e.2)]
      have E3 : ceC true s at' = 2 := by unfold ceC; rw [if_pos rfl, if_neg q]
      rw [E1, E2, E3]
      clear E1 E2 E3 o
      by_cases a0 : at' < 0
      · clear q
        go_enter Try.func52, Try.ntmps52
        go_wp2_with fail
        refine C.out.mono ?_
        rintro e w1 ⟨rfl, b1⟩
        have B1 := Lib.hid (chain LH.out b1)
        clear b1
        go_wp2
        go_ret3
        exact ⟨rfl, B1.out⟩
      · have a1 : s ≤ at' := by omega
        clear q
        go_enter Try.func52, Try.ntmps52
        go_wp2_with fail
        refine C.out.mono ?_
        rintro e w1 ⟨rfl, b1⟩
        have B1 := Lib.hid (chain LH.out b1)
        have X1 := XH.out.later b1
        have x3 := X1.cells 3 _ rfl
        clear b1 X1
        go_wp2
        go_ret3
        exact ⟨rfl, B1.out⟩

set_option maxRecDepth 100000 in
set_option maxHeartbeats 1000000 in
theorem specCellOf (k m u s : Int) (a : Option Addr) (cap n : Nat) (S : Nat → ByteArray) (at' : Int) (w : World) (hl : n ≤ 2097152) (hz : ∀ i, i < n → (S i).size ≤ 9223372036854775807) (ha : Strs w a n S) :
    Calls Try.prog 51 #[wval k m u s (.slice a n cap), .int .i64 at'] w (Three (ceA (okW k m u s n S) k u s at') (ceB (okW k m u s n S) k u s at') (ceC (okW k m u s n S) s at') w) := by
  have LH := Lib.hid (lay w (.cells #[.int .i64 k, .int .i64 m, .int .i64 u, .int .i64 s, .slice a n cap] 77))
  have X := BxN.new w #[.int .i64 k, .int .i64 m, .int .i64 u, .int .i64 s, .slice a n cap] 77
  have XH := Lib.hid X
  have C := Lib.hid (l05OK k m u s a cap n S _ hl hz (ha.below LH.out))
  clear X ha hz
  cases o : okW k m u s n S
  · have E1 : ceA false k u s at' = 0 := by unfold ceA; rw [if_neg (by simp)]
    have E2 : ceB false k u s at' = 0 := by unfold ceB; rw [if_neg (by simp)]
    have E3 : ceC false s at' = 1 := by unfold ceC; rw [if_neg (by simp)]
    rw [E1, E2, E3]
    rw [o] at C
    clear E1 E2 E3 o
    go_enter Try.func51, Try.ntmps51
    go_wp2_with fail
    refine C.out.mono ?_
    rintro e w1 ⟨rfl, b1⟩
    have B1 := Lib.hid (chain LH.out b1)
    clear b1
    go_wp2
    go_ret3
    exact ⟨rfl, B1.out⟩
  · have K := okW_out o
    rw [o] at C
    have k0 := K.k0
    have k1 := K.k1
    have u0 := K.u0
    have u1 := K.u1
    have s0 := K.s0
    have s1 := K.s1
    clear K
    by_cases q : 0 ≤ at' ∧ at' < s
    · have E1 : ceA true k u s at' = cellA k u at' := by unfold ceA; rw [if_pos ⟨rfl, q⟩]
      have E2 : ceB true k u s at' = cellB k u at' := by unfold ceB; rw [if_pos ⟨rfl, q⟩]
      have E3 : ceC true s at' = 0 := by unfold ceC; rw [if_pos rfl, if_pos q]
      rw [E1, E2, E3]
      obtain ⟨a0, a1⟩ := q
      have IB := inB_yes a0 (show at' ≤ s - 1 by omega)
      have PL := Lib.hid (fun w' => l05Cell k m u s (.slice a n cap) at' k0 k1 u0 u1 a0 (by omega) w')
      clear E1 E2 E3 o
      generalize cellA k u at' = x at *
      generalize cellB k u at' = y at *
      go_enter Try.func51, Try.ntmps51
      go_wp2_with fail
      refine C.out.mono ?_
      rintro e w1 ⟨rfl, b1⟩
      have B1 := Lib.hid (chain LH.out b1)
      have X1 := XH.out.later b1
      have x0 := X1.cells 0 _ rfl
      have x1 := X1.cells 1 _ rfl
      have x2 := X1.cells 2 _ rfl
      have x3 := X1.cells 3 _ rfl
      have x4 := X1.cells 4 _ rfl
      clear b1 X1
      go_wp2_with fail
      refine (l00In at' 0 (s - 1) _).mono ?_
      rintro e w1' ⟨rfl, rfl⟩
      rw [IB]
      go_wp2_with fail
      refine (PL.out _).mono ?_
      rintro e w2 ⟨rfl, b2⟩
      have B2 := Lib.hid (chain B1.out b2)
      clear b2
      go_wp2
      go_ret3
      exact ⟨rfl, B2.out⟩
    · have E1 : ceA true k u s at' = 0 := by unfold ceA; rw [if_neg (fun e => q e.2)]
      have E2 : ceB true k u s at' = 0 := by unfold ceB; rw [if_neg (fun e => q e.2)]
      have E3 : ceC true s at' = 2 := by unfold ceC; rw [if_pos rfl, if_neg q]
      have IB : inB at' 0 (s - 1) = false := decide_eq_false (by omega)
      rw [E1, E2, E3]
      clear E1 E2 E3 o q
      go_enter Try.func51, Try.ntmps51
      go_wp2_with fail
      refine C.out.mono ?_
      rintro e w1 ⟨rfl, b1⟩
      have B1 := Lib.hid (chain LH.out b1)
      have X1 := XH.out.later b1
      have x3 := X1.cells 3 _ rfl
      clear b1 X1
      go_wp2_with fail
      refine (l00In at' 0 (s - 1) _).mono ?_
      rintro e w1' ⟨rfl, rfl⟩
      rw [IB]
      go_wp2
      go_ret3
      exact ⟨rfl, B1.out⟩
end Go.Proofs.Ytmndkmkknkodhaa.Sg
