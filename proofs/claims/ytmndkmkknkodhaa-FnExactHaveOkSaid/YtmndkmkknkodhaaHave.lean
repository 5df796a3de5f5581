/-
  Whether shards may be shards of a body: the program's functions.
-/
import Derived.Test.YtmndkmkknkodhaaShardS
import Derived.Test.YtmndkmkknkodhaaInts
import Derived.Test.YtmndkmkknkodhaaColSize
import Derived.Deep.RegionHeld3
namespace Go.Proofs.Ytmndkmkknkodhaa.Sh
open Go.RowKit Go.Proofs.Ytmndkmkknkodhaa.GfI Go.Proofs.Ytmndkmkknkodhaa.GfS Go.Proofs.Ytmndkmkknkodhaa.Sg
set_option linter.unusedVariables false

/-- A list of numbers, nil or not, as a function. -/
def Its (w : World) (a : Option Addr) (n : Nat) (f : Nat → Int) : Prop := n = 0 ∨ ∃ b off, a = some ⟨b, off, none⟩ ∧ b < w.heap.size ∧ ∀ i, i < n → w.cell? ⟨b, off + i, none⟩ = some (.int .i64 (f i))
theorem Its.below {w w' : World} {a : Option Addr} {n : Nat} {f : Nat → Int} (h : Its w a n f) (hb : Below w.heap.size w w') : Its w' a n f := by
  rcases h with h | ⟨b, off, rfl, hB, hc⟩
  · exact .inl h
  · exact .inr ⟨b, off, rfl, Nat.lt_of_lt_of_le hB hb.size, fun i hi => (hb.cell (p := ⟨b, off + i, none⟩) hB).trans (hc i hi)⟩
/-- After k rounds of the positions' copy. -/
structure RndI (w wr : World) (n k : Nat) (f : Nat → Int) : Prop where
  own : ∃ xs, wr.ownsRow w.heap.size 2 1 (.slice (some ⟨w.heap.size, 0, none⟩) n n) n xs ∧ ∀ j, j < k → xs[j]? = some (.int .i64 (f j))
  below : Below w.heap.size w wr
theorem RndI.cell {w wr : World} {n k : Nat} {f : Nat → Int} (h : RndI w wr n k f) (hk : k < n) : ∃ u, wr.cell? ⟨w.heap.size, k, none⟩ = some u := by
  obtain ⟨xs, ho, _⟩ := h.own
  have hl := ho.1
  exact ⟨xs[k]'(by omega), (ho.cellAt k (by omega)).trans (List.getElem?_eq_getElem (by omega))⟩
theorem RndI.free {w wr : World} {n k : Nat} {f : Nat → Int} (h : RndI w wr n k f) (j : Nat) : wr.frozen? ⟨w.heap.size, j, none⟩ = false := by
  obtain ⟨xs, ho, _⟩ := h.own; exact ho.frozenAt j
theorem RndI.later {w wr w' : World} {n k : Nat} {f : Nat → Int} (h : RndI w wr n k f) (b : Below wr.heap.size wr w') : RndI w w' n k f := by
  obtain ⟨xs, ho, hx⟩ := h.own
  exact ⟨⟨xs, ho.kept (row := none) ⟨b.os, b.tape, b.output, b.size, fun c hc _ => b.block c hc⟩ (.inr (by simp [Value.ownBlock])), hx⟩, h.below.trans (b.mono h.below.size)⟩
theorem RndI.put {w wr : World} {n k : Nat} {f : Nat → Int} (h : RndI w wr n k f) (hk : k < n) : RndI w (wr.setCell ⟨w.heap.size, k, none⟩ (.int .i64 (f k))) n (k + 1) f := by
  obtain ⟨xs, ho, hx⟩ := h.own
  have hl := ho.1
  refine ⟨⟨_, (ho.stored k _).1, fun j hj => ?_⟩, h.below.setCell (Nat.le_refl _) _⟩
  rw [List.getElem?_set]
  by_cases e : k = j
  · subst e; rw [if_pos rfl, if_pos (by omega)]
  · rw [if_neg e]; exact hx j (by omega)
theorem RndI.done {w wr : World} {n : Nat} {f : Nat → Int} (h : RndI w wr n n f) : Its wr (some ⟨w.heap.size, 0, none⟩) n f := by
  obtain ⟨xs, ho, hx⟩ := h.own
  refine .inr ⟨w.heap.size, 0, rfl, (ho.lt _ rfl).2, fun i hi => ?_⟩
  rw [Nat.zero_add, ho.cellAt i (by omega)]
  exact hx i hi
def PosRes (n : Nat) (f : Nat → Int) (w : World) (e : Ending) (w' : World) : Prop := ∃ q, e = .returned (.slice (some ⟨q, 0, none⟩) n n) ∧ Its w' (some ⟨q, 0, none⟩) n f ∧ Below w.heap.size w w'
theorem infoI : (Try.prog.info? 2).map (fun i => (i.zero, i.size, i.bytes)) = some (some (.int .i64 0), 1, 8) := by kernel_rfl

set_option maxRecDepth 100000 in
theorem positionsOf (a : Option Addr) (cap n : Nat) (f : Nat → Int) (S : Nat → ByteArray) (w : World) (hl : n ≤ 2097152) (ha : Shs w a n f S) :
    Calls Try.prog 89 #[.slice a n cap] w (PosRes n f w) := by
  obtain ⟨i0, hi, hz0, hz1, hz2⟩ := info_parts infoI
  go_enter Try.func89, Try.ntmps89
  go_wp2_with (at_make; refine wpList_make_full _ rfl _ _ 43 rfl w.heap.size 2 i0 (.int .i64 0) 1 Try.underlying43 hi hz0 hz1 .i64 .i64 n n n rfl rfl rfl rfl (by rw [hz2]; omega) (by unfold maxLen; omega) (Nat.le_refl _) ?_; intro w1 hown1 hgrow1)
  have R1 : RndI w w1 n 0 f := ⟨⟨_, hown1, fun j hj => absurd hj (Nat.not_lt_zero _)⟩, (Below.refl _ _).grown hgrow1 (Nat.le_refl _) (by intro k hk; cases hk)⟩
  clear hown1 hgrow1
  go_loopw [11] (fun i wr => ∃ k : Nat, k ≤ n ∧ i = .int .i64 k ∧ RndI w wr n k f) (fun i _ => n - (intOf i).toNat)
  case atStart => exact ⟨0, by omega, rfl, R1⟩
  case round =>
    obtain ⟨k, hk, rfl, R⟩ := hrel
    clear R1
    by_cases hlt : k < n
    · have ha1 := ha.below R.below
      obtain ⟨b1, o1, rfl, hB, hc⟩ := ha1.resolve_left (by omega)
      obtain ⟨c0, c1⟩ := hc k hlt
      have R2 := R.later (lay wr (.cells #[.int .i64 (f k), .string (S k)] 117))
      obtain ⟨u, d⟩ := R2.cell hlt
      have fr := R2.free k
      have NE := R.below.size
      have R3 := Lib.hid (R2.put hlt)
      clear hc ha1 ha R R2
      go_wp2
      go_roundw
      case rel => exact ⟨k + 1, by omega, by go_num, R3.out⟩
      case measure => simp [intOf]; omega
    · obtain rfl : k = n := by omega
      have F := Lib.hid (show PosRes k f w (.returned (.slice (some ⟨w.heap.size, 0, none⟩) k k)) wr from ⟨_, rfl, R.done, R.below⟩)
      clear R
      go_wp2
      go_ret
      exact F.out

/-- The numbers rise. -/
def Rise (f : Nat → Int) (n : Nat) : Prop := ∀ i, i < n → 1 ≤ i → f (i - 1) < f i
theorem Rise.step {f : Nat → Int} {k : Nat} (h : Rise f k) (d : f (k - 1) < f k) : Rise f (k + 1) := fun i hi h1 => if e : i = k then by rw [e]; exact d else h i (by omega) h1
def RiseRes (n : Nat) (f : Nat → Int) (w : World) (e : Ending) (w' : World) : Prop := Below w.heap.size w w' ∧ ((e = .returned (.bool true) ∧ Rise f n) ∨ (e = .returned (.bool false) ∧ ¬ Rise f n))

set_option maxRecDepth 100000 in
theorem isRising (a : Option Addr) (cap n : Nat) (f : Nat → Int) (w : World) (hl : n ≤ 2097152) (ha : Its w a n f) :
    Calls Try.prog 90 #[.slice a n cap] w (RiseRes n f w) := by
  go_enter Try.func90, Try.ntmps90
  go_wp2
  go_loopw [3] (fun i wr => ∃ k q : Nat, 1 ≤ k ∧ (k ≤ n ∨ k = 1) ∧ i = .int .i64 k ∧ Rise f k ∧ wr = w.drewN q) (fun i _ => n + 1 - (intOf i).toNat)
  case atStart => exact ⟨1, 0, by omega, by omega, rfl, fun i hi h1 => by omega, rfl⟩
  case round =>
    obtain ⟨k, q, hk1, hkn, rfl, R, hw⟩ := hrel
    have HR := Lib.hid R
    have BW := Lib.hid (show Below w.heap.size w wr by rw [hw]; exact below_drewN (Below.refl _ _) q)
    have HW := Lib.hid hw
    clear R hw
    by_cases hlt : k < n
    · have ha1 := ha.below BW.out
      obtain ⟨b1, o1, rfl, hB, hc⟩ := ha1.resolve_left (by omega)
      have c0 := hc k hlt
      have c1 := hc (k - 1) (by omega)
      obtain ⟨j, rfl⟩ : ∃ j, k = j + 1 := ⟨k - 1, by omega⟩
      rw [show j + 1 - 1 = j from by omega] at c1
      have j0 : (0 : Int) ≤ (j : Int) := by omega
      have j1 : (j : Int) < (n : Int) := by omega
      have WK : IntKind.i64.wrap (((j + 1 : Nat) : Int) - 1) = (j : Int) := by rw [IntKind.wrap_i64]; omega
      have k0 : (0 : Int) ≤ ((j + 1 : Nat) : Int) := by omega
      have k1 : ((j + 1 : Nat) : Int) < (n : Int) := by omega
      clear hc ha1 ha
      by_cases hq : f j < f (j + 1)
      · have P := Lib.hid (HR.out.step (k := j + 1) (by simpa using hq))
        generalize f (j + 1) = y at *
        generalize f j = x at *
        go_wp2
        go_quiet (fail)
        go_wp2
        go_roundw
        case rel => exact ⟨j + 1 + 1, q + nq, by omega, by omega, by go_num, P.out, by rw [HW.out, World.drewN_drewN]⟩
        case measure => simp [intOf]; omega
      · have P := Lib.hid (show ¬ Rise f n from fun h => hq (by simpa using h (j + 1) hlt (by omega)))
        generalize f (j + 1) = y at *
        generalize f j = x at *
        go_wp2
        go_quiet (fail)
        go_wp2
        go_ret
        exact ⟨below_drewN BW.out _, .inr ⟨rfl, P.out⟩⟩
    · have P := Lib.hid (show Rise f n from fun i hi h1 => HR.out i (by omega) h1)
      go_wp2
      go_ret
      exact ⟨BW.out, .inl ⟨rfl, P.out⟩⟩

def lackB (k m p : Int) : Bool := !inB p 0 (k + m - 1)
set_option maxRecDepth 100000 in
theorem lacks (k m p : Int) (k0 : 1 ≤ k) (k1 : k ≤ 4) (m0 : 0 ≤ m) (m1 : m ≤ 3) (w : World) :
    Calls Try.prog 92 #[Cd.cval k m, .int .i64 p] w (BoolB (lackB k m p) w) := by
  by_cases h0 : p < 0
  · have E : lackB k m p = true := by unfold lackB inB; rw [decide_eq_false (by omega)]; rfl
    rw [E]
    clear E
    go_enter Try.func92, Try.ntmps92
    go_wp2
    go_ret
    exact ⟨rfl, lay _ _⟩
  · by_cases h1 : k + m ≤ p
    · have E : lackB k m p = true := by unfold lackB inB; rw [decide_eq_false (by omega)]; rfl
      rw [E]
      clear E
      go_enter Try.func92, Try.ntmps92
      go_wp2
      go_ret
      exact ⟨rfl, lay _ _⟩
    · have E : lackB k m p = false := by unfold lackB inB; rw [decide_eq_true (by omega)]; rfl
      rw [E]
      clear E
      go_enter Try.func92, Try.ntmps92
      go_wp2
      go_ret
      exact ⟨rfl, lay _ _⟩
end Go.Proofs.Ytmndkmkknkodhaa.Sh
