/-
  The laws' own helpers on slices of strings.
-/
import Derived.Test.YtdieekgihdikdaaStrs
import Derived.BigQuiet
import Derived.Deep.QuietTactic
import Derived.Laws.MakeOwn
import Derived.OwnWalk
namespace Go.Proofs.Ytdieekgihdikdaa.Sg
open Go.RowKit Go.Proofs.Ytdieekgihdikdaa.GfI
set_option linter.unusedVariables false

theorem infoS : (Try.prog.info? 9).map (fun i => (i.zero, i.size, i.bytes)) = some (some (.string ⟨#[]⟩), 1, 16) := by kernel_rfl

/-- The strings' number and their bytes together. -/
def tot (n : Nat) (S : Nat → ByteArray) : Nat → Nat
  | 0 => n
  | k + 1 => tot n S k + (S k).size
theorem tot_mono (n : Nat) (S : Nat → ByteArray) {i : Nat} : ∀ {j : Nat}, i ≤ j → tot n S i ≤ tot n S j
  | 0, h => by obtain rfl : i = 0 := by omega
               exact Nat.le_refl _
  | j + 1, h => by
    by_cases e : i = j + 1
    · rw [e]; exact Nat.le_refl _
    · have := tot_mono n S (i := i) (j := j) (by omega); have e1 : tot n S (j + 1) = tot n S j + (S j).size := rfl; omega

set_option maxRecDepth 100000 in
theorem szStringS (a : Option Addr) (n cap : Nat) (S : Nat → ByteArray) (left : Int) (l0 : 0 ≤ left) (l1 : left ≤ 2097152) (w : World) (h : StrArg w a n S) :
    Calls Try.prog 43 #[.slice a n cap, .int .i64 left] w fun e w' => e = .returned (.int .i64 (if (tot n S n : Int) ≤ left then left - tot n S n else -1)) ∧ w = w' := by
  obtain ⟨hl, hs, hz⟩ := h
  have T0 : tot n S 0 = n := rfl
  by_cases h0 : (n : Int) ≤ left
  · have T0 := Lib.hid T0
    go_enter Try.func43, Try.ntmps43
    go_wp2
    go_loop [1, 5] (fun x i => ∃ k : Nat, k ≤ n ∧ i = .int .i64 k ∧ (tot n S k : Int) ≤ left ∧ x = .int .i64 (left - tot n S k)) (fun _ i => n - (intOf i).toNat)
    case atStart => exact ⟨0, by omega, rfl, by rw [T0.out]; exact h0, by rw [T0.out]⟩
    case round =>
      obtain ⟨k, hk, rfl, hle, rfl⟩ := hrel
      by_cases hlt : k < n
      · obtain ⟨b, off, rfl, hB, hc⟩ := hs.resolve_left (by omega)
        have c := hc k hlt
        have z := hz k hlt
        have TS : tot n S (k + 1) = tot n S k + (S k).size := rfl
        have TS := Lib.hid TS
        have TM := Lib.hid (tot_mono n S (show k + 1 ≤ n by omega))
        generalize S k = s at *
        clear hc
        by_cases hq : ((tot n S k + s.size : Nat) : Int) ≤ left
        · go_wp2
          go_round
          case rel => exact ⟨k + 1, by omega, by go_num, by rw [TS.out]; exact hq, by rw [TS.out]; go_num⟩
          case measure => simp [intOf]; omega
        · have R : (if (tot n S n : Int) ≤ left then left - tot n S n else -1) = -1 := by rw [if_neg]; have := TM.out; have := TS.out; omega
          have R := Lib.hid R
          go_wp2
          go_ret
          exact ⟨rfl, rfl⟩
      · obtain rfl : k = n := by omega
        have R : (if (tot k S k : Int) ≤ left then left - tot k S k else -1) = left - tot k S k := if_pos hle
        have R := Lib.hid R
        go_wp2
        go_ret
        exact ⟨rfl, rfl⟩
  · have R : (if (tot n S n : Int) ≤ left then left - tot n S n else -1) = -1 := by rw [if_neg]; have := tot_mono n S (Nat.zero_le n); omega
    have R := Lib.hid R
    clear T0
    go_enter Try.func43, Try.ntmps43
    go_wp2
    go_ret
    exact ⟨rfl, rfl⟩

/-- A new slice of n strings, made after world w. -/
structure CopyS (w w' : World) (g n : Nat) (S : Nat → ByteArray) : Prop where
  new : w.heap.size ≤ g
  lt : g < w'.heap.size
  cells : ∀ i, i < n → w'.cell? ⟨g, 0 + i, none⟩ = some (.string (S i))
  free : ∀ i, w'.frozen? ⟨g, i, none⟩ = false
  below : Below w.heap.size w w'
theorem CopyS.strs {w w' : World} {g n : Nat} {S : Nat → ByteArray} (h : CopyS w w' g n S) : Strs w' (some ⟨g, 0, none⟩) n S := .inr ⟨g, 0, rfl, h.lt, h.cells⟩
/-- After k rounds of the copy. -/
structure RndS (w wr : World) (n k : Nat) (S : Nat → ByteArray) : Prop where
  own : ∃ xs, wr.ownsRow w.heap.size 9 1 (.slice (some ⟨w.heap.size, 0, none⟩) n n) n xs ∧ ∀ j, j < k → xs[j]? = some (.string (S j))
  below : Below w.heap.size w wr
theorem RndS.cell {w wr : World} {n k : Nat} {S : Nat → ByteArray} (h : RndS w wr n k S) (hk : k < n) : ∃ u, wr.cell? ⟨w.heap.size, k, none⟩ = some u := by
  obtain ⟨xs, ho, _⟩ := h.own
  have hl := ho.1
  exact ⟨xs[k]'(by omega), (ho.cellAt k (by omega)).trans (List.getElem?_eq_getElem (by omega))⟩
theorem RndS.free {w wr : World} {n k : Nat} {S : Nat → ByteArray} (h : RndS w wr n k S) (j : Nat) : wr.frozen? ⟨w.heap.size, j, none⟩ = false := by
  obtain ⟨xs, ho, _⟩ := h.own; exact ho.frozenAt j
theorem RndS.put {w wr : World} {n k : Nat} {S : Nat → ByteArray} (h : RndS w wr n k S) (hk : k < n) : RndS w (wr.setCell ⟨w.heap.size, k, none⟩ (.string (S k))) n (k + 1) S := by
  obtain ⟨xs, ho, hx⟩ := h.own
  have hl := ho.1
  refine ⟨⟨_, (ho.stored k _).1, fun j hj => ?_⟩, h.below.setCell (Nat.le_refl _) _⟩
  rw [List.getElem?_set]
  by_cases e : k = j
  · subst e; rw [if_pos rfl, if_pos (by omega)]
  · rw [if_neg e]; exact hx j (by omega)
theorem RndS.done {w wr : World} {n : Nat} {S : Nat → ByteArray} (h : RndS w wr n n S) : CopyS w wr w.heap.size n S := by
  have hf := h.free
  obtain ⟨xs, ho, hx⟩ := h.own
  refine ⟨Nat.le_refl _, (ho.lt _ rfl).2, fun i hi => ?_, hf, h.below⟩
  rw [Nat.zero_add, ho.cellAt i (by omega)]
  exact hx i (by omega)
def SliceOfS (n : Nat) (S : Nat → ByteArray) (w : World) (e : Ending) (w' : World) : Prop := ∃ g, e = .returned (.slice (some ⟨g, 0, none⟩) n n) ∧ CopyS w w' g n S

set_option maxRecDepth 100000 in
theorem toStringS (a : Option Addr) (cap n : Nat) (S : Nat → ByteArray) (w : World) (hl : n ≤ 2097152) (hc : Strs w a n S) :
    Calls Try.prog 48 #[.slice a n cap] w (SliceOfS n S w) := by
  obtain ⟨i0, hi, hz0, hz1, hz2⟩ := info_parts infoS
  go_enter Try.func48, Try.ntmps48
  go_wp2_with (at_make; refine wpList_make_full _ rfl _ _ 28 rfl w.heap.size 9 i0 (.string ⟨#[]⟩) 1 Try.underlying28 hi hz0 hz1 .i64 .i64 n n n rfl rfl rfl rfl (by rw [hz2]; omega) (by unfold maxLen; omega) (Nat.le_refl _) ?_; intro w1 hown1 hgrow1)
  have R1 : RndS w w1 n 0 S := ⟨⟨_, hown1, fun j hj => absurd hj (Nat.not_lt_zero _)⟩, (Below.refl _ _).grown hgrow1 (Nat.le_refl _) (by intro k hk; cases hk)⟩
  clear hown1 hgrow1
  go_loopw [4] (fun i wr => ∃ k : Nat, k ≤ n ∧ i = .int .i64 k ∧ RndS w wr n k S) (fun i _ => n - (intOf i).toNat)
  case atStart => exact ⟨0, by omega, rfl, R1⟩
  case round =>
    obtain ⟨k, hk, rfl, R⟩ := hrel
    clear R1
    by_cases hlt : k < n
    · obtain ⟨b, off, rfl, hB, hcc⟩ := hc.resolve_left (by omega)
      have c := (R.below.cell (p := ⟨b, off + k, none⟩) hB).trans (hcc k hlt)
      obtain ⟨u, d⟩ := R.cell hlt
      have f := R.free k
      have R2 := Lib.hid (R.put hlt)
      clear hcc R hc
      go_wp2
      go_roundw
      case rel => exact ⟨k + 1, by omega, by go_num, R2.out⟩
      case measure => simp [intOf]; omega
    · obtain rfl : k = n := by omega
      have F := Lib.hid (show SliceOfS k S w (.returned (.slice (some ⟨w.heap.size, 0, none⟩) k k)) wr from ⟨_, rfl, R.done⟩)
      clear R
      go_wp2
      go_ret
      exact F.out

def TrueB (w : World) (e : Ending) (w' : World) : Prop := e = .returned (.bool true) ∧ Below w.heap.size w w'

set_option maxRecDepth 100000 in
theorem eqStringS (a b : Option Addr) (cap1 cap2 n : Nat) (S : Nat → ByteArray) (w : World) (hl : n ≤ 2097152) (ha : Strs w a n S) (hb : Strs w b n S) :
    Calls Try.prog 59 #[.slice a n cap1, .slice b n cap2] w (TrueB w) := by
  go_enter Try.func59, Try.ntmps59
  go_wp2
  go_loopw [5] (fun i wr => ∃ k q : Nat, k ≤ n ∧ i = .int .i64 k ∧ wr = w.drewN q) (fun i _ => n - (intOf i).toNat)
  case atStart => exact ⟨0, 0, by omega, rfl, rfl⟩
  case round =>
    obtain ⟨k, q, hk, rfl, hw⟩ := hrel
    by_cases hlt : k < n
    · obtain ⟨b1, o1, rfl, _, c1⟩ := ha.resolve_left (by omega)
      obtain ⟨b2, o2, rfl, _, c2⟩ := hb.resolve_left (by omega)
      have d1 : wr.cell? ⟨b1, o1 + k, none⟩ = some (.string (S k)) := by rw [hw]; exact c1 k hlt
      have d2 : wr.cell? ⟨b2, o2 + k, none⟩ = some (.string (S k)) := by rw [hw]; exact c2 k hlt
      have HW := Lib.hid hw
      generalize S k = x at *
      clear hw c1 c2 ha hb
      go_wp2
      go_quiet (fail)
      go_wp2
      go_roundw
      case rel => exact ⟨k + 1, q + nq, by omega, by go_num, by rw [HW.out, World.drewN_drewN]⟩
      case measure => simp [intOf]; omega
    · obtain rfl : k = n := by omega
      have F := Lib.hid (show Below w.heap.size w wr by rw [hw]; exact below_drewN (Below.refl _ _) q)
      clear hw
      go_wp2
      go_ret
      exact ⟨rfl, F.out⟩
end Go.Proofs.Ytdieekgihdikdaa.Sg
