/-
  Valid lists of intervals: both sides.
-/
import Derived.Test.YthimpcfodbmhkaaIvS
import Derived.Test.YthimpcfodbmhkaaIvI
namespace Go.Proofs.Ythimpcfodbmhkaa.Ac
open Go.RowKit Go.Proofs.Ythimpcfodbmhkaa.GfI Go.Proofs.Ythimpcfodbmhkaa.GfS Go.Proofs.Ythimpcfodbmhkaa.MixC
open Go.Proofs.Ythimpcfodbmhkaa.Gf2 (Ib wpList_append_int)
open Go.Proofs.Ythimpcfodbmhkaa.Rd (lay chain chainX RetW Rdb rows_words DInterval shape_Interval mk_Interval)
open Go.Proofs.Ythimpcfodbmhkaa.Sg (BxN)
set_option linter.unusedVariables false
set_option linter.unusedSimpArgs false

theorem iff_ret {P : Prop} {b : Bool} (hb : b = true ↔ P) {w : World} {e : Ending} {w' : World} (h : IffB P w e w') : RetW (.bool b) w e w' := by
  obtain ⟨c, rfl, hc, bl⟩ := h
  have : c = b := by cases c <;> cases b <;> simp_all
  exact ⟨by rw [this], bl⟩
theorem bool_of (P : Prop) : ∃ b : Bool, b = true ↔ P := by
  by_cases p : P
  · exact ⟨true, by simp [p]⟩
  · exact ⟨false, by simp [p]⟩
set_option maxRecDepth 100000 in
set_option maxHeartbeats 4000000 in
theorem specIntervalsOk (a : Option Addr) (cap : Nat) (l : List DInterval) (w : World) {fr : Bool} {lo : Nat} (hl : l.length ≤ 2097152) (hs : Rdb.sz l ≤ 2097152) (h : Rd.Rows fr lo w a l) :
    Calls Try.prog 30 #[.slice a l.length cap] w (IffB (IvP l) w) := by
  have O := Lib.hid (l13Ok a cap l w hl hs h)
  clear h hs
  generalize l.length = n at *
  go_enter Try.func30, Try.ntmps30
  go_wp2_with fail
  refine O.out.mono ?_
  rintro e w1 ⟨r, rfl, hr, b1⟩
  have G := Lib.hid (show IffB (IvP l) w (.returned (.bool r)) w1 from ⟨r, rfl, hr, b1⟩)
  clear hr b1
  go_wp2
  go_ret
  exact G.out
end Go.Proofs.Ythimpcfodbmhkaa.Ac
