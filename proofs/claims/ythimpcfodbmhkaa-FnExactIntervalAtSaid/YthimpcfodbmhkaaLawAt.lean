/-
  The exact law of IntervalAt: the program answers as the model, leaves its argument as it was, and its answer lies in memory of its own. No condition.
-/
import Derived.Test.YthimpcfodbmhkaaGIntervalAt
namespace Go.Proofs.Ythimpcfodbmhkaa.Rd
open Go.RowKit Go.ChangeShapes Go.WideShapes
set_option linter.unusedVariables false

theorem lawIntervalAt (a0 : Option Addr) (c0 : Nat) (d0 : List DInterval) (x1 : Int) (w : World) (h0 : d0.length ≤ 9223372036854775807 ∧ Rows false 0 w a0 d0) (_ : (Lit.int .i64 x1).wf = true) :
    Calls Try.prog 9 #[.slice a0 d0.length c0, .int .i64 x1] w fun e w' => e = .returned (.bool true) ∧ Below w.heap.size w w' := by
  obtain ⟨r, b, hr⟩ := Ac.at_ex x1 d0
  have e := sz_len d0
  by_cases h : Rdb.sz d0 ≤ 2097152
  · have hz : Rdb.sz r ≤ 2097152 ∧ (Lit.int .i64 r.first).wf = true ∧ (Lit.int .i64 r.last).wf = true := by
      rcases hr with ⟨hp, -, k, hd, -, -⟩ | ⟨rfl, -, -⟩
      · obtain ⟨b, off, cs, -, -, -, hr, -⟩ := h0.2.at' hd
        obtain ⟨a2, c2, rfl, f0, f1, -, -⟩ := shape_Interval hr
        exact ⟨Nat.le_trans (sz_mem hd) h, f0, f1⟩
      · exact ⟨Nat.zero_le _, rfl, rfl⟩
    exact fnFnExactIntervalAt a0 c0 d0 x1 r b hz.1 hz.2.1 hz.2.2 w h0 (fun z e0 w' k0 => Ac.specIntervalAt e0 _ d0 x1 r b w' (by omega) (by omega) k0 hr) (fun z e0 w' k0 => Ac.implIntervalAt e0 _ d0 x1 r b w' (by omega) (by omega) k0 hr)
  · exact fnFnExactIntervalAt a0 c0 d0 x1 default false (Nat.zero_le _) rfl rfl w h0 (fun z e0 w' k0 => absurd z (by omega)) (fun z e0 w' k0 => absurd z (by omega))
end Go.Proofs.Ythimpcfodbmhkaa.Rd
