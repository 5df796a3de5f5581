/-
  The exact law of SameMap. No condition.
-/
import Derived.Test.YtigaoimnhebegaaSmJ
import Derived.Test.YtigaoimnhebegaaGSameMap
import Derived.Test.YtigaoimnhebegaaLawTree
namespace Go.Proofs.Ytigaoimnhebegaa.Rd
open Go.RowKit Go.ChangeShapes Go.WideShapes Go.Proofs.Ytigaoimnhebegaa.GfI Go.Proofs.Ytigaoimnhebegaa.GfS
open Go.Proofs.Ytigaoimnhebegaa.Sg (BxN)
open Go.Proofs.Ytigaoimnhebegaa.Tm (TD TA TIn IffB)
open Go.Proofs.Ytigaoimnhebegaa.MixC (Words)
set_option linter.unusedVariables false
set_option linter.unusedSimpArgs false

theorem exW (P : Prop) : ∃ b : Bool, b = true ↔ P := by
  classical
  exact ⟨decide P, by simp⟩
theorem iff_ret' {P : Prop} {b : Bool} (hb : b = true ↔ P) {w : World} {e : Ending} {w' : World} (h : IffB P w e w') : RetW (.bool b) w e w' := by
  obtain ⟨c, rfl, hc, r⟩ := h
  obtain rfl : b = c := by rw [Bool.eq_iff_iff, hb, hc]
  exact ⟨rfl, r⟩
theorem lawSameMap (cs0 : List Value) (d0 : DMap) (cs1 : List Value) (d1 : DMap) (w : World) (h0 : Rdb.rd false 0 w cs0 d0) (h1 : Rdb.rd false 0 w cs1 d1) :
    Calls Try.prog 6 #[.agg cs0.toArray, .agg cs1.toArray] w fun e w' => e = .returned (.bool true) ∧ Below w.heap.size w w' := by
  obtain ⟨b, hb⟩ := exW (MEq d0 d1)
  exact fnFnExactSameMap d0 d1 b w h0 h1 (fun z0 z1 es0 es1 w' k0 k1 => (specSameMap d0 d1 w' (by omega) (by omega) k0 k1).mono fun _ _ q => iff_ret' hb q) (fun z0 z1 es0 es1 w' k0 k1 => (implSameMap d0 d1 w' (by omega) (by omega) k0 k1).mono fun _ _ q => iff_ret' hb q)
end Go.Proofs.Ytigaoimnhebegaa.Rd
