/-
  WeightOf: the program's answer and the model's.
-/
import Derived.Test.YtgfpngjfhmiphaaTund2
namespace Go.Proofs.Ytgfpngjfhmiphaa.Tm
open Go.RowKit Go.Proofs.Ytgfpngjfhmiphaa.GfI Go.Proofs.Ytgfpngjfhmiphaa.GfS Go.Proofs.Ytgfpngjfhmiphaa.MixC
open Go.Proofs.Ytgfpngjfhmiphaa.It (lay chain)
open Go.Proofs.Ytgfpngjfhmiphaa.Bk (Bks tval bval)
open Go.Proofs.Ytgfpngjfhmiphaa.Sg (BxN)
set_option linter.unusedVariables false
set_option linter.unusedSimpArgs false

def WAns (ok : Bool) (T : TD) (x : Int) : Value := if ok = true then (if T.kd x < 0 then ErrV 3 else .tuple #[.int .i64 (wt T 4 x), .int .i64 0]) else ErrV 1
theorem WAns_two (ok : Bool) (T : TD) (x : Int) : ∃ r0 r1, WAns ok T x = .tuple #[.int .i64 r0, .int .i64 r1] := by
  unfold WAns ErrV
  split
  · split
    · exact ⟨_, _, rfl⟩
    · exact ⟨_, _, rfl⟩
  · exact ⟨_, _, rfl⟩
/-- The weight of a thing that is there, whatever it is. -/
theorem Whole.weight {T : TD} {mb p q : Nat} {w : World} (h : Whole T mb p q w) {x : Int} (h0 : 0 ≤ T.kd x) : HasW T p q 4 x w :=
  hasW h h0 (fun j hj e => branchWeight T mb p q w h 3 j (Nat.le_refl _) hj (by have := (h.ok.bkt.each j hj).2.2.2.1; omega))
end Go.Proofs.Ytgfpngjfhmiphaa.Tm
