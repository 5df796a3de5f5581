/-
  All writes of a disk done, in the model.
-/
import Derived.Test.YtdieekgihdikdaaDkF
import Derived.Test.YtdieekgihdikdaaDkS
import Derived.StillTailTactics
import Derived.Deep.AppendLies
namespace Go.Proofs.Ytdieekgihdikdaa.Rd
open Go.RowKit Go.ChangeShapes Go.WideShapes Go.Proofs.Ytdieekgihdikdaa.GfI Go.Proofs.Ytdieekgihdikdaa.GfS
open Go.Proofs.Ytdieekgihdikdaa.Sg (BxN)
set_option linter.unusedVariables false
set_option linter.unusedSimpArgs false

theorem BxN.lo {w w' : World} {B b : Nat} {vs : List Value} (h : Sg.BxN w b vs) (k : Below B w w') (hb : b < B) : Sg.BxN w' b vs :=
  ⟨Nat.lt_of_lt_of_le h.lt k.size, fun i v hv => (k.cell (p := ⟨b, i, none⟩) hb).trans (h.cells i v hv), fun i => (k.frozen (p := ⟨b, i, none⟩) hb).trans (h.free i)⟩
end Go.Proofs.Ytdieekgihdikdaa.Rd
