/-
  DERIVED. GIVEN WITH THE SEED: THE CARDS: each row of YtbnjgehgaellmaaDoorRows.lean that lists a variable, with what it lists TIED to the program's text (the seventh form; the later family's looks); each row that meets fmt, with fmt's text TOLD by the authors' own Lean function (tested against real Go, not proved from fmt's source: count such statements apart). THE CARD IS WHAT COUNTS. Prove the row's statement (the work); the ties are given (YtbnjgehgaellmaaDoorTie.lean); close each card by the builder's one call (the guide's Derived/Test/ToyasCard.lean, 'card_holds'). Laid BY PROGRAM, IN A SANDBOX (cutbox-door.mjs). By AI agents, Wed Nov 11 2026. No macro, syntax, notation, axiom, sorry.
-/
import Derived.Test.YtbnjgehgaellmaaDoorRows
import GoSem.ClaimSeven
namespace Go.Proofs.YtbnjgehgaellmaaDoor
namespace Rows

/-- THE TIED CARD OF 'laws.FnExactGetOp'. -/
def fnExactGetOpCard : Claim7 := { stood := { row := fnExactGetOpRow, standIns := [], harness := (true, "d5337c730fe6ddd9367289e69efcee5c24f794ec78f97ce2e28413062493e7cd"), looks := false }, kinds := [], alts := [], laidByText := true, laidKinds := [.sentinel], laidTests := true, laidLooks := .later }
def FnExactGetOpCardSaid : Prop := Claim7.holds Tryd.pinned (.plain (OpenSpec.ofChange fnExactGetOpSpec)) fnExactGetOpCard

/-- THE SECOND FORM's CARD OF 'laws.FnExactGetOp'. -/
def fnExactGetOpUptoCard : Claim7 := { stood := { row := fnExactGetOpUptoRow, standIns := [], harness := (true, "d5337c730fe6ddd9367289e69efcee5c24f794ec78f97ce2e28413062493e7cd"), looks := false }, kinds := [], alts := [], laidByText := true, laidKinds := [.sentinel], laidTests := true, laidLooks := .later }
def FnExactGetOpUptoCardSaid : Prop := Claim7.holds Tryd.pinned (.plain (OpenSpec.upto fnExactGetOpSpec)) fnExactGetOpUptoCard
end Rows
end Go.Proofs.YtbnjgehgaellmaaDoor
