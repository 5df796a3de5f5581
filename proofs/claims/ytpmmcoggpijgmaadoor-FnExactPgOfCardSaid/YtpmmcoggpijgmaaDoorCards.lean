/-
  DERIVED. GIVEN WITH THE SEED: THE CARDS: each row of YtpmmcoggpijgmaaDoorRows.lean that lists a variable, with what it lists TIED to the program's text (the seventh form; the later family's looks); each row that meets fmt, with fmt's text TOLD by the authors' own Lean function (tested against real Go, not proved from fmt's source: count such statements apart). THE CARD IS WHAT COUNTS. Prove the row's statement (the work); the ties are given (YtpmmcoggpijgmaaDoorTie.lean); close each card by the builder's one call (the guide's Derived/Test/ToyasCard.lean, 'card_holds'). Laid BY PROGRAM, IN A SANDBOX (cutbox-door.mjs). By AI agents, Wed Nov 11 2026. No macro, syntax, notation, axiom, sorry.
-/
import Derived.Test.YtpmmcoggpijgmaaDoorRows
import GoSem.ClaimSeven
namespace Go.Proofs.YtpmmcoggpijgmaaDoor
namespace Rows

/-- THE TIED CARD OF 'laws.FnExactPgOf'. -/
def fnExactPgOfCard : Claim7 := { stood := { row := fnExactPgOfRow, standIns := [], harness := (true, "95ce140ee66acf5a81bcbb73c8d5e52b13e85a01417d0c5181cdbfd93735f825"), looks := false }, kinds := [], alts := [], laidByText := true, laidKinds := [.data, .pinned], laidTests := true, laidLooks := .later }
def FnExactPgOfCardSaid : Prop := Claim7.holds Tryd.pinned (.plain (OpenSpec.ofChange fnExactPgOfSpec)) fnExactPgOfCard

/-- THE SECOND FORM's CARD OF 'laws.FnExactPgOf'. -/
def fnExactPgOfUptoCard : Claim7 := { stood := { row := fnExactPgOfUptoRow, standIns := [], harness := (true, "95ce140ee66acf5a81bcbb73c8d5e52b13e85a01417d0c5181cdbfd93735f825"), looks := false }, kinds := [], alts := [], laidByText := true, laidKinds := [.data, .pinned], laidTests := true, laidLooks := .later }
def FnExactPgOfUptoCardSaid : Prop := Claim7.holds Tryd.pinned (.plain (OpenSpec.upto fnExactPgOfSpec)) fnExactPgOfUptoCard
end Rows
end Go.Proofs.YtpmmcoggpijgmaaDoor
