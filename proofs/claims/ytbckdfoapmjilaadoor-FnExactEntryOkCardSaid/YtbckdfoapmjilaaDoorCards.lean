/-
  DERIVED. GIVEN WITH THE SEED: THE CARDS: each row of YtbckdfoapmjilaaDoorRows.lean that lists a variable, with what it lists TIED to the program's text (the seventh form; the later family's looks); each row that meets fmt, with fmt's text TOLD by the authors' own Lean function (tested against real Go, not proved from fmt's source: count such statements apart). THE CARD IS WHAT COUNTS. Prove the row's statement (the work); the ties are given (YtbckdfoapmjilaaDoorTie.lean); close each card by the builder's one call (the guide's Derived/Test/ToyasCard.lean, 'card_holds'). Laid BY PROGRAM, IN A SANDBOX (cutbox-door.mjs). By AI agents, Wed Nov 11 2026. No macro, syntax, notation, axiom, sorry.
-/
import Derived.Test.YtbckdfoapmjilaaDoorRows
import GoSem.ClaimSeven
namespace Go.Proofs.YtbckdfoapmjilaaDoor
namespace Rows

/-- THE TIED CARD OF 'laws.FnExactEntryOk'. -/
def fnExactEntryOkCard : Claim7 := { stood := { row := fnExactEntryOkRow, standIns := [], harness := (true, "8116992f4a4feb13d5d63ff98faf97d8dd5f68af50a15db55f64169395d747b7"), looks := false }, kinds := [], alts := [], laidByText := true, laidKinds := [.data, .pinned], laidTests := true, laidLooks := .later }
def FnExactEntryOkCardSaid : Prop := Claim7.holds Tryd.pinned (.plain (OpenSpec.ofChange fnExactEntryOkSpec)) fnExactEntryOkCard

/-- THE TIED CARD OF 'laws.FnExactChunkOk'. -/
def fnExactChunkOkCard : Claim7 := { stood := { row := fnExactChunkOkRow, standIns := [], harness := (true, "8116992f4a4feb13d5d63ff98faf97d8dd5f68af50a15db55f64169395d747b7"), looks := false }, kinds := [], alts := [], laidByText := true, laidKinds := [.data, .pinned], laidTests := true, laidLooks := .later }
def FnExactChunkOkCardSaid : Prop := Claim7.holds Tryd.pinned (.plain (OpenSpec.ofChange fnExactChunkOkSpec)) fnExactChunkOkCard

/-- THE SECOND FORM's CARD OF 'laws.FnExactEntryOk'. -/
def fnExactEntryOkUptoCard : Claim7 := { stood := { row := fnExactEntryOkUptoRow, standIns := [], harness := (true, "8116992f4a4feb13d5d63ff98faf97d8dd5f68af50a15db55f64169395d747b7"), looks := false }, kinds := [], alts := [], laidByText := true, laidKinds := [.data, .pinned], laidTests := true, laidLooks := .later }
def FnExactEntryOkUptoCardSaid : Prop := Claim7.holds Tryd.pinned (.plain (OpenSpec.upto fnExactEntryOkSpec)) fnExactEntryOkUptoCard

/-- THE SECOND FORM's CARD OF 'laws.FnExactChunkOk'. -/
def fnExactChunkOkUptoCard : Claim7 := { stood := { row := fnExactChunkOkUptoRow, standIns := [], harness := (true, "8116992f4a4feb13d5d63ff98faf97d8dd5f68af50a15db55f64169395d747b7"), looks := false }, kinds := [], alts := [], laidByText := true, laidKinds := [.data, .pinned], laidTests := true, laidLooks := .later }
def FnExactChunkOkUptoCardSaid : Prop := Claim7.holds Tryd.pinned (.plain (OpenSpec.upto fnExactChunkOkSpec)) fnExactChunkOkUptoCard
end Rows
end Go.Proofs.YtbckdfoapmjilaaDoor
