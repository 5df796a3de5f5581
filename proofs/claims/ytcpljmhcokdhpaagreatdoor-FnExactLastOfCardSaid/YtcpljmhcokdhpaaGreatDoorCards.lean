/-
  DERIVED. GIVEN WITH THE SEED: THE CARDS: each row of YtcpljmhcokdhpaaGreatDoorRows.lean that lists a variable, with what it lists TIED to the program's text (the seventh form; the later family's looks); each row that meets fmt, with fmt's text TOLD by the authors' own Lean function (tested against real Go, not proved from fmt's source: count such statements apart). THE CARD IS WHAT COUNTS. Prove the row's statement (the work); the ties are given (YtcpljmhcokdhpaaGreatDoorTie.lean); close each card by the builder's one call (the guide's Derived/Test/ToyasCard.lean, 'card_holds'). Laid BY PROGRAM, IN A SANDBOX (cutbox-door.mjs). By AI agents, Wed Nov 11 2026. No macro, syntax, notation, axiom, sorry.
-/
import Derived.Test.YtcpljmhcokdhpaaGreatDoorRows
import GoSem.ClaimSeven
namespace Go.Proofs.YtcpljmhcokdhpaaGreatDoor
namespace Rows

/-- THE TIED CARD OF 'laws.FnExactStoreOk'. -/
def fnExactStoreOkCard : Claim7 := { stood := { row := fnExactStoreOkRow, standIns := [], harness := (true, "c0a57193d8b03a3b09846ef5ca077b84ca9feed69779106ec1068a1a2433fb85"), looks := true }, kinds := [], alts := [], laidByText := true, laidKinds := [.data, .pinned], laidTests := true, laidLooks := .later }
def FnExactStoreOkCardSaid : Prop := Claim7.holds Tryz.pinned (.plain (OpenSpec.ofChange fnExactStoreOkSpec)) fnExactStoreOkCard

/-- THE TIED CARD OF 'laws.FnExactStateIn'. -/
def fnExactStateInCard : Claim7 := { stood := { row := fnExactStateInRow, standIns := [], harness := (true, "c0a57193d8b03a3b09846ef5ca077b84ca9feed69779106ec1068a1a2433fb85"), looks := true }, kinds := [], alts := [], laidByText := true, laidKinds := [.data, .pinned], laidTests := true, laidLooks := .later }
def FnExactStateInCardSaid : Prop := Claim7.holds Tryz.pinned (.plain (OpenSpec.ofChange fnExactStateInSpec)) fnExactStateInCard

/-- THE TIED CARD OF 'laws.FnExactFlushStore'. -/
def fnExactFlushStoreCard : Claim7 := { stood := { row := fnExactFlushStoreRow, standIns := [], harness := (true, "c0a57193d8b03a3b09846ef5ca077b84ca9feed69779106ec1068a1a2433fb85"), looks := true }, kinds := [], alts := [], laidByText := true, laidKinds := [.data, .pinned], laidTests := true, laidLooks := .later }
def FnExactFlushStoreCardSaid : Prop := Claim7.holds Tryz.pinned (.plain (OpenSpec.ofChange fnExactFlushStoreSpec)) fnExactFlushStoreCard

/-- THE TIED CARD OF 'laws.FnExactCrashStore'. -/
def fnExactCrashStoreCard : Claim7 := { stood := { row := fnExactCrashStoreRow, standIns := [], harness := (true, "c0a57193d8b03a3b09846ef5ca077b84ca9feed69779106ec1068a1a2433fb85"), looks := true }, kinds := [], alts := [], laidByText := true, laidKinds := [.data, .pinned], laidTests := true, laidLooks := .later }
def FnExactCrashStoreCardSaid : Prop := Claim7.holds Tryz.pinned (.plain (OpenSpec.ofChange fnExactCrashStoreSpec)) fnExactCrashStoreCard

/-- THE TIED CARD OF 'laws.FnExactStateOk'. -/
def fnExactStateOkCard : Claim7 := { stood := { row := fnExactStateOkRow, standIns := [], harness := (true, "c0a57193d8b03a3b09846ef5ca077b84ca9feed69779106ec1068a1a2433fb85"), looks := true }, kinds := [], alts := [], laidByText := true, laidKinds := [.data, .pinned], laidTests := true, laidLooks := .later }
def FnExactStateOkCardSaid : Prop := Claim7.holds Tryz.pinned (.plain (OpenSpec.ofChange fnExactStateOkSpec)) fnExactStateOkCard

/-- THE TIED CARD OF 'laws.FnExactLastOf'. -/
def fnExactLastOfCard : Claim7 := { stood := { row := fnExactLastOfRow, standIns := [], harness := (true, "c0a57193d8b03a3b09846ef5ca077b84ca9feed69779106ec1068a1a2433fb85"), looks := true }, kinds := [], alts := [], laidByText := true, laidKinds := [.data, .pinned], laidTests := true, laidLooks := .later }
def FnExactLastOfCardSaid : Prop := Claim7.holds Tryz.pinned (.plain (OpenSpec.ofChange fnExactLastOfSpec)) fnExactLastOfCard

/-- THE TIED CARD OF 'laws.FnExactChunkOf'. -/
def fnExactChunkOfCard : Claim7 := { stood := { row := fnExactChunkOfRow, standIns := [], harness := (true, "c0a57193d8b03a3b09846ef5ca077b84ca9feed69779106ec1068a1a2433fb85"), looks := true }, kinds := [], alts := [], laidByText := true, laidKinds := [.data, .pinned], laidTests := true, laidLooks := .later }
def FnExactChunkOfCardSaid : Prop := Claim7.holds Tryz.pinned (.plain (OpenSpec.ofChange fnExactChunkOfSpec)) fnExactChunkOfCard

/-- THE TIED CARD OF 'laws.FnExactHeadsAt'. -/
def fnExactHeadsAtCard : Claim7 := { stood := { row := fnExactHeadsAtRow, standIns := [], harness := (true, "c0a57193d8b03a3b09846ef5ca077b84ca9feed69779106ec1068a1a2433fb85"), looks := true }, kinds := [], alts := [], laidByText := true, laidKinds := [.data, .handle, .sentinel, .pinned], laidTests := true, laidLooks := .later }
def FnExactHeadsAtCardSaid : Prop := Claim7.holds Tryz.pinned (.plain (OpenSpec.ofChange fnExactHeadsAtSpec)) fnExactHeadsAtCard

/-- THE TIED CARD OF 'laws.FnExactClientsAt'. -/
def fnExactClientsAtCard : Claim7 := { stood := { row := fnExactClientsAtRow, standIns := [], harness := (true, "c0a57193d8b03a3b09846ef5ca077b84ca9feed69779106ec1068a1a2433fb85"), looks := true }, kinds := [], alts := [], laidByText := true, laidKinds := [.data, .handle, .sentinel, .pinned], laidTests := true, laidLooks := .later }
def FnExactClientsAtCardSaid : Prop := Claim7.holds Tryz.pinned (.plain (OpenSpec.ofChange fnExactClientsAtSpec)) fnExactClientsAtCard

/-- THE TIED CARD OF 'laws.FnExactPutIn'. -/
def fnExactPutInCard : Claim7 := { stood := { row := fnExactPutInRow, standIns := [], harness := (true, "c0a57193d8b03a3b09846ef5ca077b84ca9feed69779106ec1068a1a2433fb85"), looks := true }, kinds := [], alts := [], laidByText := true, laidKinds := [.data, .pinned], laidTests := true, laidLooks := .later }
def FnExactPutInCardSaid : Prop := Claim7.holds Tryz.pinned (.plain (OpenSpec.ofChange fnExactPutInSpec)) fnExactPutInCard

/-- THE TIED CARD OF 'laws.FnExactRotIn'. -/
def fnExactRotInCard : Claim7 := { stood := { row := fnExactRotInRow, standIns := [], harness := (true, "c0a57193d8b03a3b09846ef5ca077b84ca9feed69779106ec1068a1a2433fb85"), looks := true }, kinds := [], alts := [], laidByText := true, laidKinds := [.data, .pinned], laidTests := true, laidLooks := .later }
def FnExactRotInCardSaid : Prop := Claim7.holds Tryz.pinned (.plain (OpenSpec.ofChange fnExactRotInSpec)) fnExactRotInCard

/-- THE SECOND FORM's CARD OF 'laws.FnExactStoreOk'. -/
def fnExactStoreOkUptoCard : Claim7 := { stood := { row := fnExactStoreOkUptoRow, standIns := [], harness := (true, "c0a57193d8b03a3b09846ef5ca077b84ca9feed69779106ec1068a1a2433fb85"), looks := true }, kinds := [], alts := [], laidByText := true, laidKinds := [.data, .pinned], laidTests := true, laidLooks := .later }
def FnExactStoreOkUptoCardSaid : Prop := Claim7.holds Tryz.pinned (.plain (OpenSpec.upto fnExactStoreOkSpec)) fnExactStoreOkUptoCard

/-- THE SECOND FORM's CARD OF 'laws.FnExactStateIn'. -/
def fnExactStateInUptoCard : Claim7 := { stood := { row := fnExactStateInUptoRow, standIns := [], harness := (true, "c0a57193d8b03a3b09846ef5ca077b84ca9feed69779106ec1068a1a2433fb85"), looks := true }, kinds := [], alts := [], laidByText := true, laidKinds := [.data, .pinned], laidTests := true, laidLooks := .later }
def FnExactStateInUptoCardSaid : Prop := Claim7.holds Tryz.pinned (.plain (OpenSpec.upto fnExactStateInSpec)) fnExactStateInUptoCard

/-- THE SECOND FORM's CARD OF 'laws.FnExactFlushStore'. -/
def fnExactFlushStoreUptoCard : Claim7 := { stood := { row := fnExactFlushStoreUptoRow, standIns := [], harness := (true, "c0a57193d8b03a3b09846ef5ca077b84ca9feed69779106ec1068a1a2433fb85"), looks := true }, kinds := [], alts := [], laidByText := true, laidKinds := [.data, .pinned], laidTests := true, laidLooks := .later }
def FnExactFlushStoreUptoCardSaid : Prop := Claim7.holds Tryz.pinned (.plain (OpenSpec.upto fnExactFlushStoreSpec)) fnExactFlushStoreUptoCard

/-- THE SECOND FORM's CARD OF 'laws.FnExactCrashStore'. -/
def fnExactCrashStoreUptoCard : Claim7 := { stood := { row := fnExactCrashStoreUptoRow, standIns := [], harness := (true, "c0a57193d8b03a3b09846ef5ca077b84ca9feed69779106ec1068a1a2433fb85"), looks := true }, kinds := [], alts := [], laidByText := true, laidKinds := [.data, .pinned], laidTests := true, laidLooks := .later }
def FnExactCrashStoreUptoCardSaid : Prop := Claim7.holds Tryz.pinned (.plain (OpenSpec.upto fnExactCrashStoreSpec)) fnExactCrashStoreUptoCard

/-- THE SECOND FORM's CARD OF 'laws.FnExactStateOk'. -/
def fnExactStateOkUptoCard : Claim7 := { stood := { row := fnExactStateOkUptoRow, standIns := [], harness := (true, "c0a57193d8b03a3b09846ef5ca077b84ca9feed69779106ec1068a1a2433fb85"), looks := true }, kinds := [], alts := [], laidByText := true, laidKinds := [.data, .pinned], laidTests := true, laidLooks := .later }
def FnExactStateOkUptoCardSaid : Prop := Claim7.holds Tryz.pinned (.plain (OpenSpec.upto fnExactStateOkSpec)) fnExactStateOkUptoCard

/-- THE SECOND FORM's CARD OF 'laws.FnExactLastOf'. -/
def fnExactLastOfUptoCard : Claim7 := { stood := { row := fnExactLastOfUptoRow, standIns := [], harness := (true, "c0a57193d8b03a3b09846ef5ca077b84ca9feed69779106ec1068a1a2433fb85"), looks := true }, kinds := [], alts := [], laidByText := true, laidKinds := [.data, .pinned], laidTests := true, laidLooks := .later }
def FnExactLastOfUptoCardSaid : Prop := Claim7.holds Tryz.pinned (.plain (OpenSpec.upto fnExactLastOfSpec)) fnExactLastOfUptoCard

/-- THE SECOND FORM's CARD OF 'laws.FnExactChunkOf'. -/
def fnExactChunkOfUptoCard : Claim7 := { stood := { row := fnExactChunkOfUptoRow, standIns := [], harness := (true, "c0a57193d8b03a3b09846ef5ca077b84ca9feed69779106ec1068a1a2433fb85"), looks := true }, kinds := [], alts := [], laidByText := true, laidKinds := [.data, .pinned], laidTests := true, laidLooks := .later }
def FnExactChunkOfUptoCardSaid : Prop := Claim7.holds Tryz.pinned (.plain (OpenSpec.upto fnExactChunkOfSpec)) fnExactChunkOfUptoCard

/-- THE SECOND FORM's CARD OF 'laws.FnExactHeadsAt'. -/
def fnExactHeadsAtUptoCard : Claim7 := { stood := { row := fnExactHeadsAtUptoRow, standIns := [], harness := (true, "c0a57193d8b03a3b09846ef5ca077b84ca9feed69779106ec1068a1a2433fb85"), looks := true }, kinds := [], alts := [], laidByText := true, laidKinds := [.data, .handle, .sentinel, .pinned], laidTests := true, laidLooks := .later }
def FnExactHeadsAtUptoCardSaid : Prop := Claim7.holds Tryz.pinned (.plain (OpenSpec.upto fnExactHeadsAtSpec)) fnExactHeadsAtUptoCard

/-- THE SECOND FORM's CARD OF 'laws.FnExactClientsAt'. -/
def fnExactClientsAtUptoCard : Claim7 := { stood := { row := fnExactClientsAtUptoRow, standIns := [], harness := (true, "c0a57193d8b03a3b09846ef5ca077b84ca9feed69779106ec1068a1a2433fb85"), looks := true }, kinds := [], alts := [], laidByText := true, laidKinds := [.data, .handle, .sentinel, .pinned], laidTests := true, laidLooks := .later }
def FnExactClientsAtUptoCardSaid : Prop := Claim7.holds Tryz.pinned (.plain (OpenSpec.upto fnExactClientsAtSpec)) fnExactClientsAtUptoCard

/-- THE SECOND FORM's CARD OF 'laws.FnExactPutIn'. -/
def fnExactPutInUptoCard : Claim7 := { stood := { row := fnExactPutInUptoRow, standIns := [], harness := (true, "c0a57193d8b03a3b09846ef5ca077b84ca9feed69779106ec1068a1a2433fb85"), looks := true }, kinds := [], alts := [], laidByText := true, laidKinds := [.data, .pinned], laidTests := true, laidLooks := .later }
def FnExactPutInUptoCardSaid : Prop := Claim7.holds Tryz.pinned (.plain (OpenSpec.upto fnExactPutInSpec)) fnExactPutInUptoCard

/-- THE SECOND FORM's CARD OF 'laws.FnExactRotIn'. -/
def fnExactRotInUptoCard : Claim7 := { stood := { row := fnExactRotInUptoRow, standIns := [], harness := (true, "c0a57193d8b03a3b09846ef5ca077b84ca9feed69779106ec1068a1a2433fb85"), looks := true }, kinds := [], alts := [], laidByText := true, laidKinds := [.data, .pinned], laidTests := true, laidLooks := .later }
def FnExactRotInUptoCardSaid : Prop := Claim7.holds Tryz.pinned (.plain (OpenSpec.upto fnExactRotInSpec)) fnExactRotInUptoCard
end Rows
end Go.Proofs.YtcpljmhcokdhpaaGreatDoor
