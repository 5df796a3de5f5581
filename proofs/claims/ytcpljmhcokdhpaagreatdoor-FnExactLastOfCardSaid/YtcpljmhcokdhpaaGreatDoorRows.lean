/-
  NARROWER THAN 'FOR EVERY INPUT', by the rows' own cells (each row's printed sentence says how): FnExactStoreOk: laid · FnExactStateIn: laid · FnExactFlushStore: laid · FnExactCrashStore: laid · FnExactStateOk: laid · FnExactLastOf: laid · FnExactChunkOf: laid · FnExactHeadsAt: ifaces, laid · FnExactClientsAt: ifaces, laid · FnExactPutIn: laid · FnExactRotIn: laid.
  DERIVED. THE GIVEN ROWS OF THIS SEAT. 11 by the template 'for every input the law returns true; each argument reads behind the call as it read before'; 0 by the template 'total and deterministic' (their statements: YtcpljmhcokdhpaaGreatDoorTotals.lean).
  GIVEN WITH THE SEED: the statements are not yours to turn. If you find one false, say at which input.
  Laid BY PROGRAM, IN A SANDBOX (cutbox-rows.mjs): the forced cells as the released guide's own fill.sh prints them over the translation a15138b3f8935622… (all of the seat's roots in one cut). By AI agents, Wed Nov 11 2026. No macro, syntax, notation, axiom, sorry.
-/
import Derived.Test.YtcpljmhcokdhpaaGreatDoorChecked
import GoSem.PinnedTables
import GoSem.Claim
import GoSem.ClaimJoined
import GoSem.ClaimMapViews
import Derived.JoinedTies
import Derived.KernelRfl
namespace Go.Proofs.YtcpljmhcokdhpaaGreatDoor
/- THE CELL 'sum', in the pinned program and in every row, IS THE sha256 OF THE DUMP (.gsa) THAT YtcpljmhcokdhpaaGreatDoorProg.lean LOADS. Nothing in Lean hashes anything: it is a label: what it is worth is what the hold of that sum in a sandbox is worth. -/
noncomputable def Tryz.pinned : Pinned := { name := "ytcpljmhcokdhpaagreatdoor", sum := "a15138b3f893562217087602889a07c56a83fbf34bc05907511da9208d514119", checked := Tryz.checked }
namespace Rows
def none {H : Type} : Left H := { results := [], args := [] }

/- WHAT THE LISTED PACKAGE-LEVEL VARIABLES READ AS WHEN THE CALL BEGINS. Each datum BY PROGRAM (the guide's laid-datum.mjs) off the statement by which the dump's own 'gosem.cut.vars' lays the variable. In a bare row this is a premise. The card (YtcpljmhcokdhpaaGreatDoorCards.lean) ties it to the program's text. -/
def laid_unicode_utf8_acceptRanges {H : Type} : DataW H := .agg [.agg [.lit (.int .u8 128), .lit (.int .u8 191)], .agg [.lit (.int .u8 160), .lit (.int .u8 191)], .agg [.lit (.int .u8 128), .lit (.int .u8 159)], .agg [.lit (.int .u8 144), .lit (.int .u8 191)], .agg [.lit (.int .u8 128), .lit (.int .u8 143)], .agg [.lit (.int .u8 0), .lit (.int .u8 0)], .agg [.lit (.int .u8 0), .lit (.int .u8 0)], .agg [.lit (.int .u8 0), .lit (.int .u8 0)], .agg [.lit (.int .u8 0), .lit (.int .u8 0)], .agg [.lit (.int .u8 0), .lit (.int .u8 0)], .agg [.lit (.int .u8 0), .lit (.int .u8 0)], .agg [.lit (.int .u8 0), .lit (.int .u8 0)], .agg [.lit (.int .u8 0), .lit (.int .u8 0)], .agg [.lit (.int .u8 0), .lit (.int .u8 0)], .agg [.lit (.int .u8 0), .lit (.int .u8 0)], .agg [.lit (.int .u8 0), .lit (.int .u8 0)]]
/-- One of Go's own tables, pinned by name: the form's constant. -/
def laid_unicode_utf8_first : DataW Unit := Go.Pinned.utf8First
def laid_errors_errorType {H : Type} : DataW H := .iface "internal/reflectlite.rtype" (.agg [.ptr (.lit (.string [101, 114, 114, 111, 114]))])
def laid_loop_example_g00849_impl_errNotValid {H : Type} : DataW H := .iface "*errors.errorString" (.ptr (.agg [.lit (.string [110, 111, 116, 32, 118, 97, 108, 105, 100])]))

/-- 'laws.FnExactStoreOk': WHATEVER THE INPUT: true; the input reads as it did. -/
def fnExactStoreOkSpec : ChangeSpec := { name := "fnExactStoreOk", fn := fun _ => fun
  | [d] => { results := [.lit (.bool true)], args := [d] }
  | _ => none }
def fnExactStoreOkRow : OpenClaim := { program := "ytcpljmhcokdhpaagreatdoor", sum := "a15138b3f893562217087602889a07c56a83fbf34bc05907511da9208d514119", func := "loop.example/g00849/laws.FnExactStoreOk", spec := "fnExactStoreOk", unfollowed := true, recurses := true, named := ["unicode/utf8.first", "unicode/utf8.acceptRanges"], apart := false, laid := [("unicode/utf8.acceptRanges", laid_unicode_utf8_acceptRanges), ("unicode/utf8.first", laid_unicode_utf8_first)] }
def FnExactStoreOkSaid : Prop := fnExactStoreOkRow.holds Tryz.pinned (OpenSpec.ofChange fnExactStoreOkSpec)

/-- ITS FALSE NEIGHBOUR: 'it returns false'. Refute it at one input. -/
def fnExactStoreOkWrong : ChangeSpec := { name := "fnExactStoreOk", fn := fun _ => fun
  | [d] => { results := [.lit (.bool false)], args := [d] }
  | _ => none }
def FnExactStoreOkWrongFalsely : Prop := fnExactStoreOkRow.holds Tryz.pinned (OpenSpec.ofChange fnExactStoreOkWrong)

/-- 'laws.FnExactStateIn': WHATEVER THE INPUT: true; the input reads as it did. -/
def fnExactStateInSpec : ChangeSpec := { name := "fnExactStateIn", fn := fun _ => fun
  | [d1, d2] => { results := [.lit (.bool true)], args := [d1, d2] }
  | _ => none }
def fnExactStateInRow : OpenClaim := { program := "ytcpljmhcokdhpaagreatdoor", sum := "a15138b3f893562217087602889a07c56a83fbf34bc05907511da9208d514119", func := "loop.example/g00849/laws.FnExactStateIn", spec := "fnExactStateIn", unfollowed := true, recurses := true, named := ["unicode/utf8.first", "unicode/utf8.acceptRanges"], apart := false, laid := [("unicode/utf8.acceptRanges", laid_unicode_utf8_acceptRanges), ("unicode/utf8.first", laid_unicode_utf8_first)] }
def FnExactStateInSaid : Prop := fnExactStateInRow.holds Tryz.pinned (OpenSpec.ofChange fnExactStateInSpec)

/-- ITS FALSE NEIGHBOUR: 'it returns false'. Refute it at one input. -/
def fnExactStateInWrong : ChangeSpec := { name := "fnExactStateIn", fn := fun _ => fun
  | [d1, d2] => { results := [.lit (.bool false)], args := [d1, d2] }
  | _ => none }
def FnExactStateInWrongFalsely : Prop := fnExactStateInRow.holds Tryz.pinned (OpenSpec.ofChange fnExactStateInWrong)

/-- 'laws.FnExactFlushStore': WHATEVER THE INPUT: true; the input reads as it did. -/
def fnExactFlushStoreSpec : ChangeSpec := { name := "fnExactFlushStore", fn := fun _ => fun
  | [d] => { results := [.lit (.bool true)], args := [d] }
  | _ => none }
def fnExactFlushStoreRow : OpenClaim := { program := "ytcpljmhcokdhpaagreatdoor", sum := "a15138b3f893562217087602889a07c56a83fbf34bc05907511da9208d514119", func := "loop.example/g00849/laws.FnExactFlushStore", spec := "fnExactFlushStore", unfollowed := true, recurses := true, named := ["unicode/utf8.first", "unicode/utf8.acceptRanges"], apart := false, laid := [("unicode/utf8.acceptRanges", laid_unicode_utf8_acceptRanges), ("unicode/utf8.first", laid_unicode_utf8_first)] }
def FnExactFlushStoreSaid : Prop := fnExactFlushStoreRow.holds Tryz.pinned (OpenSpec.ofChange fnExactFlushStoreSpec)

/-- ITS FALSE NEIGHBOUR: 'it returns false'. Refute it at one input. -/
def fnExactFlushStoreWrong : ChangeSpec := { name := "fnExactFlushStore", fn := fun _ => fun
  | [d] => { results := [.lit (.bool false)], args := [d] }
  | _ => none }
def FnExactFlushStoreWrongFalsely : Prop := fnExactFlushStoreRow.holds Tryz.pinned (OpenSpec.ofChange fnExactFlushStoreWrong)

/-- 'laws.FnExactCrashStore': WHATEVER THE INPUT: true; the input reads as it did. -/
def fnExactCrashStoreSpec : ChangeSpec := { name := "fnExactCrashStore", fn := fun _ => fun
  | [d] => { results := [.lit (.bool true)], args := [d] }
  | _ => none }
def fnExactCrashStoreRow : OpenClaim := { program := "ytcpljmhcokdhpaagreatdoor", sum := "a15138b3f893562217087602889a07c56a83fbf34bc05907511da9208d514119", func := "loop.example/g00849/laws.FnExactCrashStore", spec := "fnExactCrashStore", unfollowed := true, recurses := true, named := ["unicode/utf8.first", "unicode/utf8.acceptRanges"], apart := false, laid := [("unicode/utf8.acceptRanges", laid_unicode_utf8_acceptRanges), ("unicode/utf8.first", laid_unicode_utf8_first)] }
def FnExactCrashStoreSaid : Prop := fnExactCrashStoreRow.holds Tryz.pinned (OpenSpec.ofChange fnExactCrashStoreSpec)

/-- ITS FALSE NEIGHBOUR: 'it returns false'. Refute it at one input. -/
def fnExactCrashStoreWrong : ChangeSpec := { name := "fnExactCrashStore", fn := fun _ => fun
  | [d] => { results := [.lit (.bool false)], args := [d] }
  | _ => none }
def FnExactCrashStoreWrongFalsely : Prop := fnExactCrashStoreRow.holds Tryz.pinned (OpenSpec.ofChange fnExactCrashStoreWrong)

/-- 'laws.FnExactStateOk': WHATEVER THE INPUT: true; the input reads as it did. -/
def fnExactStateOkSpec : ChangeSpec := { name := "fnExactStateOk", fn := fun _ => fun
  | [d] => { results := [.lit (.bool true)], args := [d] }
  | _ => none }
def fnExactStateOkRow : OpenClaim := { program := "ytcpljmhcokdhpaagreatdoor", sum := "a15138b3f893562217087602889a07c56a83fbf34bc05907511da9208d514119", func := "loop.example/g00849/laws.FnExactStateOk", spec := "fnExactStateOk", unfollowed := true, recurses := true, named := ["unicode/utf8.first", "unicode/utf8.acceptRanges"], apart := false, laid := [("unicode/utf8.acceptRanges", laid_unicode_utf8_acceptRanges), ("unicode/utf8.first", laid_unicode_utf8_first)] }
def FnExactStateOkSaid : Prop := fnExactStateOkRow.holds Tryz.pinned (OpenSpec.ofChange fnExactStateOkSpec)

/-- ITS FALSE NEIGHBOUR: 'it returns false'. Refute it at one input. -/
def fnExactStateOkWrong : ChangeSpec := { name := "fnExactStateOk", fn := fun _ => fun
  | [d] => { results := [.lit (.bool false)], args := [d] }
  | _ => none }
def FnExactStateOkWrongFalsely : Prop := fnExactStateOkRow.holds Tryz.pinned (OpenSpec.ofChange fnExactStateOkWrong)

/-- 'laws.FnExactLastOf': WHATEVER THE INPUT: true; the input reads as it did. -/
def fnExactLastOfSpec : ChangeSpec := { name := "fnExactLastOf", fn := fun _ => fun
  | [d] => { results := [.lit (.bool true)], args := [d] }
  | _ => none }
def fnExactLastOfRow : OpenClaim := { program := "ytcpljmhcokdhpaagreatdoor", sum := "a15138b3f893562217087602889a07c56a83fbf34bc05907511da9208d514119", func := "loop.example/g00849/laws.FnExactLastOf", spec := "fnExactLastOf", unfollowed := true, recurses := true, named := ["unicode/utf8.first", "unicode/utf8.acceptRanges"], apart := false, laid := [("unicode/utf8.acceptRanges", laid_unicode_utf8_acceptRanges), ("unicode/utf8.first", laid_unicode_utf8_first)] }
def FnExactLastOfSaid : Prop := fnExactLastOfRow.holds Tryz.pinned (OpenSpec.ofChange fnExactLastOfSpec)

/-- ITS FALSE NEIGHBOUR: 'it returns false'. Refute it at one input. -/
def fnExactLastOfWrong : ChangeSpec := { name := "fnExactLastOf", fn := fun _ => fun
  | [d] => { results := [.lit (.bool false)], args := [d] }
  | _ => none }
def FnExactLastOfWrongFalsely : Prop := fnExactLastOfRow.holds Tryz.pinned (OpenSpec.ofChange fnExactLastOfWrong)

/-- 'laws.FnExactChunkOf': WHATEVER THE INPUT: true; the input reads as it did. -/
def fnExactChunkOfSpec : ChangeSpec := { name := "fnExactChunkOf", fn := fun _ => fun
  | [d1, d2, d3, d4] => { results := [.lit (.bool true)], args := [d1, d2, d3, d4] }
  | _ => none }
def fnExactChunkOfRow : OpenClaim := { program := "ytcpljmhcokdhpaagreatdoor", sum := "a15138b3f893562217087602889a07c56a83fbf34bc05907511da9208d514119", func := "loop.example/g00849/laws.FnExactChunkOf", spec := "fnExactChunkOf", unfollowed := true, recurses := true, named := ["unicode/utf8.first", "unicode/utf8.acceptRanges"], apart := false, laid := [("unicode/utf8.acceptRanges", laid_unicode_utf8_acceptRanges), ("unicode/utf8.first", laid_unicode_utf8_first)] }
def FnExactChunkOfSaid : Prop := fnExactChunkOfRow.holds Tryz.pinned (OpenSpec.ofChange fnExactChunkOfSpec)

/-- ITS FALSE NEIGHBOUR: 'it returns false'. Refute it at one input. -/
def fnExactChunkOfWrong : ChangeSpec := { name := "fnExactChunkOf", fn := fun _ => fun
  | [d1, d2, d3, d4] => { results := [.lit (.bool false)], args := [d1, d2, d3, d4] }
  | _ => none }
def FnExactChunkOfWrongFalsely : Prop := fnExactChunkOfRow.holds Tryz.pinned (OpenSpec.ofChange fnExactChunkOfWrong)

/-- 'laws.FnExactHeadsAt': WHATEVER THE INPUT: true; the input reads as it did. -/
def fnExactHeadsAtSpec : ChangeSpec := { name := "fnExactHeadsAt", vars := ["loop.example/g00849/impl.errNotValid"], fn := fun _ => fun
  | [d1, d2, g1] => { results := [.lit (.bool true)], args := [d1, d2], vars := [g1] }
  | _ => none }
def fnExactHeadsAtRow : OpenClaim := { program := "ytcpljmhcokdhpaagreatdoor", sum := "a15138b3f893562217087602889a07c56a83fbf34bc05907511da9208d514119", func := "loop.example/g00849/laws.FnExactHeadsAt", spec := "fnExactHeadsAt", inPlace := ["internal/reflectlite.ValueOf", "(internal/reflectlite.Value).Type", "(internal/reflectlite.Value).IsNil", "internal/reflectlite.TypeOf", "(internal/reflectlite.Value).Elem", "(internal/reflectlite.Value).Set"], unfollowed := true, recurses := true, named := ["loop.example/g00849/impl.errNotValid", "unicode/utf8.first", "unicode/utf8.acceptRanges", "errors.errorType"], ifaces := true, apart := false, laid := [("unicode/utf8.acceptRanges", laid_unicode_utf8_acceptRanges), ("errors.errorType", laid_errors_errorType), ("loop.example/g00849/impl.errNotValid", laid_loop_example_g00849_impl_errNotValid), ("unicode/utf8.first", laid_unicode_utf8_first)] }
def FnExactHeadsAtSaid : Prop := fnExactHeadsAtRow.holds Tryz.pinned (OpenSpec.ofChange fnExactHeadsAtSpec)

/-- ITS FALSE NEIGHBOUR: 'it returns false'. Refute it at one input. -/
def fnExactHeadsAtWrong : ChangeSpec := { name := "fnExactHeadsAt", vars := ["loop.example/g00849/impl.errNotValid"], fn := fun _ => fun
  | [d1, d2, g1] => { results := [.lit (.bool false)], args := [d1, d2], vars := [g1] }
  | _ => none }
def FnExactHeadsAtWrongFalsely : Prop := fnExactHeadsAtRow.holds Tryz.pinned (OpenSpec.ofChange fnExactHeadsAtWrong)

/-- 'laws.FnExactClientsAt': WHATEVER THE INPUT: true; the input reads as it did. -/
def fnExactClientsAtSpec : ChangeSpec := { name := "fnExactClientsAt", vars := ["loop.example/g00849/impl.errNotValid"], fn := fun _ => fun
  | [d1, d2, g1] => { results := [.lit (.bool true)], args := [d1, d2], vars := [g1] }
  | _ => none }
def fnExactClientsAtRow : OpenClaim := { program := "ytcpljmhcokdhpaagreatdoor", sum := "a15138b3f893562217087602889a07c56a83fbf34bc05907511da9208d514119", func := "loop.example/g00849/laws.FnExactClientsAt", spec := "fnExactClientsAt", inPlace := ["internal/reflectlite.ValueOf", "(internal/reflectlite.Value).Type", "(internal/reflectlite.Value).IsNil", "internal/reflectlite.TypeOf", "(internal/reflectlite.Value).Elem", "(internal/reflectlite.Value).Set"], unfollowed := true, recurses := true, named := ["loop.example/g00849/impl.errNotValid", "unicode/utf8.first", "unicode/utf8.acceptRanges", "errors.errorType"], ifaces := true, apart := false, laid := [("unicode/utf8.acceptRanges", laid_unicode_utf8_acceptRanges), ("errors.errorType", laid_errors_errorType), ("loop.example/g00849/impl.errNotValid", laid_loop_example_g00849_impl_errNotValid), ("unicode/utf8.first", laid_unicode_utf8_first)] }
def FnExactClientsAtSaid : Prop := fnExactClientsAtRow.holds Tryz.pinned (OpenSpec.ofChange fnExactClientsAtSpec)

/-- ITS FALSE NEIGHBOUR: 'it returns false'. Refute it at one input. -/
def fnExactClientsAtWrong : ChangeSpec := { name := "fnExactClientsAt", vars := ["loop.example/g00849/impl.errNotValid"], fn := fun _ => fun
  | [d1, d2, g1] => { results := [.lit (.bool false)], args := [d1, d2], vars := [g1] }
  | _ => none }
def FnExactClientsAtWrongFalsely : Prop := fnExactClientsAtRow.holds Tryz.pinned (OpenSpec.ofChange fnExactClientsAtWrong)

/-- 'laws.FnExactPutIn': WHATEVER THE INPUT: true; the input reads as it did. -/
def fnExactPutInSpec : ChangeSpec := { name := "fnExactPutIn", fn := fun _ => fun
  | [d1, d2] => { results := [.lit (.bool true)], args := [d1, d2] }
  | _ => none }
def fnExactPutInRow : OpenClaim := { program := "ytcpljmhcokdhpaagreatdoor", sum := "a15138b3f893562217087602889a07c56a83fbf34bc05907511da9208d514119", func := "loop.example/g00849/laws.FnExactPutIn", spec := "fnExactPutIn", inPlace := ["slices.overlaps[loop.example/g00849/impl.PgState]"], unfollowed := true, recurses := true, named := ["unicode/utf8.first", "unicode/utf8.acceptRanges"], apart := false, laid := [("unicode/utf8.acceptRanges", laid_unicode_utf8_acceptRanges), ("unicode/utf8.first", laid_unicode_utf8_first)] }
def FnExactPutInSaid : Prop := fnExactPutInRow.holds Tryz.pinned (OpenSpec.ofChange fnExactPutInSpec)

/-- ITS FALSE NEIGHBOUR: 'it returns false'. Refute it at one input. -/
def fnExactPutInWrong : ChangeSpec := { name := "fnExactPutIn", fn := fun _ => fun
  | [d1, d2] => { results := [.lit (.bool false)], args := [d1, d2] }
  | _ => none }
def FnExactPutInWrongFalsely : Prop := fnExactPutInRow.holds Tryz.pinned (OpenSpec.ofChange fnExactPutInWrong)

/-- 'laws.FnExactRotIn': WHATEVER THE INPUT: true; the input reads as it did. -/
def fnExactRotInSpec : ChangeSpec := { name := "fnExactRotIn", fn := fun _ => fun
  | [d1, d2, d3, d4, d5, d6, d7] => { results := [.lit (.bool true)], args := [d1, d2, d3, d4, d5, d6, d7] }
  | _ => none }
def fnExactRotInRow : OpenClaim := { program := "ytcpljmhcokdhpaagreatdoor", sum := "a15138b3f893562217087602889a07c56a83fbf34bc05907511da9208d514119", func := "loop.example/g00849/laws.FnExactRotIn", spec := "fnExactRotIn", unfollowed := true, recurses := true, named := ["unicode/utf8.first", "unicode/utf8.acceptRanges"], apart := false, laid := [("unicode/utf8.acceptRanges", laid_unicode_utf8_acceptRanges), ("unicode/utf8.first", laid_unicode_utf8_first)] }
def FnExactRotInSaid : Prop := fnExactRotInRow.holds Tryz.pinned (OpenSpec.ofChange fnExactRotInSpec)

/-- ITS FALSE NEIGHBOUR: 'it returns false'. Refute it at one input. -/
def fnExactRotInWrong : ChangeSpec := { name := "fnExactRotIn", fn := fun _ => fun
  | [d1, d2, d3, d4, d5, d6, d7] => { results := [.lit (.bool false)], args := [d1, d2, d3, d4, d5, d6, d7] }
  | _ => none }
def FnExactRotInWrongFalsely : Prop := fnExactRotInRow.holds Tryz.pinned (OpenSpec.ofChange fnExactRotInWrong)

/- THE SECOND FORM. 'bulk': how many values and letters a reading holds, each counted each time it is reached (what is shared counts as often as it is met; a slice's spare places count too). A statement '..UptoSaid' is the law's where the arguments, and the package variables that the reading takes, are together of bulk at most 1048576: NARROWER than '..Said'. Prove '..Said' where nothing that the law and all that it calls make is longer than what came in: it says more and counts as full. Else prove '..UptoSaid'. A law counts once. -/
mutual
def uptoBulk {H : Type} : DataW H → Nat
  | .lit (.string bytes) => bytes.length + 1
  | .lit _ => 1
  | .nil => 1
  | .ptr d => uptoBulk d + 1
  | .slice elems spare => uptoBulkAll elems + uptoBulkAll spare + 1
  | .agg parts => uptoBulkAll parts + 1
  | .iface _ d => uptoBulk d + 1
  | .map entries => uptoBulkEntries entries + 1
  | .held _ => 1
def uptoBulkAll {H : Type} : List (DataW H) → Nat
  | [] => 0
  | d :: r => uptoBulk d + uptoBulkAll r
def uptoBulkEntries {H : Type} : List (Lit × DataW H) → Nat
  | [] => 0
  | x :: r => uptoBulkEntry x + uptoBulkEntries r
def uptoBulkEntry {H : Type} : Lit × DataW H → Nat
  | (.string bytes, d) => bytes.length + uptoBulk d + 1
  | (_, d) => uptoBulk d + 1
 end
def uptoSmall : (H : Type) → List (DataW H) → Bool := fun _ ds => decide (uptoBulkAll ds ≤ 1048576)
def OpenSpec.upto (s : _root_.Go.ChangeSpec) : _root_.Go.OpenSpec := { _root_.Go.OpenSpec.ofChange s with cond := some uptoSmall }

/-- 'laws.FnExactStoreOk', WHERE WHAT IT READS IS OF BULK AT MOST 1048576: true; the input reads as it did. -/
def fnExactStoreOkUptoRow : OpenClaim := { program := "ytcpljmhcokdhpaagreatdoor", sum := "a15138b3f893562217087602889a07c56a83fbf34bc05907511da9208d514119", func := "loop.example/g00849/laws.FnExactStoreOk", spec := "fnExactStoreOk", unfollowed := true, recurses := true, named := ["unicode/utf8.first", "unicode/utf8.acceptRanges"], apart := false, laid := [("unicode/utf8.acceptRanges", laid_unicode_utf8_acceptRanges), ("unicode/utf8.first", laid_unicode_utf8_first)], narrowed := true }
def FnExactStoreOkUptoSaid : Prop := fnExactStoreOkUptoRow.holds Tryz.pinned (OpenSpec.upto fnExactStoreOkSpec)

/-- 'laws.FnExactStateIn', WHERE WHAT IT READS IS OF BULK AT MOST 1048576: true; the input reads as it did. -/
def fnExactStateInUptoRow : OpenClaim := { program := "ytcpljmhcokdhpaagreatdoor", sum := "a15138b3f893562217087602889a07c56a83fbf34bc05907511da9208d514119", func := "loop.example/g00849/laws.FnExactStateIn", spec := "fnExactStateIn", unfollowed := true, recurses := true, named := ["unicode/utf8.first", "unicode/utf8.acceptRanges"], apart := false, laid := [("unicode/utf8.acceptRanges", laid_unicode_utf8_acceptRanges), ("unicode/utf8.first", laid_unicode_utf8_first)], narrowed := true }
def FnExactStateInUptoSaid : Prop := fnExactStateInUptoRow.holds Tryz.pinned (OpenSpec.upto fnExactStateInSpec)

/-- 'laws.FnExactFlushStore', WHERE WHAT IT READS IS OF BULK AT MOST 1048576: true; the input reads as it did. -/
def fnExactFlushStoreUptoRow : OpenClaim := { program := "ytcpljmhcokdhpaagreatdoor", sum := "a15138b3f893562217087602889a07c56a83fbf34bc05907511da9208d514119", func := "loop.example/g00849/laws.FnExactFlushStore", spec := "fnExactFlushStore", unfollowed := true, recurses := true, named := ["unicode/utf8.first", "unicode/utf8.acceptRanges"], apart := false, laid := [("unicode/utf8.acceptRanges", laid_unicode_utf8_acceptRanges), ("unicode/utf8.first", laid_unicode_utf8_first)], narrowed := true }
def FnExactFlushStoreUptoSaid : Prop := fnExactFlushStoreUptoRow.holds Tryz.pinned (OpenSpec.upto fnExactFlushStoreSpec)

/-- 'laws.FnExactCrashStore', WHERE WHAT IT READS IS OF BULK AT MOST 1048576: true; the input reads as it did. -/
def fnExactCrashStoreUptoRow : OpenClaim := { program := "ytcpljmhcokdhpaagreatdoor", sum := "a15138b3f893562217087602889a07c56a83fbf34bc05907511da9208d514119", func := "loop.example/g00849/laws.FnExactCrashStore", spec := "fnExactCrashStore", unfollowed := true, recurses := true, named := ["unicode/utf8.first", "unicode/utf8.acceptRanges"], apart := false, laid := [("unicode/utf8.acceptRanges", laid_unicode_utf8_acceptRanges), ("unicode/utf8.first", laid_unicode_utf8_first)], narrowed := true }
def FnExactCrashStoreUptoSaid : Prop := fnExactCrashStoreUptoRow.holds Tryz.pinned (OpenSpec.upto fnExactCrashStoreSpec)

/-- 'laws.FnExactStateOk', WHERE WHAT IT READS IS OF BULK AT MOST 1048576: true; the input reads as it did. -/
def fnExactStateOkUptoRow : OpenClaim := { program := "ytcpljmhcokdhpaagreatdoor", sum := "a15138b3f893562217087602889a07c56a83fbf34bc05907511da9208d514119", func := "loop.example/g00849/laws.FnExactStateOk", spec := "fnExactStateOk", unfollowed := true, recurses := true, named := ["unicode/utf8.first", "unicode/utf8.acceptRanges"], apart := false, laid := [("unicode/utf8.acceptRanges", laid_unicode_utf8_acceptRanges), ("unicode/utf8.first", laid_unicode_utf8_first)], narrowed := true }
def FnExactStateOkUptoSaid : Prop := fnExactStateOkUptoRow.holds Tryz.pinned (OpenSpec.upto fnExactStateOkSpec)

/-- 'laws.FnExactLastOf', WHERE WHAT IT READS IS OF BULK AT MOST 1048576: true; the input reads as it did. -/
def fnExactLastOfUptoRow : OpenClaim := { program := "ytcpljmhcokdhpaagreatdoor", sum := "a15138b3f893562217087602889a07c56a83fbf34bc05907511da9208d514119", func := "loop.example/g00849/laws.FnExactLastOf", spec := "fnExactLastOf", unfollowed := true, recurses := true, named := ["unicode/utf8.first", "unicode/utf8.acceptRanges"], apart := false, laid := [("unicode/utf8.acceptRanges", laid_unicode_utf8_acceptRanges), ("unicode/utf8.first", laid_unicode_utf8_first)], narrowed := true }
def FnExactLastOfUptoSaid : Prop := fnExactLastOfUptoRow.holds Tryz.pinned (OpenSpec.upto fnExactLastOfSpec)

/-- 'laws.FnExactChunkOf', WHERE WHAT IT READS IS OF BULK AT MOST 1048576: true; the input reads as it did. -/
def fnExactChunkOfUptoRow : OpenClaim := { program := "ytcpljmhcokdhpaagreatdoor", sum := "a15138b3f893562217087602889a07c56a83fbf34bc05907511da9208d514119", func := "loop.example/g00849/laws.FnExactChunkOf", spec := "fnExactChunkOf", unfollowed := true, recurses := true, named := ["unicode/utf8.first", "unicode/utf8.acceptRanges"], apart := false, laid := [("unicode/utf8.acceptRanges", laid_unicode_utf8_acceptRanges), ("unicode/utf8.first", laid_unicode_utf8_first)], narrowed := true }
def FnExactChunkOfUptoSaid : Prop := fnExactChunkOfUptoRow.holds Tryz.pinned (OpenSpec.upto fnExactChunkOfSpec)

/-- 'laws.FnExactHeadsAt', WHERE WHAT IT READS IS OF BULK AT MOST 1048576: true; the input reads as it did. -/
def fnExactHeadsAtUptoRow : OpenClaim := { program := "ytcpljmhcokdhpaagreatdoor", sum := "a15138b3f893562217087602889a07c56a83fbf34bc05907511da9208d514119", func := "loop.example/g00849/laws.FnExactHeadsAt", spec := "fnExactHeadsAt", inPlace := ["internal/reflectlite.ValueOf", "(internal/reflectlite.Value).Type", "(internal/reflectlite.Value).IsNil", "internal/reflectlite.TypeOf", "(internal/reflectlite.Value).Elem", "(internal/reflectlite.Value).Set"], unfollowed := true, recurses := true, named := ["loop.example/g00849/impl.errNotValid", "unicode/utf8.first", "unicode/utf8.acceptRanges", "errors.errorType"], ifaces := true, apart := false, laid := [("unicode/utf8.acceptRanges", laid_unicode_utf8_acceptRanges), ("errors.errorType", laid_errors_errorType), ("loop.example/g00849/impl.errNotValid", laid_loop_example_g00849_impl_errNotValid), ("unicode/utf8.first", laid_unicode_utf8_first)], narrowed := true }
def FnExactHeadsAtUptoSaid : Prop := fnExactHeadsAtUptoRow.holds Tryz.pinned (OpenSpec.upto fnExactHeadsAtSpec)

/-- 'laws.FnExactClientsAt', WHERE WHAT IT READS IS OF BULK AT MOST 1048576: true; the input reads as it did. -/
def fnExactClientsAtUptoRow : OpenClaim := { program := "ytcpljmhcokdhpaagreatdoor", sum := "a15138b3f893562217087602889a07c56a83fbf34bc05907511da9208d514119", func := "loop.example/g00849/laws.FnExactClientsAt", spec := "fnExactClientsAt", inPlace := ["internal/reflectlite.ValueOf", "(internal/reflectlite.Value).Type", "(internal/reflectlite.Value).IsNil", "internal/reflectlite.TypeOf", "(internal/reflectlite.Value).Elem", "(internal/reflectlite.Value).Set"], unfollowed := true, recurses := true, named := ["loop.example/g00849/impl.errNotValid", "unicode/utf8.first", "unicode/utf8.acceptRanges", "errors.errorType"], ifaces := true, apart := false, laid := [("unicode/utf8.acceptRanges", laid_unicode_utf8_acceptRanges), ("errors.errorType", laid_errors_errorType), ("loop.example/g00849/impl.errNotValid", laid_loop_example_g00849_impl_errNotValid), ("unicode/utf8.first", laid_unicode_utf8_first)], narrowed := true }
def FnExactClientsAtUptoSaid : Prop := fnExactClientsAtUptoRow.holds Tryz.pinned (OpenSpec.upto fnExactClientsAtSpec)

/-- 'laws.FnExactPutIn', WHERE WHAT IT READS IS OF BULK AT MOST 1048576: true; the input reads as it did. -/
def fnExactPutInUptoRow : OpenClaim := { program := "ytcpljmhcokdhpaagreatdoor", sum := "a15138b3f893562217087602889a07c56a83fbf34bc05907511da9208d514119", func := "loop.example/g00849/laws.FnExactPutIn", spec := "fnExactPutIn", inPlace := ["slices.overlaps[loop.example/g00849/impl.PgState]"], unfollowed := true, recurses := true, named := ["unicode/utf8.first", "unicode/utf8.acceptRanges"], apart := false, laid := [("unicode/utf8.acceptRanges", laid_unicode_utf8_acceptRanges), ("unicode/utf8.first", laid_unicode_utf8_first)], narrowed := true }
def FnExactPutInUptoSaid : Prop := fnExactPutInUptoRow.holds Tryz.pinned (OpenSpec.upto fnExactPutInSpec)

/-- 'laws.FnExactRotIn', WHERE WHAT IT READS IS OF BULK AT MOST 1048576: true; the input reads as it did. -/
def fnExactRotInUptoRow : OpenClaim := { program := "ytcpljmhcokdhpaagreatdoor", sum := "a15138b3f893562217087602889a07c56a83fbf34bc05907511da9208d514119", func := "loop.example/g00849/laws.FnExactRotIn", spec := "fnExactRotIn", unfollowed := true, recurses := true, named := ["unicode/utf8.first", "unicode/utf8.acceptRanges"], apart := false, laid := [("unicode/utf8.acceptRanges", laid_unicode_utf8_acceptRanges), ("unicode/utf8.first", laid_unicode_utf8_first)], narrowed := true }
def FnExactRotInUptoSaid : Prop := fnExactRotInUptoRow.holds Tryz.pinned (OpenSpec.upto fnExactRotInSpec)

end Rows
end Go.Proofs.YtcpljmhcokdhpaaGreatDoor
