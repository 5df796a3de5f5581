/-
  No cell of these rows narrows 'for every input' (looked for: loops, veiled, ifaces, maps, wideKeys, modest, calm, conditions, laid).
  DERIVED. THE GIVEN ROWS OF THIS SEAT. 12 by the template 'for every input the law returns true; each argument reads behind the call as it read before'; 0 by the template 'total and deterministic' (their statements: YthimpcfodbmhkaaTotals.lean).
  GIVEN WITH THE SEED: the statements are not yours to turn. If you find one false, say at which input.
  Laid BY PROGRAM, IN A SANDBOX (cutbox-rows.mjs): the forced cells as the released guide's own fill.sh prints them over the translation 4989057c3e13d2a7… (all of the seat's roots in one cut). By AI agents, Wed Nov 11 2026. No macro, syntax, notation, axiom, sorry.
-/
import Derived.Test.YthimpcfodbmhkaaChecked
import GoSem.Claim
import GoSem.ClaimJoined
import GoSem.ClaimMapViews
import Derived.JoinedTies
import Derived.KernelRfl
namespace Go.Proofs.Ythimpcfodbmhkaa
/- THE CELL 'sum', in the pinned program and in every row, IS THE sha256 OF THE DUMP (.gsa) THAT YthimpcfodbmhkaaProg.lean LOADS. Nothing in Lean hashes anything: it is a label: what it is worth is what the hold of that sum in a sandbox is worth. -/
noncomputable def Try.pinned : Pinned := { name := "ythimpcfodbmhkaa", sum := "4989057c3e13d2a7264e03c2ae5dde7567ef84ebd57b61f6d4597c0279ccb5f5", checked := Try.checked }
namespace Rows
def none {H : Type} : Left H := { results := [], args := [] }

/-- 'laws.FnExactActingOk': WHATEVER THE INPUT: true; the input reads as it did. -/
def fnExactActingOkSpec : ChangeSpec := { name := "fnExactActingOk", fn := fun _ => fun
  | [d] => { results := [.lit (.bool true)], args := [d] }
  | _ => none }
def fnExactActingOkRow : OpenClaim := { program := "ythimpcfodbmhkaa", sum := "4989057c3e13d2a7264e03c2ae5dde7567ef84ebd57b61f6d4597c0279ccb5f5", func := "loop.example/g00849/laws.FnExactActingOk", spec := "fnExactActingOk", unfollowed := true, recurses := true, apart := false }
def FnExactActingOkSaid : Prop := fnExactActingOkRow.holds Try.pinned (OpenSpec.ofChange fnExactActingOkSpec)

/-- ITS FALSE NEIGHBOUR: 'it returns false'. Refute it at one input. -/
def fnExactActingOkWrong : ChangeSpec := { name := "fnExactActingOk", fn := fun _ => fun
  | [d] => { results := [.lit (.bool false)], args := [d] }
  | _ => none }
def FnExactActingOkWrongFalsely : Prop := fnExactActingOkRow.holds Try.pinned (OpenSpec.ofChange fnExactActingOkWrong)

/-- 'laws.FnExactTakenOf': WHATEVER THE INPUT: true; the input reads as it did. -/
def fnExactTakenOfSpec : ChangeSpec := { name := "fnExactTakenOf", fn := fun _ => fun
  | [d] => { results := [.lit (.bool true)], args := [d] }
  | _ => none }
def fnExactTakenOfRow : OpenClaim := { program := "ythimpcfodbmhkaa", sum := "4989057c3e13d2a7264e03c2ae5dde7567ef84ebd57b61f6d4597c0279ccb5f5", func := "loop.example/g00849/laws.FnExactTakenOf", spec := "fnExactTakenOf", unfollowed := true, recurses := true, apart := false }
def FnExactTakenOfSaid : Prop := fnExactTakenOfRow.holds Try.pinned (OpenSpec.ofChange fnExactTakenOfSpec)

/-- ITS FALSE NEIGHBOUR: 'it returns false'. Refute it at one input. -/
def fnExactTakenOfWrong : ChangeSpec := { name := "fnExactTakenOf", fn := fun _ => fun
  | [d] => { results := [.lit (.bool false)], args := [d] }
  | _ => none }
def FnExactTakenOfWrongFalsely : Prop := fnExactTakenOfRow.holds Try.pinned (OpenSpec.ofChange fnExactTakenOfWrong)

/-- 'laws.FnExactLeaderOf': WHATEVER THE INPUT: true; the input reads as it did. -/
def fnExactLeaderOfSpec : ChangeSpec := { name := "fnExactLeaderOf", fn := fun _ => fun
  | [d] => { results := [.lit (.bool true)], args := [d] }
  | _ => none }
def fnExactLeaderOfRow : OpenClaim := { program := "ythimpcfodbmhkaa", sum := "4989057c3e13d2a7264e03c2ae5dde7567ef84ebd57b61f6d4597c0279ccb5f5", func := "loop.example/g00849/laws.FnExactLeaderOf", spec := "fnExactLeaderOf", unfollowed := true, recurses := true, apart := false }
def FnExactLeaderOfSaid : Prop := fnExactLeaderOfRow.holds Try.pinned (OpenSpec.ofChange fnExactLeaderOfSpec)

/-- ITS FALSE NEIGHBOUR: 'it returns false'. Refute it at one input. -/
def fnExactLeaderOfWrong : ChangeSpec := { name := "fnExactLeaderOf", fn := fun _ => fun
  | [d] => { results := [.lit (.bool false)], args := [d] }
  | _ => none }
def FnExactLeaderOfWrongFalsely : Prop := fnExactLeaderOfRow.holds Try.pinned (OpenSpec.ofChange fnExactLeaderOfWrong)

/-- 'laws.FnExactPlaceOf': WHATEVER THE INPUT: true; the input reads as it did. -/
def fnExactPlaceOfSpec : ChangeSpec := { name := "fnExactPlaceOf", fn := fun _ => fun
  | [d1, d2] => { results := [.lit (.bool true)], args := [d1, d2] }
  | _ => none }
def fnExactPlaceOfRow : OpenClaim := { program := "ythimpcfodbmhkaa", sum := "4989057c3e13d2a7264e03c2ae5dde7567ef84ebd57b61f6d4597c0279ccb5f5", func := "loop.example/g00849/laws.FnExactPlaceOf", spec := "fnExactPlaceOf", unfollowed := true, recurses := true, apart := false }
def FnExactPlaceOfSaid : Prop := fnExactPlaceOfRow.holds Try.pinned (OpenSpec.ofChange fnExactPlaceOfSpec)

/-- ITS FALSE NEIGHBOUR: 'it returns false'. Refute it at one input. -/
def fnExactPlaceOfWrong : ChangeSpec := { name := "fnExactPlaceOf", fn := fun _ => fun
  | [d1, d2] => { results := [.lit (.bool false)], args := [d1, d2] }
  | _ => none }
def FnExactPlaceOfWrongFalsely : Prop := fnExactPlaceOfRow.holds Try.pinned (OpenSpec.ofChange fnExactPlaceOfWrong)

/-- 'laws.FnExactMembersOf': WHATEVER THE INPUT: true; the input reads as it did. -/
def fnExactMembersOfSpec : ChangeSpec := { name := "fnExactMembersOf", fn := fun _ => fun
  | [d] => { results := [.lit (.bool true)], args := [d] }
  | _ => none }
def fnExactMembersOfRow : OpenClaim := { program := "ythimpcfodbmhkaa", sum := "4989057c3e13d2a7264e03c2ae5dde7567ef84ebd57b61f6d4597c0279ccb5f5", func := "loop.example/g00849/laws.FnExactMembersOf", spec := "fnExactMembersOf", unfollowed := true, recurses := true, apart := false }
def FnExactMembersOfSaid : Prop := fnExactMembersOfRow.holds Try.pinned (OpenSpec.ofChange fnExactMembersOfSpec)

/-- ITS FALSE NEIGHBOUR: 'it returns false'. Refute it at one input. -/
def fnExactMembersOfWrong : ChangeSpec := { name := "fnExactMembersOf", fn := fun _ => fun
  | [d] => { results := [.lit (.bool false)], args := [d] }
  | _ => none }
def FnExactMembersOfWrongFalsely : Prop := fnExactMembersOfRow.holds Try.pinned (OpenSpec.ofChange fnExactMembersOfWrong)

/-- 'laws.FnExactIntervalsOk': WHATEVER THE INPUT: true; the input reads as it did. -/
def fnExactIntervalsOkSpec : ChangeSpec := { name := "fnExactIntervalsOk", fn := fun _ => fun
  | [d] => { results := [.lit (.bool true)], args := [d] }
  | _ => none }
def fnExactIntervalsOkRow : OpenClaim := { program := "ythimpcfodbmhkaa", sum := "4989057c3e13d2a7264e03c2ae5dde7567ef84ebd57b61f6d4597c0279ccb5f5", func := "loop.example/g00849/laws.FnExactIntervalsOk", spec := "fnExactIntervalsOk", unfollowed := true, recurses := true, apart := false }
def FnExactIntervalsOkSaid : Prop := fnExactIntervalsOkRow.holds Try.pinned (OpenSpec.ofChange fnExactIntervalsOkSpec)

/-- ITS FALSE NEIGHBOUR: 'it returns false'. Refute it at one input. -/
def fnExactIntervalsOkWrong : ChangeSpec := { name := "fnExactIntervalsOk", fn := fun _ => fun
  | [d] => { results := [.lit (.bool false)], args := [d] }
  | _ => none }
def FnExactIntervalsOkWrongFalsely : Prop := fnExactIntervalsOkRow.holds Try.pinned (OpenSpec.ofChange fnExactIntervalsOkWrong)

/-- 'laws.FnExactIntervalAt': WHATEVER THE INPUT: true; the input reads as it did. -/
def fnExactIntervalAtSpec : ChangeSpec := { name := "fnExactIntervalAt", fn := fun _ => fun
  | [d1, d2] => { results := [.lit (.bool true)], args := [d1, d2] }
  | _ => none }
def fnExactIntervalAtRow : OpenClaim := { program := "ythimpcfodbmhkaa", sum := "4989057c3e13d2a7264e03c2ae5dde7567ef84ebd57b61f6d4597c0279ccb5f5", func := "loop.example/g00849/laws.FnExactIntervalAt", spec := "fnExactIntervalAt", unfollowed := true, recurses := true, apart := false }
def FnExactIntervalAtSaid : Prop := fnExactIntervalAtRow.holds Try.pinned (OpenSpec.ofChange fnExactIntervalAtSpec)

/-- ITS FALSE NEIGHBOUR: 'it returns false'. Refute it at one input. -/
def fnExactIntervalAtWrong : ChangeSpec := { name := "fnExactIntervalAt", fn := fun _ => fun
  | [d1, d2] => { results := [.lit (.bool false)], args := [d1, d2] }
  | _ => none }
def FnExactIntervalAtWrongFalsely : Prop := fnExactIntervalAtRow.holds Try.pinned (OpenSpec.ofChange fnExactIntervalAtWrong)

/-- 'laws.FnExactAheadOf': WHATEVER THE INPUT: true; the input reads as it did. -/
def fnExactAheadOfSpec : ChangeSpec := { name := "fnExactAheadOf", fn := fun _ => fun
  | [d1, d2] => { results := [.lit (.bool true)], args := [d1, d2] }
  | _ => none }
def fnExactAheadOfRow : OpenClaim := { program := "ythimpcfodbmhkaa", sum := "4989057c3e13d2a7264e03c2ae5dde7567ef84ebd57b61f6d4597c0279ccb5f5", func := "loop.example/g00849/laws.FnExactAheadOf", spec := "fnExactAheadOf", unfollowed := true, recurses := true, apart := false }
def FnExactAheadOfSaid : Prop := fnExactAheadOfRow.holds Try.pinned (OpenSpec.ofChange fnExactAheadOfSpec)

/-- ITS FALSE NEIGHBOUR: 'it returns false'. Refute it at one input. -/
def fnExactAheadOfWrong : ChangeSpec := { name := "fnExactAheadOf", fn := fun _ => fun
  | [d1, d2] => { results := [.lit (.bool false)], args := [d1, d2] }
  | _ => none }
def FnExactAheadOfWrongFalsely : Prop := fnExactAheadOfRow.holds Try.pinned (OpenSpec.ofChange fnExactAheadOfWrong)

/-- 'laws.FnExactAskOf': WHATEVER THE INPUT: true; the input reads as it did. -/
def fnExactAskOfSpec : ChangeSpec := { name := "fnExactAskOf", fn := fun _ => fun
  | [d] => { results := [.lit (.bool true)], args := [d] }
  | _ => none }
def fnExactAskOfRow : OpenClaim := { program := "ythimpcfodbmhkaa", sum := "4989057c3e13d2a7264e03c2ae5dde7567ef84ebd57b61f6d4597c0279ccb5f5", func := "loop.example/g00849/laws.FnExactAskOf", spec := "fnExactAskOf", unfollowed := true, recurses := true, apart := false }
def FnExactAskOfSaid : Prop := fnExactAskOfRow.holds Try.pinned (OpenSpec.ofChange fnExactAskOfSpec)

/-- ITS FALSE NEIGHBOUR: 'it returns false'. Refute it at one input. -/
def fnExactAskOfWrong : ChangeSpec := { name := "fnExactAskOf", fn := fun _ => fun
  | [d] => { results := [.lit (.bool false)], args := [d] }
  | _ => none }
def FnExactAskOfWrongFalsely : Prop := fnExactAskOfRow.holds Try.pinned (OpenSpec.ofChange fnExactAskOfWrong)

/-- 'laws.FnExactNeedOf': WHATEVER THE INPUT: true; the input reads as it did. -/
def fnExactNeedOfSpec : ChangeSpec := { name := "fnExactNeedOf", fn := fun _ => fun
  | [d1, d2] => { results := [.lit (.bool true)], args := [d1, d2] }
  | _ => none }
def fnExactNeedOfRow : OpenClaim := { program := "ythimpcfodbmhkaa", sum := "4989057c3e13d2a7264e03c2ae5dde7567ef84ebd57b61f6d4597c0279ccb5f5", func := "loop.example/g00849/laws.FnExactNeedOf", spec := "fnExactNeedOf", unfollowed := true, recurses := true, apart := false }
def FnExactNeedOfSaid : Prop := fnExactNeedOfRow.holds Try.pinned (OpenSpec.ofChange fnExactNeedOfSpec)

/-- ITS FALSE NEIGHBOUR: 'it returns false'. Refute it at one input. -/
def fnExactNeedOfWrong : ChangeSpec := { name := "fnExactNeedOf", fn := fun _ => fun
  | [d1, d2] => { results := [.lit (.bool false)], args := [d1, d2] }
  | _ => none }
def FnExactNeedOfWrongFalsely : Prop := fnExactNeedOfRow.holds Try.pinned (OpenSpec.ofChange fnExactNeedOfWrong)

/-- 'laws.FnExactHeardOf': WHATEVER THE INPUT: true; the input reads as it did. -/
def fnExactHeardOfSpec : ChangeSpec := { name := "fnExactHeardOf", fn := fun _ => fun
  | [d1, d2] => { results := [.lit (.bool true)], args := [d1, d2] }
  | _ => none }
def fnExactHeardOfRow : OpenClaim := { program := "ythimpcfodbmhkaa", sum := "4989057c3e13d2a7264e03c2ae5dde7567ef84ebd57b61f6d4597c0279ccb5f5", func := "loop.example/g00849/laws.FnExactHeardOf", spec := "fnExactHeardOf", unfollowed := true, recurses := true, apart := false }
def FnExactHeardOfSaid : Prop := fnExactHeardOfRow.holds Try.pinned (OpenSpec.ofChange fnExactHeardOfSpec)

/-- ITS FALSE NEIGHBOUR: 'it returns false'. Refute it at one input. -/
def fnExactHeardOfWrong : ChangeSpec := { name := "fnExactHeardOf", fn := fun _ => fun
  | [d1, d2] => { results := [.lit (.bool false)], args := [d1, d2] }
  | _ => none }
def FnExactHeardOfWrongFalsely : Prop := fnExactHeardOfRow.holds Try.pinned (OpenSpec.ofChange fnExactHeardOfWrong)

/-- 'laws.FnExactHeardEnough': WHATEVER THE INPUT: true; the input reads as it did. -/
def fnExactHeardEnoughSpec : ChangeSpec := { name := "fnExactHeardEnough", fn := fun _ => fun
  | [d1, d2, d3, d4] => { results := [.lit (.bool true)], args := [d1, d2, d3, d4] }
  | _ => none }
def fnExactHeardEnoughRow : OpenClaim := { program := "ythimpcfodbmhkaa", sum := "4989057c3e13d2a7264e03c2ae5dde7567ef84ebd57b61f6d4597c0279ccb5f5", func := "loop.example/g00849/laws.FnExactHeardEnough", spec := "fnExactHeardEnough", unfollowed := true, recurses := true, apart := false }
def FnExactHeardEnoughSaid : Prop := fnExactHeardEnoughRow.holds Try.pinned (OpenSpec.ofChange fnExactHeardEnoughSpec)

/-- ITS FALSE NEIGHBOUR: 'it returns false'. Refute it at one input. -/
def fnExactHeardEnoughWrong : ChangeSpec := { name := "fnExactHeardEnough", fn := fun _ => fun
  | [d1, d2, d3, d4] => { results := [.lit (.bool false)], args := [d1, d2, d3, d4] }
  | _ => none }
def FnExactHeardEnoughWrongFalsely : Prop := fnExactHeardEnoughRow.holds Try.pinned (OpenSpec.ofChange fnExactHeardEnoughWrong)

/- THE SECOND FORM. 'bulk': how many values and letters a reading holds, each counted each time it is reached (what is shared counts as often as it is met; a slice's spare places count too). A statement '..UptoSaid' is the law's where the arguments, and the package variables that the reading takes, are together of bulk at most 1048576: NARROWER than '..Said'. Prove '..Said' where nothing that the law and all that it calls make is longer than what came in: it says more and counts as full. Else prove '..UptoSaid'. A law counts once. -/
mutual
def uptoBulk {H : Type} : DataW H → Nat
  | .lit (.string bytes) => bytes.length + 1
  | .lit _ => 1
  | .nil => 1
  | .ptr d => uptoBulk d + 1
  | .slice elems spare => uptoBulkAll elems + uptoBulkAll spare + 1
  | .agg parts => uptoBulkAll parts + 1
  | .iface _ d => uptoBulk d + 1
  | .map entries => uptoBulkEntries entries + 1
  | .held _ => 1
def uptoBulkAll {H : Type} : List (DataW H) → Nat
  | [] => 0
  | d :: r => uptoBulk d + uptoBulkAll r
def uptoBulkEntries {H : Type} : List (Lit × DataW H) → Nat
  | [] => 0
  | x :: r => uptoBulkEntry x + uptoBulkEntries r
def uptoBulkEntry {H : Type} : Lit × DataW H → Nat
  | (.string bytes, d) => bytes.length + uptoBulk d + 1
  | (_, d) => uptoBulk d + 1
 end
def uptoSmall : (H : Type) → List (DataW H) → Bool := fun _ ds => decide (uptoBulkAll ds ≤ 1048576)
def OpenSpec.upto (s : _root_.Go.ChangeSpec) : _root_.Go.OpenSpec := { _root_.Go.OpenSpec.ofChange s with cond := some uptoSmall }

/-- 'laws.FnExactActingOk', WHERE WHAT IT READS IS OF BULK AT MOST 1048576: true; the input reads as it did. -/
def fnExactActingOkUptoRow : OpenClaim := { program := "ythimpcfodbmhkaa", sum := "4989057c3e13d2a7264e03c2ae5dde7567ef84ebd57b61f6d4597c0279ccb5f5", func := "loop.example/g00849/laws.FnExactActingOk", spec := "fnExactActingOk", unfollowed := true, recurses := true, apart := false, narrowed := true }
def FnExactActingOkUptoSaid : Prop := fnExactActingOkUptoRow.holds Try.pinned (OpenSpec.upto fnExactActingOkSpec)

/-- 'laws.FnExactTakenOf', WHERE WHAT IT READS IS OF BULK AT MOST 1048576: true; the input reads as it did. -/
def fnExactTakenOfUptoRow : OpenClaim := { program := "ythimpcfodbmhkaa", sum := "4989057c3e13d2a7264e03c2ae5dde7567ef84ebd57b61f6d4597c0279ccb5f5", func := "loop.example/g00849/laws.FnExactTakenOf", spec := "fnExactTakenOf", unfollowed := true, recurses := true, apart := false, narrowed := true }
def FnExactTakenOfUptoSaid : Prop := fnExactTakenOfUptoRow.holds Try.pinned (OpenSpec.upto fnExactTakenOfSpec)

/-- 'laws.FnExactLeaderOf', WHERE WHAT IT READS IS OF BULK AT MOST 1048576: true; the input reads as it did. -/
def fnExactLeaderOfUptoRow : OpenClaim := { program := "ythimpcfodbmhkaa", sum := "4989057c3e13d2a7264e03c2ae5dde7567ef84ebd57b61f6d4597c0279ccb5f5", func := "loop.example/g00849/laws.FnExactLeaderOf", spec := "fnExactLeaderOf", unfollowed := true, recurses := true, apart := false, narrowed := true }
def FnExactLeaderOfUptoSaid : Prop := fnExactLeaderOfUptoRow.holds Try.pinned (OpenSpec.upto fnExactLeaderOfSpec)

/-- 'laws.FnExactPlaceOf', WHERE WHAT IT READS IS OF BULK AT MOST 1048576: true; the input reads as it did. -/
def fnExactPlaceOfUptoRow : OpenClaim := { program := "ythimpcfodbmhkaa", sum := "4989057c3e13d2a7264e03c2ae5dde7567ef84ebd57b61f6d4597c0279ccb5f5", func := "loop.example/g00849/laws.FnExactPlaceOf", spec := "fnExactPlaceOf", unfollowed := true, recurses := true, apart := false, narrowed := true }
def FnExactPlaceOfUptoSaid : Prop := fnExactPlaceOfUptoRow.holds Try.pinned (OpenSpec.upto fnExactPlaceOfSpec)

/-- 'laws.FnExactMembersOf', WHERE WHAT IT READS IS OF BULK AT MOST 1048576: true; the input reads as it did. -/
def fnExactMembersOfUptoRow : OpenClaim := { program := "ythimpcfodbmhkaa", sum := "4989057c3e13d2a7264e03c2ae5dde7567ef84ebd57b61f6d4597c0279ccb5f5", func := "loop.example/g00849/laws.FnExactMembersOf", spec := "fnExactMembersOf", unfollowed := true, recurses := true, apart := false, narrowed := true }
def FnExactMembersOfUptoSaid : Prop := fnExactMembersOfUptoRow.holds Try.pinned (OpenSpec.upto fnExactMembersOfSpec)

/-- 'laws.FnExactIntervalsOk', WHERE WHAT IT READS IS OF BULK AT MOST 1048576: true; the input reads as it did. -/
def fnExactIntervalsOkUptoRow : OpenClaim := { program := "ythimpcfodbmhkaa", sum := "4989057c3e13d2a7264e03c2ae5dde7567ef84ebd57b61f6d4597c0279ccb5f5", func := "loop.example/g00849/laws.FnExactIntervalsOk", spec := "fnExactIntervalsOk", unfollowed := true, recurses := true, apart := false, narrowed := true }
def FnExactIntervalsOkUptoSaid : Prop := fnExactIntervalsOkUptoRow.holds Try.pinned (OpenSpec.upto fnExactIntervalsOkSpec)

/-- 'laws.FnExactIntervalAt', WHERE WHAT IT READS IS OF BULK AT MOST 1048576: true; the input reads as it did. -/
def fnExactIntervalAtUptoRow : OpenClaim := { program := "ythimpcfodbmhkaa", sum := "4989057c3e13d2a7264e03c2ae5dde7567ef84ebd57b61f6d4597c0279ccb5f5", func := "loop.example/g00849/laws.FnExactIntervalAt", spec := "fnExactIntervalAt", unfollowed := true, recurses := true, apart := false, narrowed := true }
def FnExactIntervalAtUptoSaid : Prop := fnExactIntervalAtUptoRow.holds Try.pinned (OpenSpec.upto fnExactIntervalAtSpec)

/-- 'laws.FnExactAheadOf', WHERE WHAT IT READS IS OF BULK AT MOST 1048576: true; the input reads as it did. -/
def fnExactAheadOfUptoRow : OpenClaim := { program := "ythimpcfodbmhkaa", sum := "4989057c3e13d2a7264e03c2ae5dde7567ef84ebd57b61f6d4597c0279ccb5f5", func := "loop.example/g00849/laws.FnExactAheadOf", spec := "fnExactAheadOf", unfollowed := true, recurses := true, apart := false, narrowed := true }
def FnExactAheadOfUptoSaid : Prop := fnExactAheadOfUptoRow.holds Try.pinned (OpenSpec.upto fnExactAheadOfSpec)

/-- 'laws.FnExactAskOf', WHERE WHAT IT READS IS OF BULK AT MOST 1048576: true; the input reads as it did. -/
def fnExactAskOfUptoRow : OpenClaim := { program := "ythimpcfodbmhkaa", sum := "4989057c3e13d2a7264e03c2ae5dde7567ef84ebd57b61f6d4597c0279ccb5f5", func := "loop.example/g00849/laws.FnExactAskOf", spec := "fnExactAskOf", unfollowed := true, recurses := true, apart := false, narrowed := true }
def FnExactAskOfUptoSaid : Prop := fnExactAskOfUptoRow.holds Try.pinned (OpenSpec.upto fnExactAskOfSpec)

/-- 'laws.FnExactNeedOf', WHERE WHAT IT READS IS OF BULK AT MOST 1048576: true; the input reads as it did. -/
def fnExactNeedOfUptoRow : OpenClaim := { program := "ythimpcfodbmhkaa", sum := "4989057c3e13d2a7264e03c2ae5dde7567ef84ebd57b61f6d4597c0279ccb5f5", func := "loop.example/g00849/laws.FnExactNeedOf", spec := "fnExactNeedOf", unfollowed := true, recurses := true, apart := false, narrowed := true }
def FnExactNeedOfUptoSaid : Prop := fnExactNeedOfUptoRow.holds Try.pinned (OpenSpec.upto fnExactNeedOfSpec)

/-- 'laws.FnExactHeardOf', WHERE WHAT IT READS IS OF BULK AT MOST 1048576: true; the input reads as it did. -/
def fnExactHeardOfUptoRow : OpenClaim := { program := "ythimpcfodbmhkaa", sum := "4989057c3e13d2a7264e03c2ae5dde7567ef84ebd57b61f6d4597c0279ccb5f5", func := "loop.example/g00849/laws.FnExactHeardOf", spec := "fnExactHeardOf", unfollowed := true, recurses := true, apart := false, narrowed := true }
def FnExactHeardOfUptoSaid : Prop := fnExactHeardOfUptoRow.holds Try.pinned (OpenSpec.upto fnExactHeardOfSpec)

/-- 'laws.FnExactHeardEnough', WHERE WHAT IT READS IS OF BULK AT MOST 1048576: true; the input reads as it did. -/
def fnExactHeardEnoughUptoRow : OpenClaim := { program := "ythimpcfodbmhkaa", sum := "4989057c3e13d2a7264e03c2ae5dde7567ef84ebd57b61f6d4597c0279ccb5f5", func := "loop.example/g00849/laws.FnExactHeardEnough", spec := "fnExactHeardEnough", unfollowed := true, recurses := true, apart := false, narrowed := true }
def FnExactHeardEnoughUptoSaid : Prop := fnExactHeardEnoughUptoRow.holds Try.pinned (OpenSpec.upto fnExactHeardEnoughSpec)

end Rows
end Go.Proofs.Ythimpcfodbmhkaa
