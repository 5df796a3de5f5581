/-
  No cell of these rows narrows 'for every input' (looked for: loops, veiled, ifaces, maps, wideKeys, modest, calm, conditions, laid).
  DERIVED. THE GIVEN ROWS OF THIS SEAT. 8 by the template 'for every input the law returns true; each argument reads behind the call as it read before'; 0 by the template 'total and deterministic' (their statements: YteogbfmghbaelaaTotals.lean).
  GIVEN WITH THE SEED: the statements are not yours to turn. If you find one false, say at which input.
  Laid BY PROGRAM, IN A SANDBOX (cutbox-rows.mjs): the forced cells as the released guide's own fill.sh prints them over the translation fe7e9138489f5448… (all of the seat's roots in one cut). By AI agents, Wed Nov 11 2026. No macro, syntax, notation, axiom, sorry.
-/
import Derived.Test.YteogbfmghbaelaaChecked
import GoSem.Claim
import GoSem.ClaimJoined
import GoSem.ClaimMapViews
import Derived.JoinedTies
import Derived.KernelRfl
namespace Go.Proofs.Yteogbfmghbaelaa
/- THE CELL 'sum', in the pinned program and in every row, IS THE sha256 OF THE DUMP (.gsa) THAT YteogbfmghbaelaaProg.lean LOADS. Nothing in Lean hashes anything: it is a label: what it is worth is what the hold of that sum in a sandbox is worth. -/
noncomputable def Try.pinned : Pinned := { name := "yteogbfmghbaelaa", sum := "fe7e9138489f54486ca663f20d0f25aea8f0e65e69b66ad2045570cd9416d7d0", checked := Try.checked }
namespace Rows
def none {H : Type} : Left H := { results := [], args := [] }

/-- 'laws.FnExactIncOk': WHATEVER THE INPUT: true; the input reads as it did. -/
def fnExactIncOkSpec : ChangeSpec := { name := "fnExactIncOk", fn := fun _ => fun
  | [d] => { results := [.lit (.bool true)], args := [d] }
  | _ => none }
def fnExactIncOkRow : OpenClaim := { program := "yteogbfmghbaelaa", sum := "fe7e9138489f54486ca663f20d0f25aea8f0e65e69b66ad2045570cd9416d7d0", func := "loop.example/g00849/laws.FnExactIncOk", spec := "fnExactIncOk", plainKeys := false, apart := false }
def FnExactIncOkSaid : Prop := fnExactIncOkRow.holds Try.pinned (OpenSpec.ofChange fnExactIncOkSpec)

/-- ITS FALSE NEIGHBOUR: 'it returns false'. Refute it at one input. -/
def fnExactIncOkWrong : ChangeSpec := { name := "fnExactIncOk", fn := fun _ => fun
  | [d] => { results := [.lit (.bool false)], args := [d] }
  | _ => none }
def FnExactIncOkWrongFalsely : Prop := fnExactIncOkRow.holds Try.pinned (OpenSpec.ofChange fnExactIncOkWrong)

/-- 'laws.FnExactSameMap': WHATEVER THE INPUT: true; the input reads as it did. -/
def fnExactSameMapSpec : ChangeSpec := { name := "fnExactSameMap", fn := fun _ => fun
  | [d1, d2] => { results := [.lit (.bool true)], args := [d1, d2] }
  | _ => none }
def fnExactSameMapRow : OpenClaim := { program := "yteogbfmghbaelaa", sum := "fe7e9138489f54486ca663f20d0f25aea8f0e65e69b66ad2045570cd9416d7d0", func := "loop.example/g00849/laws.FnExactSameMap", spec := "fnExactSameMap", unfollowed := true, recurses := true, plainKeys := false, apart := false }
def FnExactSameMapSaid : Prop := fnExactSameMapRow.holds Try.pinned (OpenSpec.ofChange fnExactSameMapSpec)

/-- ITS FALSE NEIGHBOUR: 'it returns false'. Refute it at one input. -/
def fnExactSameMapWrong : ChangeSpec := { name := "fnExactSameMap", fn := fun _ => fun
  | [d1, d2] => { results := [.lit (.bool false)], args := [d1, d2] }
  | _ => none }
def FnExactSameMapWrongFalsely : Prop := fnExactSameMapRow.holds Try.pinned (OpenSpec.ofChange fnExactSameMapWrong)

/-- 'laws.FnExactMapOk': WHATEVER THE INPUT: true; the input reads as it did. -/
def fnExactMapOkSpec : ChangeSpec := { name := "fnExactMapOk", fn := fun _ => fun
  | [d] => { results := [.lit (.bool true)], args := [d] }
  | _ => none }
def fnExactMapOkRow : OpenClaim := { program := "yteogbfmghbaelaa", sum := "fe7e9138489f54486ca663f20d0f25aea8f0e65e69b66ad2045570cd9416d7d0", func := "loop.example/g00849/laws.FnExactMapOk", spec := "fnExactMapOk", unfollowed := true, recurses := true, plainKeys := false, apart := false }
def FnExactMapOkSaid : Prop := fnExactMapOkRow.holds Try.pinned (OpenSpec.ofChange fnExactMapOkSpec)

/-- ITS FALSE NEIGHBOUR: 'it returns false'. Refute it at one input. -/
def fnExactMapOkWrong : ChangeSpec := { name := "fnExactMapOk", fn := fun _ => fun
  | [d] => { results := [.lit (.bool false)], args := [d] }
  | _ => none }
def FnExactMapOkWrongFalsely : Prop := fnExactMapOkRow.holds Try.pinned (OpenSpec.ofChange fnExactMapOkWrong)

/-- 'laws.FnExactPoolIn': WHATEVER THE INPUT: true; the input reads as it did. -/
def fnExactPoolInSpec : ChangeSpec := { name := "fnExactPoolIn", fn := fun _ => fun
  | [d1, d2] => { results := [.lit (.bool true)], args := [d1, d2] }
  | _ => none }
def fnExactPoolInRow : OpenClaim := { program := "yteogbfmghbaelaa", sum := "fe7e9138489f54486ca663f20d0f25aea8f0e65e69b66ad2045570cd9416d7d0", func := "loop.example/g00849/laws.FnExactPoolIn", spec := "fnExactPoolIn", unfollowed := true, recurses := true, plainKeys := false, apart := false }
def FnExactPoolInSaid : Prop := fnExactPoolInRow.holds Try.pinned (OpenSpec.ofChange fnExactPoolInSpec)

/-- ITS FALSE NEIGHBOUR: 'it returns false'. Refute it at one input. -/
def fnExactPoolInWrong : ChangeSpec := { name := "fnExactPoolIn", fn := fun _ => fun
  | [d1, d2] => { results := [.lit (.bool false)], args := [d1, d2] }
  | _ => none }
def FnExactPoolInWrongFalsely : Prop := fnExactPoolInRow.holds Try.pinned (OpenSpec.ofChange fnExactPoolInWrong)

/-- 'laws.FnExactExceptsOk': WHATEVER THE INPUT: true; the input reads as it did. -/
def fnExactExceptsOkSpec : ChangeSpec := { name := "fnExactExceptsOk", fn := fun _ => fun
  | [d] => { results := [.lit (.bool true)], args := [d] }
  | _ => none }
def fnExactExceptsOkRow : OpenClaim := { program := "yteogbfmghbaelaa", sum := "fe7e9138489f54486ca663f20d0f25aea8f0e65e69b66ad2045570cd9416d7d0", func := "loop.example/g00849/laws.FnExactExceptsOk", spec := "fnExactExceptsOk", unfollowed := true, recurses := true, plainKeys := false, apart := false }
def FnExactExceptsOkSaid : Prop := fnExactExceptsOkRow.holds Try.pinned (OpenSpec.ofChange fnExactExceptsOkSpec)

/-- ITS FALSE NEIGHBOUR: 'it returns false'. Refute it at one input. -/
def fnExactExceptsOkWrong : ChangeSpec := { name := "fnExactExceptsOk", fn := fun _ => fun
  | [d] => { results := [.lit (.bool false)], args := [d] }
  | _ => none }
def FnExactExceptsOkWrongFalsely : Prop := fnExactExceptsOkRow.holds Try.pinned (OpenSpec.ofChange fnExactExceptsOkWrong)

/-- 'laws.FnExactMoves': WHATEVER THE INPUT: true; the input reads as it did. -/
def fnExactMovesSpec : ChangeSpec := { name := "fnExactMoves", fn := fun _ => fun
  | [d1, d2] => { results := [.lit (.bool true)], args := [d1, d2] }
  | _ => none }
def fnExactMovesRow : OpenClaim := { program := "yteogbfmghbaelaa", sum := "fe7e9138489f54486ca663f20d0f25aea8f0e65e69b66ad2045570cd9416d7d0", func := "loop.example/g00849/laws.FnExactMoves", spec := "fnExactMoves", unfollowed := true, recurses := true, plainKeys := false, apart := false }
def FnExactMovesSaid : Prop := fnExactMovesRow.holds Try.pinned (OpenSpec.ofChange fnExactMovesSpec)

/-- ITS FALSE NEIGHBOUR: 'it returns false'. Refute it at one input. -/
def fnExactMovesWrong : ChangeSpec := { name := "fnExactMoves", fn := fun _ => fun
  | [d1, d2] => { results := [.lit (.bool false)], args := [d1, d2] }
  | _ => none }
def FnExactMovesWrongFalsely : Prop := fnExactMovesRow.holds Try.pinned (OpenSpec.ofChange fnExactMovesWrong)

/-- 'laws.FnExactLoads': WHATEVER THE INPUT: true; the input reads as it did. -/
def fnExactLoadsSpec : ChangeSpec := { name := "fnExactLoads", fn := fun _ => fun
  | [d1, d2] => { results := [.lit (.bool true)], args := [d1, d2] }
  | _ => none }
def fnExactLoadsRow : OpenClaim := { program := "yteogbfmghbaelaa", sum := "fe7e9138489f54486ca663f20d0f25aea8f0e65e69b66ad2045570cd9416d7d0", func := "loop.example/g00849/laws.FnExactLoads", spec := "fnExactLoads", unfollowed := true, recurses := true, plainKeys := false, apart := false }
def FnExactLoadsSaid : Prop := fnExactLoadsRow.holds Try.pinned (OpenSpec.ofChange fnExactLoadsSpec)

/-- ITS FALSE NEIGHBOUR: 'it returns false'. Refute it at one input. -/
def fnExactLoadsWrong : ChangeSpec := { name := "fnExactLoads", fn := fun _ => fun
  | [d1, d2] => { results := [.lit (.bool false)], args := [d1, d2] }
  | _ => none }
def FnExactLoadsWrongFalsely : Prop := fnExactLoadsRow.holds Try.pinned (OpenSpec.ofChange fnExactLoadsWrong)

/-- 'laws.FnExactSpread': WHATEVER THE INPUT: true; the input reads as it did. -/
def fnExactSpreadSpec : ChangeSpec := { name := "fnExactSpread", fn := fun _ => fun
  | [d1, d2] => { results := [.lit (.bool true)], args := [d1, d2] }
  | _ => none }
def fnExactSpreadRow : OpenClaim := { program := "yteogbfmghbaelaa", sum := "fe7e9138489f54486ca663f20d0f25aea8f0e65e69b66ad2045570cd9416d7d0", func := "loop.example/g00849/laws.FnExactSpread", spec := "fnExactSpread", unfollowed := true, recurses := true, plainKeys := false, apart := false }
def FnExactSpreadSaid : Prop := fnExactSpreadRow.holds Try.pinned (OpenSpec.ofChange fnExactSpreadSpec)

/-- ITS FALSE NEIGHBOUR: 'it returns false'. Refute it at one input. -/
def fnExactSpreadWrong : ChangeSpec := { name := "fnExactSpread", fn := fun _ => fun
  | [d1, d2] => { results := [.lit (.bool false)], args := [d1, d2] }
  | _ => none }
def FnExactSpreadWrongFalsely : Prop := fnExactSpreadRow.holds Try.pinned (OpenSpec.ofChange fnExactSpreadWrong)

/- THE SECOND FORM. 'bulk': how many values and letters a reading holds, each counted each time it is reached (what is shared counts as often as it is met; a slice's spare places count too). A statement '..UptoSaid' is the law's where the arguments, and the package variables that the reading takes, are together of bulk at most 1048576: NARROWER than '..Said'. Prove '..Said' where nothing that the law and all that it calls make is longer than what came in: it says more and counts as full. Else prove '..UptoSaid'. A law counts once. -/
mutual
def uptoBulk {H : Type} : DataW H → Nat
  | .lit (.string bytes) => bytes.length + 1
  | .lit _ => 1
  | .nil => 1
  | .ptr d => uptoBulk d + 1
  | .slice elems spare => uptoBulkAll elems + uptoBulkAll spare + 1
  | .agg parts => uptoBulkAll parts + 1
  | .iface _ d => uptoBulk d + 1
  | .map entries => uptoBulkEntries entries + 1
  | .held _ => 1
def uptoBulkAll {H : Type} : List (DataW H) → Nat
  | [] => 0
  | d :: r => uptoBulk d + uptoBulkAll r
def uptoBulkEntries {H : Type} : List (Lit × DataW H) → Nat
  | [] => 0
  | x :: r => uptoBulkEntry x + uptoBulkEntries r
def uptoBulkEntry {H : Type} : Lit × DataW H → Nat
  | (.string bytes, d) => bytes.length + uptoBulk d + 1
  | (_, d) => uptoBulk d + 1
 end
def uptoSmall : (H : Type) → List (DataW H) → Bool := fun _ ds => decide (uptoBulkAll ds ≤ 1048576)
def OpenSpec.upto (s : _root_.Go.ChangeSpec) : _root_.Go.OpenSpec := { _root_.Go.OpenSpec.ofChange s with cond := some uptoSmall }

/-- 'laws.FnExactIncOk', WHERE WHAT IT READS IS OF BULK AT MOST 1048576: true; the input reads as it did. -/
def fnExactIncOkUptoRow : OpenClaim := { program := "yteogbfmghbaelaa", sum := "fe7e9138489f54486ca663f20d0f25aea8f0e65e69b66ad2045570cd9416d7d0", func := "loop.example/g00849/laws.FnExactIncOk", spec := "fnExactIncOk", plainKeys := false, apart := false, narrowed := true }
def FnExactIncOkUptoSaid : Prop := fnExactIncOkUptoRow.holds Try.pinned (OpenSpec.upto fnExactIncOkSpec)

/-- 'laws.FnExactSameMap', WHERE WHAT IT READS IS OF BULK AT MOST 1048576: true; the input reads as it did. -/
def fnExactSameMapUptoRow : OpenClaim := { program := "yteogbfmghbaelaa", sum := "fe7e9138489f54486ca663f20d0f25aea8f0e65e69b66ad2045570cd9416d7d0", func := "loop.example/g00849/laws.FnExactSameMap", spec := "fnExactSameMap", unfollowed := true, recurses := true, plainKeys := false, apart := false, narrowed := true }
def FnExactSameMapUptoSaid : Prop := fnExactSameMapUptoRow.holds Try.pinned (OpenSpec.upto fnExactSameMapSpec)

/-- 'laws.FnExactMapOk', WHERE WHAT IT READS IS OF BULK AT MOST 1048576: true; the input reads as it did. -/
def fnExactMapOkUptoRow : OpenClaim := { program := "yteogbfmghbaelaa", sum := "fe7e9138489f54486ca663f20d0f25aea8f0e65e69b66ad2045570cd9416d7d0", func := "loop.example/g00849/laws.FnExactMapOk", spec := "fnExactMapOk", unfollowed := true, recurses := true, plainKeys := false, apart := false, narrowed := true }
def FnExactMapOkUptoSaid : Prop := fnExactMapOkUptoRow.holds Try.pinned (OpenSpec.upto fnExactMapOkSpec)

/-- 'laws.FnExactPoolIn', WHERE WHAT IT READS IS OF BULK AT MOST 1048576: true; the input reads as it did. -/
def fnExactPoolInUptoRow : OpenClaim := { program := "yteogbfmghbaelaa", sum := "fe7e9138489f54486ca663f20d0f25aea8f0e65e69b66ad2045570cd9416d7d0", func := "loop.example/g00849/laws.FnExactPoolIn", spec := "fnExactPoolIn", unfollowed := true, recurses := true, plainKeys := false, apart := false, narrowed := true }
def FnExactPoolInUptoSaid : Prop := fnExactPoolInUptoRow.holds Try.pinned (OpenSpec.upto fnExactPoolInSpec)

/-- 'laws.FnExactExceptsOk', WHERE WHAT IT READS IS OF BULK AT MOST 1048576: true; the input reads as it did. -/
def fnExactExceptsOkUptoRow : OpenClaim := { program := "yteogbfmghbaelaa", sum := "fe7e9138489f54486ca663f20d0f25aea8f0e65e69b66ad2045570cd9416d7d0", func := "loop.example/g00849/laws.FnExactExceptsOk", spec := "fnExactExceptsOk", unfollowed := true, recurses := true, plainKeys := false, apart := false, narrowed := true }
def FnExactExceptsOkUptoSaid : Prop := fnExactExceptsOkUptoRow.holds Try.pinned (OpenSpec.upto fnExactExceptsOkSpec)

/-- 'laws.FnExactMoves', WHERE WHAT IT READS IS OF BULK AT MOST 1048576: true; the input reads as it did. -/
def fnExactMovesUptoRow : OpenClaim := { program := "yteogbfmghbaelaa", sum := "fe7e9138489f54486ca663f20d0f25aea8f0e65e69b66ad2045570cd9416d7d0", func := "loop.example/g00849/laws.FnExactMoves", spec := "fnExactMoves", unfollowed := true, recurses := true, plainKeys := false, apart := false, narrowed := true }
def FnExactMovesUptoSaid : Prop := fnExactMovesUptoRow.holds Try.pinned (OpenSpec.upto fnExactMovesSpec)

/-- 'laws.FnExactLoads', WHERE WHAT IT READS IS OF BULK AT MOST 1048576: true; the input reads as it did. -/
def fnExactLoadsUptoRow : OpenClaim := { program := "yteogbfmghbaelaa", sum := "fe7e9138489f54486ca663f20d0f25aea8f0e65e69b66ad2045570cd9416d7d0", func := "loop.example/g00849/laws.FnExactLoads", spec := "fnExactLoads", unfollowed := true, recurses := true, plainKeys := false, apart := false, narrowed := true }
def FnExactLoadsUptoSaid : Prop := fnExactLoadsUptoRow.holds Try.pinned (OpenSpec.upto fnExactLoadsSpec)

/-- 'laws.FnExactSpread', WHERE WHAT IT READS IS OF BULK AT MOST 1048576: true; the input reads as it did. -/
def fnExactSpreadUptoRow : OpenClaim := { program := "yteogbfmghbaelaa", sum := "fe7e9138489f54486ca663f20d0f25aea8f0e65e69b66ad2045570cd9416d7d0", func := "loop.example/g00849/laws.FnExactSpread", spec := "fnExactSpread", unfollowed := true, recurses := true, plainKeys := false, apart := false, narrowed := true }
def FnExactSpreadUptoSaid : Prop := fnExactSpreadUptoRow.holds Try.pinned (OpenSpec.upto fnExactSpreadSpec)

end Rows
end Go.Proofs.Yteogbfmghbaelaa
