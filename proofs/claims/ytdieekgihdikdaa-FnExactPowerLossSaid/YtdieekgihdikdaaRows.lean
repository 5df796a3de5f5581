/-
  No cell of these rows narrows 'for every input' (looked for: loops, veiled, ifaces, maps, wideKeys, modest, calm, conditions, laid).
  DERIVED. THE GIVEN ROWS OF THIS SEAT. 5 by the template 'for every input the law returns true; each argument reads behind the call as it read before'; 0 by the template 'total and deterministic' (their statements: YtdieekgihdikdaaTotals.lean).
  GIVEN WITH THE SEED: the statements are not yours to turn. If you find one false, say at which input.
  Laid BY PROGRAM, IN A SANDBOX (cutbox-rows.mjs): the forced cells as the released guide's own fill.sh prints them over the translation d1198dc10a2ad60f… (all of the seat's roots in one cut). By AI agents, Wed Nov 11 2026. No macro, syntax, notation, axiom, sorry.
-/
import Derived.Test.YtdieekgihdikdaaChecked
import GoSem.Claim
import GoSem.ClaimJoined
import GoSem.ClaimMapViews
import Derived.JoinedTies
import Derived.KernelRfl
namespace Go.Proofs.Ytdieekgihdikdaa
/- THE CELL 'sum', in the pinned program and in every row, IS THE sha256 OF THE DUMP (.gsa) THAT YtdieekgihdikdaaProg.lean LOADS. Nothing in Lean hashes anything: it is a label: what it is worth is what the hold of that sum in a sandbox is worth. -/
noncomputable def Try.pinned : Pinned := { name := "ytdieekgihdikdaa", sum := "d1198dc10a2ad60fb4963c1b3e7f6cf66d265479199d0396794b37ad74a1ea28", checked := Try.checked }
namespace Rows
def none {H : Type} : Left H := { results := [], args := [] }

/-- 'laws.FnExactGetOp': WHATEVER THE INPUT: true; the input reads as it did. -/
def fnExactGetOpSpec : ChangeSpec := { name := "fnExactGetOp", fn := fun _ => fun
  | [d] => { results := [.lit (.bool true)], args := [d] }
  | _ => none }
def fnExactGetOpRow : OpenClaim := { program := "ytdieekgihdikdaa", sum := "d1198dc10a2ad60fb4963c1b3e7f6cf66d265479199d0396794b37ad74a1ea28", func := "loop.example/g00849/laws.FnExactGetOp", spec := "fnExactGetOp", apart := false }
def FnExactGetOpSaid : Prop := fnExactGetOpRow.holds Try.pinned (OpenSpec.ofChange fnExactGetOpSpec)

/-- ITS FALSE NEIGHBOUR: 'it returns false'. Refute it at one input. -/
def fnExactGetOpWrong : ChangeSpec := { name := "fnExactGetOp", fn := fun _ => fun
  | [d] => { results := [.lit (.bool false)], args := [d] }
  | _ => none }
def FnExactGetOpWrongFalsely : Prop := fnExactGetOpRow.holds Try.pinned (OpenSpec.ofChange fnExactGetOpWrong)

/-- 'laws.FnExactPowerLoss': WHATEVER THE INPUT: true; the input reads as it did. -/
def fnExactPowerLossSpec : ChangeSpec := { name := "fnExactPowerLoss", fn := fun _ => fun
  | [d1, d2, d3] => { results := [.lit (.bool true)], args := [d1, d2, d3] }
  | _ => none }
def fnExactPowerLossRow : OpenClaim := { program := "ytdieekgihdikdaa", sum := "d1198dc10a2ad60fb4963c1b3e7f6cf66d265479199d0396794b37ad74a1ea28", func := "loop.example/g00849/laws.FnExactPowerLoss", spec := "fnExactPowerLoss", unfollowed := true, recurses := true, apart := false }
def FnExactPowerLossSaid : Prop := fnExactPowerLossRow.holds Try.pinned (OpenSpec.ofChange fnExactPowerLossSpec)

/-- ITS FALSE NEIGHBOUR: 'it returns false'. Refute it at one input. -/
def fnExactPowerLossWrong : ChangeSpec := { name := "fnExactPowerLoss", fn := fun _ => fun
  | [d1, d2, d3] => { results := [.lit (.bool false)], args := [d1, d2, d3] }
  | _ => none }
def FnExactPowerLossWrongFalsely : Prop := fnExactPowerLossRow.holds Try.pinned (OpenSpec.ofChange fnExactPowerLossWrong)

/-- 'laws.FnExactMatRows': WHATEVER THE INPUT: true; the input reads as it did. -/
def fnExactMatRowsSpec : ChangeSpec := { name := "fnExactMatRows", fn := fun _ => fun
  | [d1, d2] => { results := [.lit (.bool true)], args := [d1, d2] }
  | _ => none }
def fnExactMatRowsRow : OpenClaim := { program := "ytdieekgihdikdaa", sum := "d1198dc10a2ad60fb4963c1b3e7f6cf66d265479199d0396794b37ad74a1ea28", func := "loop.example/g00849/laws.FnExactMatRows", spec := "fnExactMatRows", apart := false }
def FnExactMatRowsSaid : Prop := fnExactMatRowsRow.holds Try.pinned (OpenSpec.ofChange fnExactMatRowsSpec)

/-- ITS FALSE NEIGHBOUR: 'it returns false'. Refute it at one input. -/
def fnExactMatRowsWrong : ChangeSpec := { name := "fnExactMatRows", fn := fun _ => fun
  | [d1, d2] => { results := [.lit (.bool false)], args := [d1, d2] }
  | _ => none }
def FnExactMatRowsWrongFalsely : Prop := fnExactMatRowsRow.holds Try.pinned (OpenSpec.ofChange fnExactMatRowsWrong)

/-- 'laws.FnExactApplyOps': WHATEVER THE INPUT: true; the input reads as it did. -/
def fnExactApplyOpsSpec : ChangeSpec := { name := "fnExactApplyOps", fn := fun _ => fun
  | [d1, d2, d3] => { results := [.lit (.bool true)], args := [d1, d2, d3] }
  | _ => none }
def fnExactApplyOpsRow : OpenClaim := { program := "ytdieekgihdikdaa", sum := "d1198dc10a2ad60fb4963c1b3e7f6cf66d265479199d0396794b37ad74a1ea28", func := "loop.example/g00849/laws.FnExactApplyOps", spec := "fnExactApplyOps", unfollowed := true, recurses := true, apart := false }
def FnExactApplyOpsSaid : Prop := fnExactApplyOpsRow.holds Try.pinned (OpenSpec.ofChange fnExactApplyOpsSpec)

/-- ITS FALSE NEIGHBOUR: 'it returns false'. Refute it at one input. -/
def fnExactApplyOpsWrong : ChangeSpec := { name := "fnExactApplyOps", fn := fun _ => fun
  | [d1, d2, d3] => { results := [.lit (.bool false)], args := [d1, d2, d3] }
  | _ => none }
def FnExactApplyOpsWrongFalsely : Prop := fnExactApplyOpsRow.holds Try.pinned (OpenSpec.ofChange fnExactApplyOpsWrong)

/-- 'laws.FnOpSame': WHATEVER THE INPUT: true; the input reads as it did. -/
def fnOpSameSpec : ChangeSpec := { name := "fnOpSame", fn := fun _ => fun
  | [d1, d2] => { results := [.lit (.bool true)], args := [d1, d2] }
  | _ => none }
def fnOpSameRow : OpenClaim := { program := "ytdieekgihdikdaa", sum := "d1198dc10a2ad60fb4963c1b3e7f6cf66d265479199d0396794b37ad74a1ea28", func := "loop.example/g00849/laws.FnOpSame", spec := "fnOpSame", unfollowed := true, recurses := true, apart := false }
def FnOpSameSaid : Prop := fnOpSameRow.holds Try.pinned (OpenSpec.ofChange fnOpSameSpec)

/-- ITS FALSE NEIGHBOUR: 'it returns false'. Refute it at one input. -/
def fnOpSameWrong : ChangeSpec := { name := "fnOpSame", fn := fun _ => fun
  | [d1, d2] => { results := [.lit (.bool false)], args := [d1, d2] }
  | _ => none }
def FnOpSameWrongFalsely : Prop := fnOpSameRow.holds Try.pinned (OpenSpec.ofChange fnOpSameWrong)

/- THE SECOND FORM. 'bulk': how many values and letters a reading holds, each counted each time it is reached (what is shared counts as often as it is met; a slice's spare places count too). A statement '..UptoSaid' is the law's where the arguments, and the package variables that the reading takes, are together of bulk at most 1048576: NARROWER than '..Said'. Prove '..Said' where nothing that the law and all that it calls make is longer than what came in: it says more and counts as full. Else prove '..UptoSaid'. A law counts once. -/
mutual
def uptoBulk {H : Type} : DataW H → Nat
  | .lit (.string bytes) => bytes.length + 1
  | .lit _ => 1
  | .nil => 1
  | .ptr d => uptoBulk d + 1
  | .slice elems spare => uptoBulkAll elems + uptoBulkAll spare + 1
  | .agg parts => uptoBulkAll parts + 1
  | .iface _ d => uptoBulk d + 1
  | .map entries => uptoBulkEntries entries + 1
  | .held _ => 1
def uptoBulkAll {H : Type} : List (DataW H) → Nat
  | [] => 0
  | d :: r => uptoBulk d + uptoBulkAll r
def uptoBulkEntries {H : Type} : List (Lit × DataW H) → Nat
  | [] => 0
  | x :: r => uptoBulkEntry x + uptoBulkEntries r
def uptoBulkEntry {H : Type} : Lit × DataW H → Nat
  | (.string bytes, d) => bytes.length + uptoBulk d + 1
  | (_, d) => uptoBulk d + 1
 end
def uptoSmall : (H : Type) → List (DataW H) → Bool := fun _ ds => decide (uptoBulkAll ds ≤ 1048576)
def OpenSpec.upto (s : _root_.Go.ChangeSpec) : _root_.Go.OpenSpec := { _root_.Go.OpenSpec.ofChange s with cond := some uptoSmall }

/-- 'laws.FnExactGetOp', WHERE WHAT IT READS IS OF BULK AT MOST 1048576: true; the input reads as it did. -/
def fnExactGetOpUptoRow : OpenClaim := { program := "ytdieekgihdikdaa", sum := "d1198dc10a2ad60fb4963c1b3e7f6cf66d265479199d0396794b37ad74a1ea28", func := "loop.example/g00849/laws.FnExactGetOp", spec := "fnExactGetOp", apart := false, narrowed := true }
def FnExactGetOpUptoSaid : Prop := fnExactGetOpUptoRow.holds Try.pinned (OpenSpec.upto fnExactGetOpSpec)

/-- 'laws.FnExactPowerLoss', WHERE WHAT IT READS IS OF BULK AT MOST 1048576: true; the input reads as it did. -/
def fnExactPowerLossUptoRow : OpenClaim := { program := "ytdieekgihdikdaa", sum := "d1198dc10a2ad60fb4963c1b3e7f6cf66d265479199d0396794b37ad74a1ea28", func := "loop.example/g00849/laws.FnExactPowerLoss", spec := "fnExactPowerLoss", unfollowed := true, recurses := true, apart := false, narrowed := true }
def FnExactPowerLossUptoSaid : Prop := fnExactPowerLossUptoRow.holds Try.pinned (OpenSpec.upto fnExactPowerLossSpec)

/-- 'laws.FnExactMatRows', WHERE WHAT IT READS IS OF BULK AT MOST 1048576: true; the input reads as it did. -/
def fnExactMatRowsUptoRow : OpenClaim := { program := "ytdieekgihdikdaa", sum := "d1198dc10a2ad60fb4963c1b3e7f6cf66d265479199d0396794b37ad74a1ea28", func := "loop.example/g00849/laws.FnExactMatRows", spec := "fnExactMatRows", apart := false, narrowed := true }
def FnExactMatRowsUptoSaid : Prop := fnExactMatRowsUptoRow.holds Try.pinned (OpenSpec.upto fnExactMatRowsSpec)

/-- 'laws.FnExactApplyOps', WHERE WHAT IT READS IS OF BULK AT MOST 1048576: true; the input reads as it did. -/
def fnExactApplyOpsUptoRow : OpenClaim := { program := "ytdieekgihdikdaa", sum := "d1198dc10a2ad60fb4963c1b3e7f6cf66d265479199d0396794b37ad74a1ea28", func := "loop.example/g00849/laws.FnExactApplyOps", spec := "fnExactApplyOps", unfollowed := true, recurses := true, apart := false, narrowed := true }
def FnExactApplyOpsUptoSaid : Prop := fnExactApplyOpsUptoRow.holds Try.pinned (OpenSpec.upto fnExactApplyOpsSpec)

/-- 'laws.FnOpSame', WHERE WHAT IT READS IS OF BULK AT MOST 1048576: true; the input reads as it did. -/
def fnOpSameUptoRow : OpenClaim := { program := "ytdieekgihdikdaa", sum := "d1198dc10a2ad60fb4963c1b3e7f6cf66d265479199d0396794b37ad74a1ea28", func := "loop.example/g00849/laws.FnOpSame", spec := "fnOpSame", unfollowed := true, recurses := true, apart := false, narrowed := true }
def FnOpSameUptoSaid : Prop := fnOpSameUptoRow.holds Try.pinned (OpenSpec.upto fnOpSameSpec)

end Rows
end Go.Proofs.Ytdieekgihdikdaa
