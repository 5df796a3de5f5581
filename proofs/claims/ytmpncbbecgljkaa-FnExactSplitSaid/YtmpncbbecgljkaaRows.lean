/-
  No cell of these rows narrows 'for every input' (looked for: loops, veiled, ifaces, maps, wideKeys, modest, calm, conditions, laid).
  DERIVED. THE GIVEN ROWS OF THIS SEAT. 4 by the template 'for every input the law returns true; each argument reads behind the call as it read before'; 0 by the template 'total and deterministic' (their statements: YtmpncbbecgljkaaTotals.lean).
  GIVEN WITH THE SEED: the statements are not yours to turn. If you find one false, say at which input.
  Laid BY PROGRAM, IN A SANDBOX (cutbox-rows.mjs): the forced cells as the released guide's own fill.sh prints them over the translation 4ac4071a6b542de3… (all of the seat's roots in one cut). By AI agents, Wed Nov 11 2026. No macro, syntax, notation, axiom, sorry.
-/
import Derived.Test.YtmpncbbecgljkaaChecked
import GoSem.Claim
import GoSem.ClaimJoined
import GoSem.ClaimMapViews
import Derived.JoinedTies
import Derived.KernelRfl
namespace Go.Proofs.Ytmpncbbecgljkaa
/- THE CELL 'sum', in the pinned program and in every row, IS THE sha256 OF THE DUMP (.gsa) THAT YtmpncbbecgljkaaProg.lean LOADS. Nothing in Lean hashes anything: it is a label: what it is worth is what the hold of that sum in a sandbox is worth. -/
noncomputable def Try.pinned : Pinned := { name := "ytmpncbbecgljkaa", sum := "4ac4071a6b542de3662a12231604861593d373ea95ab17e3e3ced7521624e6d4", checked := Try.checked }
namespace Rows
def none {H : Type} : Left H := { results := [], args := [] }

/-- 'laws.FnExactSeedOf': WHATEVER THE INPUT: true; the input reads as it did. -/
def fnExactSeedOfSpec : ChangeSpec := { name := "fnExactSeedOf", fn := fun _ => fun
  | [d] => { results := [.lit (.bool true)], args := [d] }
  | _ => none }
def fnExactSeedOfRow : OpenClaim := { program := "ytmpncbbecgljkaa", sum := "4ac4071a6b542de3662a12231604861593d373ea95ab17e3e3ced7521624e6d4", func := "loop.example/g00849/laws.FnExactSeedOf", spec := "fnExactSeedOf", apart := false }
def FnExactSeedOfSaid : Prop := fnExactSeedOfRow.holds Try.pinned (OpenSpec.ofChange fnExactSeedOfSpec)

/-- ITS FALSE NEIGHBOUR: 'it returns false'. Refute it at one input. -/
def fnExactSeedOfWrong : ChangeSpec := { name := "fnExactSeedOf", fn := fun _ => fun
  | [d] => { results := [.lit (.bool false)], args := [d] }
  | _ => none }
def FnExactSeedOfWrongFalsely : Prop := fnExactSeedOfRow.holds Try.pinned (OpenSpec.ofChange fnExactSeedOfWrong)

/-- 'laws.FnExactSplit': WHATEVER THE INPUT: true; the input reads as it did. -/
def fnExactSplitSpec : ChangeSpec := { name := "fnExactSplit", fn := fun _ => fun
  | [d] => { results := [.lit (.bool true)], args := [d] }
  | _ => none }
def fnExactSplitRow : OpenClaim := { program := "ytmpncbbecgljkaa", sum := "4ac4071a6b542de3662a12231604861593d373ea95ab17e3e3ced7521624e6d4", func := "loop.example/g00849/laws.FnExactSplit", spec := "fnExactSplit", apart := false }
def FnExactSplitSaid : Prop := fnExactSplitRow.holds Try.pinned (OpenSpec.ofChange fnExactSplitSpec)

/-- ITS FALSE NEIGHBOUR: 'it returns false'. Refute it at one input. -/
def fnExactSplitWrong : ChangeSpec := { name := "fnExactSplit", fn := fun _ => fun
  | [d] => { results := [.lit (.bool false)], args := [d] }
  | _ => none }
def FnExactSplitWrongFalsely : Prop := fnExactSplitRow.holds Try.pinned (OpenSpec.ofChange fnExactSplitWrong)

/-- 'laws.FnExactPoolOk': WHATEVER THE INPUT: true; the input reads as it did. -/
def fnExactPoolOkSpec : ChangeSpec := { name := "fnExactPoolOk", fn := fun _ => fun
  | [d] => { results := [.lit (.bool true)], args := [d] }
  | _ => none }
def fnExactPoolOkRow : OpenClaim := { program := "ytmpncbbecgljkaa", sum := "4ac4071a6b542de3662a12231604861593d373ea95ab17e3e3ced7521624e6d4", func := "loop.example/g00849/laws.FnExactPoolOk", spec := "fnExactPoolOk", apart := false }
def FnExactPoolOkSaid : Prop := fnExactPoolOkRow.holds Try.pinned (OpenSpec.ofChange fnExactPoolOkSpec)

/-- ITS FALSE NEIGHBOUR: 'it returns false'. Refute it at one input. -/
def fnExactPoolOkWrong : ChangeSpec := { name := "fnExactPoolOk", fn := fun _ => fun
  | [d] => { results := [.lit (.bool false)], args := [d] }
  | _ => none }
def FnExactPoolOkWrongFalsely : Prop := fnExactPoolOkRow.holds Try.pinned (OpenSpec.ofChange fnExactPoolOkWrong)

/-- 'laws.FnExactPgsIn': WHATEVER THE INPUT: true; the input reads as it did. -/
def fnExactPgsInSpec : ChangeSpec := { name := "fnExactPgsIn", fn := fun _ => fun
  | [d] => { results := [.lit (.bool true)], args := [d] }
  | _ => none }
def fnExactPgsInRow : OpenClaim := { program := "ytmpncbbecgljkaa", sum := "4ac4071a6b542de3662a12231604861593d373ea95ab17e3e3ced7521624e6d4", func := "loop.example/g00849/laws.FnExactPgsIn", spec := "fnExactPgsIn", apart := false }
def FnExactPgsInSaid : Prop := fnExactPgsInRow.holds Try.pinned (OpenSpec.ofChange fnExactPgsInSpec)

/-- ITS FALSE NEIGHBOUR: 'it returns false'. Refute it at one input. -/
def fnExactPgsInWrong : ChangeSpec := { name := "fnExactPgsIn", fn := fun _ => fun
  | [d] => { results := [.lit (.bool false)], args := [d] }
  | _ => none }
def FnExactPgsInWrongFalsely : Prop := fnExactPgsInRow.holds Try.pinned (OpenSpec.ofChange fnExactPgsInWrong)

/- THE SECOND FORM. 'bulk': how many values and letters a reading holds, each counted each time it is reached (what is shared counts as often as it is met; a slice's spare places count too). A statement '..UptoSaid' is the law's where the arguments, and the package variables that the reading takes, are together of bulk at most 1048576: NARROWER than '..Said'. Prove '..Said' where nothing that the law and all that it calls make is longer than what came in: it says more and counts as full. Else prove '..UptoSaid'. A law counts once. -/
mutual
def uptoBulk {H : Type} : DataW H → Nat
  | .lit (.string bytes) => bytes.length + 1
  | .lit _ => 1
  | .nil => 1
  | .ptr d => uptoBulk d + 1
  | .slice elems spare => uptoBulkAll elems + uptoBulkAll spare + 1
  | .agg parts => uptoBulkAll parts + 1
  | .iface _ d => uptoBulk d + 1
  | .map entries => uptoBulkEntries entries + 1
  | .held _ => 1
def uptoBulkAll {H : Type} : List (DataW H) → Nat
  | [] => 0
  | d :: r => uptoBulk d + uptoBulkAll r
def uptoBulkEntries {H : Type} : List (Lit × DataW H) → Nat
  | [] => 0
  | x :: r => uptoBulkEntry x + uptoBulkEntries r
def uptoBulkEntry {H : Type} : Lit × DataW H → Nat
  | (.string bytes, d) => bytes.length + uptoBulk d + 1
  | (_, d) => uptoBulk d + 1
 end
def uptoSmall : (H : Type) → List (DataW H) → Bool := fun _ ds => decide (uptoBulkAll ds ≤ 1048576)
def OpenSpec.upto (s : _root_.Go.ChangeSpec) : _root_.Go.OpenSpec := { _root_.Go.OpenSpec.ofChange s with cond := some uptoSmall }

/-- 'laws.FnExactSeedOf', WHERE WHAT IT READS IS OF BULK AT MOST 1048576: true; the input reads as it did. -/
def fnExactSeedOfUptoRow : OpenClaim := { program := "ytmpncbbecgljkaa", sum := "4ac4071a6b542de3662a12231604861593d373ea95ab17e3e3ced7521624e6d4", func := "loop.example/g00849/laws.FnExactSeedOf", spec := "fnExactSeedOf", apart := false, narrowed := true }
def FnExactSeedOfUptoSaid : Prop := fnExactSeedOfUptoRow.holds Try.pinned (OpenSpec.upto fnExactSeedOfSpec)

/-- 'laws.FnExactSplit', WHERE WHAT IT READS IS OF BULK AT MOST 1048576: true; the input reads as it did. -/
def fnExactSplitUptoRow : OpenClaim := { program := "ytmpncbbecgljkaa", sum := "4ac4071a6b542de3662a12231604861593d373ea95ab17e3e3ced7521624e6d4", func := "loop.example/g00849/laws.FnExactSplit", spec := "fnExactSplit", apart := false, narrowed := true }
def FnExactSplitUptoSaid : Prop := fnExactSplitUptoRow.holds Try.pinned (OpenSpec.upto fnExactSplitSpec)

/-- 'laws.FnExactPoolOk', WHERE WHAT IT READS IS OF BULK AT MOST 1048576: true; the input reads as it did. -/
def fnExactPoolOkUptoRow : OpenClaim := { program := "ytmpncbbecgljkaa", sum := "4ac4071a6b542de3662a12231604861593d373ea95ab17e3e3ced7521624e6d4", func := "loop.example/g00849/laws.FnExactPoolOk", spec := "fnExactPoolOk", apart := false, narrowed := true }
def FnExactPoolOkUptoSaid : Prop := fnExactPoolOkUptoRow.holds Try.pinned (OpenSpec.upto fnExactPoolOkSpec)

/-- 'laws.FnExactPgsIn', WHERE WHAT IT READS IS OF BULK AT MOST 1048576: true; the input reads as it did. -/
def fnExactPgsInUptoRow : OpenClaim := { program := "ytmpncbbecgljkaa", sum := "4ac4071a6b542de3662a12231604861593d373ea95ab17e3e3ced7521624e6d4", func := "loop.example/g00849/laws.FnExactPgsIn", spec := "fnExactPgsIn", apart := false, narrowed := true }
def FnExactPgsInUptoSaid : Prop := fnExactPgsInUptoRow.holds Try.pinned (OpenSpec.upto fnExactPgsInSpec)

end Rows
end Go.Proofs.Ytmpncbbecgljkaa
