/-
  No cell of these rows narrows 'for every input' (looked for: loops, veiled, ifaces, maps, wideKeys, modest, calm, conditions, laid).
  DERIVED. THE GIVEN ROWS OF THIS SEAT. 9 by the template 'for every input the law returns true; each argument reads behind the call as it read before'; 0 by the template 'total and deterministic' (their statements: YtigaoimnhebegaaTotals.lean).
  GIVEN WITH THE SEED: the statements are not yours to turn. If you find one false, say at which input.
  Laid BY PROGRAM, IN A SANDBOX (cutbox-rows.mjs): the forced cells as the released guide's own fill.sh prints them over the translation ec7c8ebfd16fc1c3… (all of the seat's roots in one cut). By AI agents, Wed Nov 11 2026. No macro, syntax, notation, axiom, sorry.
-/
import Derived.Test.YtigaoimnhebegaaChecked
import GoSem.Claim
import GoSem.ClaimJoined
import GoSem.ClaimMapViews
import Derived.JoinedTies
import Derived.KernelRfl
namespace Go.Proofs.Ytigaoimnhebegaa
/- THE CELL 'sum', in the pinned program and in every row, IS THE sha256 OF THE DUMP (.gsa) THAT YtigaoimnhebegaaProg.lean LOADS. Nothing in Lean hashes anything: it is a label: what it is worth is what the hold of that sum in a sandbox is worth. -/
noncomputable def Try.pinned : Pinned := { name := "ytigaoimnhebegaa", sum := "ec7c8ebfd16fc1c38a86004ac1a27e59edfc3aa823510f2dca7179a162b7206a", checked := Try.checked }
namespace Rows
def none {H : Type} : Left H := { results := [], args := [] }

/-- 'laws.FnExactRuleOk': WHATEVER THE INPUT: true; the input reads as it did. -/
def fnExactRuleOkSpec : ChangeSpec := { name := "fnExactRuleOk", fn := fun _ => fun
  | [d1, d2] => { results := [.lit (.bool true)], args := [d1, d2] }
  | _ => none }
def fnExactRuleOkRow : OpenClaim := { program := "ytigaoimnhebegaa", sum := "ec7c8ebfd16fc1c38a86004ac1a27e59edfc3aa823510f2dca7179a162b7206a", func := "loop.example/g00849/laws.FnExactRuleOk", spec := "fnExactRuleOk", unfollowed := true, recurses := true, plainKeys := false, apart := false }
def FnExactRuleOkSaid : Prop := fnExactRuleOkRow.holds Try.pinned (OpenSpec.ofChange fnExactRuleOkSpec)

/-- ITS FALSE NEIGHBOUR: 'it returns false'. Refute it at one input. -/
def fnExactRuleOkWrong : ChangeSpec := { name := "fnExactRuleOk", fn := fun _ => fun
  | [d1, d2] => { results := [.lit (.bool false)], args := [d1, d2] }
  | _ => none }
def FnExactRuleOkWrongFalsely : Prop := fnExactRuleOkRow.holds Try.pinned (OpenSpec.ofChange fnExactRuleOkWrong)

/-- 'laws.FnExactCanPlace': WHATEVER THE INPUT: true; the input reads as it did. -/
def fnExactCanPlaceSpec : ChangeSpec := { name := "fnExactCanPlace", fn := fun _ => fun
  | [d1, d2, d3] => { results := [.lit (.bool true)], args := [d1, d2, d3] }
  | _ => none }
def fnExactCanPlaceRow : OpenClaim := { program := "ytigaoimnhebegaa", sum := "ec7c8ebfd16fc1c38a86004ac1a27e59edfc3aa823510f2dca7179a162b7206a", func := "loop.example/g00849/laws.FnExactCanPlace", spec := "fnExactCanPlace", unfollowed := true, recurses := true, plainKeys := false, apart := false }
def FnExactCanPlaceSaid : Prop := fnExactCanPlaceRow.holds Try.pinned (OpenSpec.ofChange fnExactCanPlaceSpec)

/-- ITS FALSE NEIGHBOUR: 'it returns false'. Refute it at one input. -/
def fnExactCanPlaceWrong : ChangeSpec := { name := "fnExactCanPlace", fn := fun _ => fun
  | [d1, d2, d3] => { results := [.lit (.bool false)], args := [d1, d2, d3] }
  | _ => none }
def FnExactCanPlaceWrongFalsely : Prop := fnExactCanPlaceRow.holds Try.pinned (OpenSpec.ofChange fnExactCanPlaceWrong)

/-- 'laws.FnExactSameTree': WHATEVER THE INPUT: true; the input reads as it did. -/
def fnExactSameTreeSpec : ChangeSpec := { name := "fnExactSameTree", fn := fun _ => fun
  | [d1, d2] => { results := [.lit (.bool true)], args := [d1, d2] }
  | _ => none }
def fnExactSameTreeRow : OpenClaim := { program := "ytigaoimnhebegaa", sum := "ec7c8ebfd16fc1c38a86004ac1a27e59edfc3aa823510f2dca7179a162b7206a", func := "loop.example/g00849/laws.FnExactSameTree", spec := "fnExactSameTree", unfollowed := true, recurses := true, plainKeys := false, apart := false }
def FnExactSameTreeSaid : Prop := fnExactSameTreeRow.holds Try.pinned (OpenSpec.ofChange fnExactSameTreeSpec)

/-- ITS FALSE NEIGHBOUR: 'it returns false'. Refute it at one input. -/
def fnExactSameTreeWrong : ChangeSpec := { name := "fnExactSameTree", fn := fun _ => fun
  | [d1, d2] => { results := [.lit (.bool false)], args := [d1, d2] }
  | _ => none }
def FnExactSameTreeWrongFalsely : Prop := fnExactSameTreeRow.holds Try.pinned (OpenSpec.ofChange fnExactSameTreeWrong)

/-- 'laws.FnExactSameMap': WHATEVER THE INPUT: true; the input reads as it did. -/
def fnExactSameMapSpec : ChangeSpec := { name := "fnExactSameMap", fn := fun _ => fun
  | [d1, d2] => { results := [.lit (.bool true)], args := [d1, d2] }
  | _ => none }
def fnExactSameMapRow : OpenClaim := { program := "ytigaoimnhebegaa", sum := "ec7c8ebfd16fc1c38a86004ac1a27e59edfc3aa823510f2dca7179a162b7206a", func := "loop.example/g00849/laws.FnExactSameMap", spec := "fnExactSameMap", unfollowed := true, recurses := true, plainKeys := false, apart := false }
def FnExactSameMapSaid : Prop := fnExactSameMapRow.holds Try.pinned (OpenSpec.ofChange fnExactSameMapSpec)

/-- ITS FALSE NEIGHBOUR: 'it returns false'. Refute it at one input. -/
def fnExactSameMapWrong : ChangeSpec := { name := "fnExactSameMap", fn := fun _ => fun
  | [d1, d2] => { results := [.lit (.bool false)], args := [d1, d2] }
  | _ => none }
def FnExactSameMapWrongFalsely : Prop := fnExactSameMapRow.holds Try.pinned (OpenSpec.ofChange fnExactSameMapWrong)

/-- 'laws.FnExactExceptsOk': WHATEVER THE INPUT: true; the input reads as it did. -/
def fnExactExceptsOkSpec : ChangeSpec := { name := "fnExactExceptsOk", fn := fun _ => fun
  | [d] => { results := [.lit (.bool true)], args := [d] }
  | _ => none }
def fnExactExceptsOkRow : OpenClaim := { program := "ytigaoimnhebegaa", sum := "ec7c8ebfd16fc1c38a86004ac1a27e59edfc3aa823510f2dca7179a162b7206a", func := "loop.example/g00849/laws.FnExactExceptsOk", spec := "fnExactExceptsOk", unfollowed := true, recurses := true, plainKeys := false, apart := false }
def FnExactExceptsOkSaid : Prop := fnExactExceptsOkRow.holds Try.pinned (OpenSpec.ofChange fnExactExceptsOkSpec)

/-- ITS FALSE NEIGHBOUR: 'it returns false'. Refute it at one input. -/
def fnExactExceptsOkWrong : ChangeSpec := { name := "fnExactExceptsOk", fn := fun _ => fun
  | [d] => { results := [.lit (.bool false)], args := [d] }
  | _ => none }
def FnExactExceptsOkWrongFalsely : Prop := fnExactExceptsOkRow.holds Try.pinned (OpenSpec.ofChange fnExactExceptsOkWrong)

/-- 'laws.FnExactSpread': WHATEVER THE INPUT: true; the input reads as it did. -/
def fnExactSpreadSpec : ChangeSpec := { name := "fnExactSpread", fn := fun _ => fun
  | [d1, d2] => { results := [.lit (.bool true)], args := [d1, d2] }
  | _ => none }
def fnExactSpreadRow : OpenClaim := { program := "ytigaoimnhebegaa", sum := "ec7c8ebfd16fc1c38a86004ac1a27e59edfc3aa823510f2dca7179a162b7206a", func := "loop.example/g00849/laws.FnExactSpread", spec := "fnExactSpread", unfollowed := true, recurses := true, plainKeys := false, apart := false }
def FnExactSpreadSaid : Prop := fnExactSpreadRow.holds Try.pinned (OpenSpec.ofChange fnExactSpreadSpec)

/-- ITS FALSE NEIGHBOUR: 'it returns false'. Refute it at one input. -/
def fnExactSpreadWrong : ChangeSpec := { name := "fnExactSpread", fn := fun _ => fun
  | [d1, d2] => { results := [.lit (.bool false)], args := [d1, d2] }
  | _ => none }
def FnExactSpreadWrongFalsely : Prop := fnExactSpreadRow.holds Try.pinned (OpenSpec.ofChange fnExactSpreadWrong)

/-- 'laws.FnExactLoads': WHATEVER THE INPUT: true; the input reads as it did. -/
def fnExactLoadsSpec : ChangeSpec := { name := "fnExactLoads", fn := fun _ => fun
  | [d1, d2] => { results := [.lit (.bool true)], args := [d1, d2] }
  | _ => none }
def fnExactLoadsRow : OpenClaim := { program := "ytigaoimnhebegaa", sum := "ec7c8ebfd16fc1c38a86004ac1a27e59edfc3aa823510f2dca7179a162b7206a", func := "loop.example/g00849/laws.FnExactLoads", spec := "fnExactLoads", unfollowed := true, recurses := true, plainKeys := false, apart := false }
def FnExactLoadsSaid : Prop := fnExactLoadsRow.holds Try.pinned (OpenSpec.ofChange fnExactLoadsSpec)

/-- ITS FALSE NEIGHBOUR: 'it returns false'. Refute it at one input. -/
def fnExactLoadsWrong : ChangeSpec := { name := "fnExactLoads", fn := fun _ => fun
  | [d1, d2] => { results := [.lit (.bool false)], args := [d1, d2] }
  | _ => none }
def FnExactLoadsWrongFalsely : Prop := fnExactLoadsRow.holds Try.pinned (OpenSpec.ofChange fnExactLoadsWrong)

/-- 'laws.FnExactSetWeight': WHATEVER THE INPUT: true; the input reads as it did. -/
def fnExactSetWeightSpec : ChangeSpec := { name := "fnExactSetWeight", fn := fun _ => fun
  | [d1, d2, d3] => { results := [.lit (.bool true)], args := [d1, d2, d3] }
  | _ => none }
def fnExactSetWeightRow : OpenClaim := { program := "ytigaoimnhebegaa", sum := "ec7c8ebfd16fc1c38a86004ac1a27e59edfc3aa823510f2dca7179a162b7206a", func := "loop.example/g00849/laws.FnExactSetWeight", spec := "fnExactSetWeight", unfollowed := true, recurses := true, plainKeys := false, apart := false }
def FnExactSetWeightSaid : Prop := fnExactSetWeightRow.holds Try.pinned (OpenSpec.ofChange fnExactSetWeightSpec)

/-- ITS FALSE NEIGHBOUR: 'it returns false'. Refute it at one input. -/
def fnExactSetWeightWrong : ChangeSpec := { name := "fnExactSetWeight", fn := fun _ => fun
  | [d1, d2, d3] => { results := [.lit (.bool false)], args := [d1, d2, d3] }
  | _ => none }
def FnExactSetWeightWrongFalsely : Prop := fnExactSetWeightRow.holds Try.pinned (OpenSpec.ofChange fnExactSetWeightWrong)

/-- 'laws.FnExactPoolIn': WHATEVER THE INPUT: true; the input reads as it did. -/
def fnExactPoolInSpec : ChangeSpec := { name := "fnExactPoolIn", fn := fun _ => fun
  | [d1, d2] => { results := [.lit (.bool true)], args := [d1, d2] }
  | _ => none }
def fnExactPoolInRow : OpenClaim := { program := "ytigaoimnhebegaa", sum := "ec7c8ebfd16fc1c38a86004ac1a27e59edfc3aa823510f2dca7179a162b7206a", func := "loop.example/g00849/laws.FnExactPoolIn", spec := "fnExactPoolIn", unfollowed := true, recurses := true, plainKeys := false, apart := false }
def FnExactPoolInSaid : Prop := fnExactPoolInRow.holds Try.pinned (OpenSpec.ofChange fnExactPoolInSpec)

/-- ITS FALSE NEIGHBOUR: 'it returns false'. Refute it at one input. -/
def fnExactPoolInWrong : ChangeSpec := { name := "fnExactPoolIn", fn := fun _ => fun
  | [d1, d2] => { results := [.lit (.bool false)], args := [d1, d2] }
  | _ => none }
def FnExactPoolInWrongFalsely : Prop := fnExactPoolInRow.holds Try.pinned (OpenSpec.ofChange fnExactPoolInWrong)

/- THE SECOND FORM. 'bulk': how many values and letters a reading holds, each counted each time it is reached (what is shared counts as often as it is met; a slice's spare places count too). A statement '..UptoSaid' is the law's where the arguments, and the package variables that the reading takes, are together of bulk at most 1048576: NARROWER than '..Said'. Prove '..Said' where nothing that the law and all that it calls make is longer than what came in: it says more and counts as full. Else prove '..UptoSaid'. A law counts once. -/
mutual
def uptoBulk {H : Type} : DataW H → Nat
  | .lit (.string bytes) => bytes.length + 1
  | .lit _ => 1
  | .nil => 1
  | .ptr d => uptoBulk d + 1
  | .slice elems spare => uptoBulkAll elems + uptoBulkAll spare + 1
  | .agg parts => uptoBulkAll parts + 1
  | .iface _ d => uptoBulk d + 1
  | .map entries => uptoBulkEntries entries + 1
  | .held _ => 1
def uptoBulkAll {H : Type} : List (DataW H) → Nat
  | [] => 0
  | d :: r => uptoBulk d + uptoBulkAll r
def uptoBulkEntries {H : Type} : List (Lit × DataW H) → Nat
  | [] => 0
  | x :: r => uptoBulkEntry x + uptoBulkEntries r
def uptoBulkEntry {H : Type} : Lit × DataW H → Nat
  | (.string bytes, d) => bytes.length + uptoBulk d + 1
  | (_, d) => uptoBulk d + 1
 end
def uptoSmall : (H : Type) → List (DataW H) → Bool := fun _ ds => decide (uptoBulkAll ds ≤ 1048576)
def OpenSpec.upto (s : _root_.Go.ChangeSpec) : _root_.Go.OpenSpec := { _root_.Go.OpenSpec.ofChange s with cond := some uptoSmall }

/-- 'laws.FnExactRuleOk', WHERE WHAT IT READS IS OF BULK AT MOST 1048576: true; the input reads as it did. -/
def fnExactRuleOkUptoRow : OpenClaim := { program := "ytigaoimnhebegaa", sum := "ec7c8ebfd16fc1c38a86004ac1a27e59edfc3aa823510f2dca7179a162b7206a", func := "loop.example/g00849/laws.FnExactRuleOk", spec := "fnExactRuleOk", unfollowed := true, recurses := true, plainKeys := false, apart := false, narrowed := true }
def FnExactRuleOkUptoSaid : Prop := fnExactRuleOkUptoRow.holds Try.pinned (OpenSpec.upto fnExactRuleOkSpec)

/-- 'laws.FnExactCanPlace', WHERE WHAT IT READS IS OF BULK AT MOST 1048576: true; the input reads as it did. -/
def fnExactCanPlaceUptoRow : OpenClaim := { program := "ytigaoimnhebegaa", sum := "ec7c8ebfd16fc1c38a86004ac1a27e59edfc3aa823510f2dca7179a162b7206a", func := "loop.example/g00849/laws.FnExactCanPlace", spec := "fnExactCanPlace", unfollowed := true, recurses := true, plainKeys := false, apart := false, narrowed := true }
def FnExactCanPlaceUptoSaid : Prop := fnExactCanPlaceUptoRow.holds Try.pinned (OpenSpec.upto fnExactCanPlaceSpec)

/-- 'laws.FnExactSameTree', WHERE WHAT IT READS IS OF BULK AT MOST 1048576: true; the input reads as it did. -/
def fnExactSameTreeUptoRow : OpenClaim := { program := "ytigaoimnhebegaa", sum := "ec7c8ebfd16fc1c38a86004ac1a27e59edfc3aa823510f2dca7179a162b7206a", func := "loop.example/g00849/laws.FnExactSameTree", spec := "fnExactSameTree", unfollowed := true, recurses := true, plainKeys := false, apart := false, narrowed := true }
def FnExactSameTreeUptoSaid : Prop := fnExactSameTreeUptoRow.holds Try.pinned (OpenSpec.upto fnExactSameTreeSpec)

/-- 'laws.FnExactSameMap', WHERE WHAT IT READS IS OF BULK AT MOST 1048576: true; the input reads as it did. -/
def fnExactSameMapUptoRow : OpenClaim := { program := "ytigaoimnhebegaa", sum := "ec7c8ebfd16fc1c38a86004ac1a27e59edfc3aa823510f2dca7179a162b7206a", func := "loop.example/g00849/laws.FnExactSameMap", spec := "fnExactSameMap", unfollowed := true, recurses := true, plainKeys := false, apart := false, narrowed := true }
def FnExactSameMapUptoSaid : Prop := fnExactSameMapUptoRow.holds Try.pinned (OpenSpec.upto fnExactSameMapSpec)

/-- 'laws.FnExactExceptsOk', WHERE WHAT IT READS IS OF BULK AT MOST 1048576: true; the input reads as it did. -/
def fnExactExceptsOkUptoRow : OpenClaim := { program := "ytigaoimnhebegaa", sum := "ec7c8ebfd16fc1c38a86004ac1a27e59edfc3aa823510f2dca7179a162b7206a", func := "loop.example/g00849/laws.FnExactExceptsOk", spec := "fnExactExceptsOk", unfollowed := true, recurses := true, plainKeys := false, apart := false, narrowed := true }
def FnExactExceptsOkUptoSaid : Prop := fnExactExceptsOkUptoRow.holds Try.pinned (OpenSpec.upto fnExactExceptsOkSpec)

/-- 'laws.FnExactSpread', WHERE WHAT IT READS IS OF BULK AT MOST 1048576: true; the input reads as it did. -/
def fnExactSpreadUptoRow : OpenClaim := { program := "ytigaoimnhebegaa", sum := "ec7c8ebfd16fc1c38a86004ac1a27e59edfc3aa823510f2dca7179a162b7206a", func := "loop.example/g00849/laws.FnExactSpread", spec := "fnExactSpread", unfollowed := true, recurses := true, plainKeys := false, apart := false, narrowed := true }
def FnExactSpreadUptoSaid : Prop := fnExactSpreadUptoRow.holds Try.pinned (OpenSpec.upto fnExactSpreadSpec)

/-- 'laws.FnExactLoads', WHERE WHAT IT READS IS OF BULK AT MOST 1048576: true; the input reads as it did. -/
def fnExactLoadsUptoRow : OpenClaim := { program := "ytigaoimnhebegaa", sum := "ec7c8ebfd16fc1c38a86004ac1a27e59edfc3aa823510f2dca7179a162b7206a", func := "loop.example/g00849/laws.FnExactLoads", spec := "fnExactLoads", unfollowed := true, recurses := true, plainKeys := false, apart := false, narrowed := true }
def FnExactLoadsUptoSaid : Prop := fnExactLoadsUptoRow.holds Try.pinned (OpenSpec.upto fnExactLoadsSpec)

/-- 'laws.FnExactSetWeight', WHERE WHAT IT READS IS OF BULK AT MOST 1048576: true; the input reads as it did. -/
def fnExactSetWeightUptoRow : OpenClaim := { program := "ytigaoimnhebegaa", sum := "ec7c8ebfd16fc1c38a86004ac1a27e59edfc3aa823510f2dca7179a162b7206a", func := "loop.example/g00849/laws.FnExactSetWeight", spec := "fnExactSetWeight", unfollowed := true, recurses := true, plainKeys := false, apart := false, narrowed := true }
def FnExactSetWeightUptoSaid : Prop := fnExactSetWeightUptoRow.holds Try.pinned (OpenSpec.upto fnExactSetWeightSpec)

/-- 'laws.FnExactPoolIn', WHERE WHAT IT READS IS OF BULK AT MOST 1048576: true; the input reads as it did. -/
def fnExactPoolInUptoRow : OpenClaim := { program := "ytigaoimnhebegaa", sum := "ec7c8ebfd16fc1c38a86004ac1a27e59edfc3aa823510f2dca7179a162b7206a", func := "loop.example/g00849/laws.FnExactPoolIn", spec := "fnExactPoolIn", unfollowed := true, recurses := true, plainKeys := false, apart := false, narrowed := true }
def FnExactPoolInUptoSaid : Prop := fnExactPoolInUptoRow.holds Try.pinned (OpenSpec.upto fnExactPoolInSpec)

end Rows
end Go.Proofs.Ytigaoimnhebegaa
