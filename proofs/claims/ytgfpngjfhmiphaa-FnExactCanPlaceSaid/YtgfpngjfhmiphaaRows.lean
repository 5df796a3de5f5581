/-
  No cell of these rows narrows 'for every input' (looked for: loops, veiled, ifaces, maps, wideKeys, modest, calm, conditions, laid).
  DERIVED. THE GIVEN ROWS OF THIS SEAT. 8 by the template 'for every input the law returns true; each argument reads behind the call as it read before'; 0 by the template 'total and deterministic' (their statements: YtgfpngjfhmiphaaTotals.lean).
  GIVEN WITH THE SEED: the statements are not yours to turn. If you find one false, say at which input.
  Laid BY PROGRAM, IN A SANDBOX (cutbox-rows.mjs): the forced cells as the released guide's own fill.sh prints them over the translation c93c2b1f6b202693… (all of the seat's roots in one cut). By AI agents, Wed Nov 11 2026. No macro, syntax, notation, axiom, sorry.
-/
import Derived.Test.YtgfpngjfhmiphaaChecked
import GoSem.Claim
import GoSem.ClaimJoined
import GoSem.ClaimMapViews
import Derived.JoinedTies
import Derived.KernelRfl
namespace Go.Proofs.Ytgfpngjfhmiphaa
/- THE CELL 'sum', in the pinned program and in every row, IS THE sha256 OF THE DUMP (.gsa) THAT YtgfpngjfhmiphaaProg.lean LOADS. Nothing in Lean hashes anything: it is a label: what it is worth is what the hold of that sum in a sandbox is worth. -/
noncomputable def Try.pinned : Pinned := { name := "ytgfpngjfhmiphaa", sum := "c93c2b1f6b20269301447696793fde8c514b26ecd3489ef3f14aae445d221952", checked := Try.checked }
namespace Rows
def none {H : Type} : Left H := { results := [], args := [] }

/-- 'laws.FnExactNodesUnder': WHATEVER THE INPUT: true; the input reads as it did. -/
def fnExactNodesUnderSpec : ChangeSpec := { name := "fnExactNodesUnder", fn := fun _ => fun
  | [d1, d2] => { results := [.lit (.bool true)], args := [d1, d2] }
  | _ => none }
def fnExactNodesUnderRow : OpenClaim := { program := "ytgfpngjfhmiphaa", sum := "c93c2b1f6b20269301447696793fde8c514b26ecd3489ef3f14aae445d221952", func := "loop.example/g00849/laws.FnExactNodesUnder", spec := "fnExactNodesUnder", unfollowed := true, recurses := true, apart := false }
def FnExactNodesUnderSaid : Prop := fnExactNodesUnderRow.holds Try.pinned (OpenSpec.ofChange fnExactNodesUnderSpec)

/-- ITS FALSE NEIGHBOUR: 'it returns false'. Refute it at one input. -/
def fnExactNodesUnderWrong : ChangeSpec := { name := "fnExactNodesUnder", fn := fun _ => fun
  | [d1, d2] => { results := [.lit (.bool false)], args := [d1, d2] }
  | _ => none }
def FnExactNodesUnderWrongFalsely : Prop := fnExactNodesUnderRow.holds Try.pinned (OpenSpec.ofChange fnExactNodesUnderWrong)

/-- 'laws.FnExactSetWeight': WHATEVER THE INPUT: true; the input reads as it did. -/
def fnExactSetWeightSpec : ChangeSpec := { name := "fnExactSetWeight", fn := fun _ => fun
  | [d1, d2, d3] => { results := [.lit (.bool true)], args := [d1, d2, d3] }
  | _ => none }
def fnExactSetWeightRow : OpenClaim := { program := "ytgfpngjfhmiphaa", sum := "c93c2b1f6b20269301447696793fde8c514b26ecd3489ef3f14aae445d221952", func := "loop.example/g00849/laws.FnExactSetWeight", spec := "fnExactSetWeight", unfollowed := true, recurses := true, apart := false }
def FnExactSetWeightSaid : Prop := fnExactSetWeightRow.holds Try.pinned (OpenSpec.ofChange fnExactSetWeightSpec)

/-- ITS FALSE NEIGHBOUR: 'it returns false'. Refute it at one input. -/
def fnExactSetWeightWrong : ChangeSpec := { name := "fnExactSetWeight", fn := fun _ => fun
  | [d1, d2, d3] => { results := [.lit (.bool false)], args := [d1, d2, d3] }
  | _ => none }
def FnExactSetWeightWrongFalsely : Prop := fnExactSetWeightRow.holds Try.pinned (OpenSpec.ofChange fnExactSetWeightWrong)

/-- 'laws.FnExactChooseIn': WHATEVER THE INPUT: true; the input reads as it did. -/
def fnExactChooseInSpec : ChangeSpec := { name := "fnExactChooseIn", fn := fun _ => fun
  | [d1, d2, d3, d4] => { results := [.lit (.bool true)], args := [d1, d2, d3, d4] }
  | _ => none }
def fnExactChooseInRow : OpenClaim := { program := "ytgfpngjfhmiphaa", sum := "c93c2b1f6b20269301447696793fde8c514b26ecd3489ef3f14aae445d221952", func := "loop.example/g00849/laws.FnExactChooseIn", spec := "fnExactChooseIn", unfollowed := true, recurses := true, apart := false }
def FnExactChooseInSaid : Prop := fnExactChooseInRow.holds Try.pinned (OpenSpec.ofChange fnExactChooseInSpec)

/-- ITS FALSE NEIGHBOUR: 'it returns false'. Refute it at one input. -/
def fnExactChooseInWrong : ChangeSpec := { name := "fnExactChooseIn", fn := fun _ => fun
  | [d1, d2, d3, d4] => { results := [.lit (.bool false)], args := [d1, d2, d3, d4] }
  | _ => none }
def FnExactChooseInWrongFalsely : Prop := fnExactChooseInRow.holds Try.pinned (OpenSpec.ofChange fnExactChooseInWrong)

/-- 'laws.FnExactDescend': WHATEVER THE INPUT: true; the input reads as it did. -/
def fnExactDescendSpec : ChangeSpec := { name := "fnExactDescend", fn := fun _ => fun
  | [d1, d2, d3, d4, d5] => { results := [.lit (.bool true)], args := [d1, d2, d3, d4, d5] }
  | _ => none }
def fnExactDescendRow : OpenClaim := { program := "ytgfpngjfhmiphaa", sum := "c93c2b1f6b20269301447696793fde8c514b26ecd3489ef3f14aae445d221952", func := "loop.example/g00849/laws.FnExactDescend", spec := "fnExactDescend", unfollowed := true, recurses := true, apart := false }
def FnExactDescendSaid : Prop := fnExactDescendRow.holds Try.pinned (OpenSpec.ofChange fnExactDescendSpec)

/-- ITS FALSE NEIGHBOUR: 'it returns false'. Refute it at one input. -/
def fnExactDescendWrong : ChangeSpec := { name := "fnExactDescend", fn := fun _ => fun
  | [d1, d2, d3, d4, d5] => { results := [.lit (.bool false)], args := [d1, d2, d3, d4, d5] }
  | _ => none }
def FnExactDescendWrongFalsely : Prop := fnExactDescendRow.holds Try.pinned (OpenSpec.ofChange fnExactDescendWrong)

/-- 'laws.FnExactCanPlace': WHATEVER THE INPUT: true; the input reads as it did. -/
def fnExactCanPlaceSpec : ChangeSpec := { name := "fnExactCanPlace", fn := fun _ => fun
  | [d1, d2, d3] => { results := [.lit (.bool true)], args := [d1, d2, d3] }
  | _ => none }
def fnExactCanPlaceRow : OpenClaim := { program := "ytgfpngjfhmiphaa", sum := "c93c2b1f6b20269301447696793fde8c514b26ecd3489ef3f14aae445d221952", func := "loop.example/g00849/laws.FnExactCanPlace", spec := "fnExactCanPlace", unfollowed := true, recurses := true, apart := false }
def FnExactCanPlaceSaid : Prop := fnExactCanPlaceRow.holds Try.pinned (OpenSpec.ofChange fnExactCanPlaceSpec)

/-- ITS FALSE NEIGHBOUR: 'it returns false'. Refute it at one input. -/
def fnExactCanPlaceWrong : ChangeSpec := { name := "fnExactCanPlace", fn := fun _ => fun
  | [d1, d2, d3] => { results := [.lit (.bool false)], args := [d1, d2, d3] }
  | _ => none }
def FnExactCanPlaceWrongFalsely : Prop := fnExactCanPlaceRow.holds Try.pinned (OpenSpec.ofChange fnExactCanPlaceWrong)

/-- 'laws.FnExactApart': WHATEVER THE INPUT: true; the input reads as it did. -/
def fnExactApartSpec : ChangeSpec := { name := "fnExactApart", fn := fun _ => fun
  | [d1, d2, d3] => { results := [.lit (.bool true)], args := [d1, d2, d3] }
  | _ => none }
def fnExactApartRow : OpenClaim := { program := "ytgfpngjfhmiphaa", sum := "c93c2b1f6b20269301447696793fde8c514b26ecd3489ef3f14aae445d221952", func := "loop.example/g00849/laws.FnExactApart", spec := "fnExactApart", unfollowed := true, recurses := true, apart := false }
def FnExactApartSaid : Prop := fnExactApartRow.holds Try.pinned (OpenSpec.ofChange fnExactApartSpec)

/-- ITS FALSE NEIGHBOUR: 'it returns false'. Refute it at one input. -/
def fnExactApartWrong : ChangeSpec := { name := "fnExactApart", fn := fun _ => fun
  | [d1, d2, d3] => { results := [.lit (.bool false)], args := [d1, d2, d3] }
  | _ => none }
def FnExactApartWrongFalsely : Prop := fnExactApartRow.holds Try.pinned (OpenSpec.ofChange fnExactApartWrong)

/-- 'laws.FnExactPlaceWhole': WHATEVER THE INPUT: true; the input reads as it did. -/
def fnExactPlaceWholeSpec : ChangeSpec := { name := "fnExactPlaceWhole", fn := fun _ => fun
  | [d1, d2, d3, d4] => { results := [.lit (.bool true)], args := [d1, d2, d3, d4] }
  | _ => none }
def fnExactPlaceWholeRow : OpenClaim := { program := "ytgfpngjfhmiphaa", sum := "c93c2b1f6b20269301447696793fde8c514b26ecd3489ef3f14aae445d221952", func := "loop.example/g00849/laws.FnExactPlaceWhole", spec := "fnExactPlaceWhole", unfollowed := true, recurses := true, apart := false }
def FnExactPlaceWholeSaid : Prop := fnExactPlaceWholeRow.holds Try.pinned (OpenSpec.ofChange fnExactPlaceWholeSpec)

/-- ITS FALSE NEIGHBOUR: 'it returns false'. Refute it at one input. -/
def fnExactPlaceWholeWrong : ChangeSpec := { name := "fnExactPlaceWhole", fn := fun _ => fun
  | [d1, d2, d3, d4] => { results := [.lit (.bool false)], args := [d1, d2, d3, d4] }
  | _ => none }
def FnExactPlaceWholeWrongFalsely : Prop := fnExactPlaceWholeRow.holds Try.pinned (OpenSpec.ofChange fnExactPlaceWholeWrong)

/-- 'laws.FnExactPgsIn': WHATEVER THE INPUT: true; the input reads as it did. -/
def fnExactPgsInSpec : ChangeSpec := { name := "fnExactPgsIn", fn := fun _ => fun
  | [d] => { results := [.lit (.bool true)], args := [d] }
  | _ => none }
def fnExactPgsInRow : OpenClaim := { program := "ytgfpngjfhmiphaa", sum := "c93c2b1f6b20269301447696793fde8c514b26ecd3489ef3f14aae445d221952", func := "loop.example/g00849/laws.FnExactPgsIn", spec := "fnExactPgsIn", apart := false }
def FnExactPgsInSaid : Prop := fnExactPgsInRow.holds Try.pinned (OpenSpec.ofChange fnExactPgsInSpec)

/-- ITS FALSE NEIGHBOUR: 'it returns false'. Refute it at one input. -/
def fnExactPgsInWrong : ChangeSpec := { name := "fnExactPgsIn", fn := fun _ => fun
  | [d] => { results := [.lit (.bool false)], args := [d] }
  | _ => none }
def FnExactPgsInWrongFalsely : Prop := fnExactPgsInRow.holds Try.pinned (OpenSpec.ofChange fnExactPgsInWrong)

/- THE SECOND FORM. 'bulk': how many values and letters a reading holds, each counted each time it is reached (what is shared counts as often as it is met; a slice's spare places count too). A statement '..UptoSaid' is the law's where the arguments, and the package variables that the reading takes, are together of bulk at most 1048576: NARROWER than '..Said'. Prove '..Said' where nothing that the law and all that it calls make is longer than what came in: it says more and counts as full. Else prove '..UptoSaid'. A law counts once. -/
mutual
def uptoBulk {H : Type} : DataW H → Nat
  | .lit (.string bytes) => bytes.length + 1
  | .lit _ => 1
  | .nil => 1
  | .ptr d => uptoBulk d + 1
  | .slice elems spare => uptoBulkAll elems + uptoBulkAll spare + 1
  | .agg parts => uptoBulkAll parts + 1
  | .iface _ d => uptoBulk d + 1
  | .map entries => uptoBulkEntries entries + 1
  | .held _ => 1
def uptoBulkAll {H : Type} : List (DataW H) → Nat
  | [] => 0
  | d :: r => uptoBulk d + uptoBulkAll r
def uptoBulkEntries {H : Type} : List (Lit × DataW H) → Nat
  | [] => 0
  | x :: r => uptoBulkEntry x + uptoBulkEntries r
def uptoBulkEntry {H : Type} : Lit × DataW H → Nat
  | (.string bytes, d) => bytes.length + uptoBulk d + 1
  | (_, d) => uptoBulk d + 1
 end
def uptoSmall : (H : Type) → List (DataW H) → Bool := fun _ ds => decide (uptoBulkAll ds ≤ 1048576)
def OpenSpec.upto (s : _root_.Go.ChangeSpec) : _root_.Go.OpenSpec := { _root_.Go.OpenSpec.ofChange s with cond := some uptoSmall }

/-- 'laws.FnExactNodesUnder', WHERE WHAT IT READS IS OF BULK AT MOST 1048576: true; the input reads as it did. -/
def fnExactNodesUnderUptoRow : OpenClaim := { program := "ytgfpngjfhmiphaa", sum := "c93c2b1f6b20269301447696793fde8c514b26ecd3489ef3f14aae445d221952", func := "loop.example/g00849/laws.FnExactNodesUnder", spec := "fnExactNodesUnder", unfollowed := true, recurses := true, apart := false, narrowed := true }
def FnExactNodesUnderUptoSaid : Prop := fnExactNodesUnderUptoRow.holds Try.pinned (OpenSpec.upto fnExactNodesUnderSpec)

/-- 'laws.FnExactSetWeight', WHERE WHAT IT READS IS OF BULK AT MOST 1048576: true; the input reads as it did. -/
def fnExactSetWeightUptoRow : OpenClaim := { program := "ytgfpngjfhmiphaa", sum := "c93c2b1f6b20269301447696793fde8c514b26ecd3489ef3f14aae445d221952", func := "loop.example/g00849/laws.FnExactSetWeight", spec := "fnExactSetWeight", unfollowed := true, recurses := true, apart := false, narrowed := true }
def FnExactSetWeightUptoSaid : Prop := fnExactSetWeightUptoRow.holds Try.pinned (OpenSpec.upto fnExactSetWeightSpec)

/-- 'laws.FnExactChooseIn', WHERE WHAT IT READS IS OF BULK AT MOST 1048576: true; the input reads as it did. -/
def fnExactChooseInUptoRow : OpenClaim := { program := "ytgfpngjfhmiphaa", sum := "c93c2b1f6b20269301447696793fde8c514b26ecd3489ef3f14aae445d221952", func := "loop.example/g00849/laws.FnExactChooseIn", spec := "fnExactChooseIn", unfollowed := true, recurses := true, apart := false, narrowed := true }
def FnExactChooseInUptoSaid : Prop := fnExactChooseInUptoRow.holds Try.pinned (OpenSpec.upto fnExactChooseInSpec)

/-- 'laws.FnExactDescend', WHERE WHAT IT READS IS OF BULK AT MOST 1048576: true; the input reads as it did. -/
def fnExactDescendUptoRow : OpenClaim := { program := "ytgfpngjfhmiphaa", sum := "c93c2b1f6b20269301447696793fde8c514b26ecd3489ef3f14aae445d221952", func := "loop.example/g00849/laws.FnExactDescend", spec := "fnExactDescend", unfollowed := true, recurses := true, apart := false, narrowed := true }
def FnExactDescendUptoSaid : Prop := fnExactDescendUptoRow.holds Try.pinned (OpenSpec.upto fnExactDescendSpec)

/-- 'laws.FnExactCanPlace', WHERE WHAT IT READS IS OF BULK AT MOST 1048576: true; the input reads as it did. -/
def fnExactCanPlaceUptoRow : OpenClaim := { program := "ytgfpngjfhmiphaa", sum := "c93c2b1f6b20269301447696793fde8c514b26ecd3489ef3f14aae445d221952", func := "loop.example/g00849/laws.FnExactCanPlace", spec := "fnExactCanPlace", unfollowed := true, recurses := true, apart := false, narrowed := true }
def FnExactCanPlaceUptoSaid : Prop := fnExactCanPlaceUptoRow.holds Try.pinned (OpenSpec.upto fnExactCanPlaceSpec)

/-- 'laws.FnExactApart', WHERE WHAT IT READS IS OF BULK AT MOST 1048576: true; the input reads as it did. -/
def fnExactApartUptoRow : OpenClaim := { program := "ytgfpngjfhmiphaa", sum := "c93c2b1f6b20269301447696793fde8c514b26ecd3489ef3f14aae445d221952", func := "loop.example/g00849/laws.FnExactApart", spec := "fnExactApart", unfollowed := true, recurses := true, apart := false, narrowed := true }
def FnExactApartUptoSaid : Prop := fnExactApartUptoRow.holds Try.pinned (OpenSpec.upto fnExactApartSpec)

/-- 'laws.FnExactPlaceWhole', WHERE WHAT IT READS IS OF BULK AT MOST 1048576: true; the input reads as it did. -/
def fnExactPlaceWholeUptoRow : OpenClaim := { program := "ytgfpngjfhmiphaa", sum := "c93c2b1f6b20269301447696793fde8c514b26ecd3489ef3f14aae445d221952", func := "loop.example/g00849/laws.FnExactPlaceWhole", spec := "fnExactPlaceWhole", unfollowed := true, recurses := true, apart := false, narrowed := true }
def FnExactPlaceWholeUptoSaid : Prop := fnExactPlaceWholeUptoRow.holds Try.pinned (OpenSpec.upto fnExactPlaceWholeSpec)

/-- 'laws.FnExactPgsIn', WHERE WHAT IT READS IS OF BULK AT MOST 1048576: true; the input reads as it did. -/
def fnExactPgsInUptoRow : OpenClaim := { program := "ytgfpngjfhmiphaa", sum := "c93c2b1f6b20269301447696793fde8c514b26ecd3489ef3f14aae445d221952", func := "loop.example/g00849/laws.FnExactPgsIn", spec := "fnExactPgsIn", apart := false, narrowed := true }
def FnExactPgsInUptoSaid : Prop := fnExactPgsInUptoRow.holds Try.pinned (OpenSpec.upto fnExactPgsInSpec)

end Rows
end Go.Proofs.Ytgfpngjfhmiphaa
