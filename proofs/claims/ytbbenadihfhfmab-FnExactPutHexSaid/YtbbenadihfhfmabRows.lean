/-
  No cell of these rows narrows 'for every input' (looked for: loops, veiled, ifaces, maps, wideKeys, modest, calm, conditions, laid).
  DERIVED. THE GIVEN ROWS OF THIS SEAT. 11 by the template 'for every input the law returns true; each argument reads behind the call as it read before'; 0 by the template 'total and deterministic' (their statements: YtbbenadihfhfmabTotals.lean).
  GIVEN WITH THE SEED: the statements are not yours to turn. If you find one false, say at which input.
  Laid BY PROGRAM, IN A SANDBOX (cutbox-rows.mjs): the forced cells as the released guide's own fill.sh prints them over the translation c3b3fc410e3fb62f… (all of the seat's roots in one cut). By AI agents, Wed Nov 11 2026. No macro, syntax, notation, axiom, sorry.
-/
import Derived.Test.YtbbenadihfhfmabChecked
import GoSem.Claim
import GoSem.ClaimJoined
import GoSem.ClaimMapViews
import Derived.JoinedTies
import Derived.KernelRfl
namespace Go.Proofs.Ytbbenadihfhfmab
/- THE CELL 'sum', in the pinned program and in every row, IS THE sha256 OF THE DUMP (.gsa) THAT YtbbenadihfhfmabProg.lean LOADS. Nothing in Lean hashes anything: it is a label: what it is worth is what the hold of that sum in a sandbox is worth. -/
noncomputable def Try.pinned : Pinned := { name := "ytbbenadihfhfmab", sum := "c3b3fc410e3fb62fcf31a0935ba6c8ae9f5283ff3d91c27873306eeb3b9f07c8", checked := Try.checked }
namespace Rows
def none {H : Type} : Left H := { results := [], args := [] }

/-- 'laws.FnExactCodeWord': WHATEVER THE INPUT: true; the input reads as it did. -/
def fnExactCodeWordSpec : ChangeSpec := { name := "fnExactCodeWord", fn := fun _ => fun
  | [d] => { results := [.lit (.bool true)], args := [d] }
  | _ => none }
def fnExactCodeWordRow : OpenClaim := { program := "ytbbenadihfhfmab", sum := "c3b3fc410e3fb62fcf31a0935ba6c8ae9f5283ff3d91c27873306eeb3b9f07c8", func := "loop.example/g00849/laws.FnExactCodeWord", spec := "fnExactCodeWord", apart := false }
def FnExactCodeWordSaid : Prop := fnExactCodeWordRow.holds Try.pinned (OpenSpec.ofChange fnExactCodeWordSpec)

/-- ITS FALSE NEIGHBOUR: 'it returns false'. Refute it at one input. -/
def fnExactCodeWordWrong : ChangeSpec := { name := "fnExactCodeWord", fn := fun _ => fun
  | [d] => { results := [.lit (.bool false)], args := [d] }
  | _ => none }
def FnExactCodeWordWrongFalsely : Prop := fnExactCodeWordRow.holds Try.pinned (OpenSpec.ofChange fnExactCodeWordWrong)

/-- 'laws.FnExactPutHex': WHATEVER THE INPUT: true; the input reads as it did. -/
def fnExactPutHexSpec : ChangeSpec := { name := "fnExactPutHex", fn := fun _ => fun
  | [d] => { results := [.lit (.bool true)], args := [d] }
  | _ => none }
def fnExactPutHexRow : OpenClaim := { program := "ytbbenadihfhfmab", sum := "c3b3fc410e3fb62fcf31a0935ba6c8ae9f5283ff3d91c27873306eeb3b9f07c8", func := "loop.example/g00849/laws.FnExactPutHex", spec := "fnExactPutHex", apart := false }
def FnExactPutHexSaid : Prop := fnExactPutHexRow.holds Try.pinned (OpenSpec.ofChange fnExactPutHexSpec)

/-- ITS FALSE NEIGHBOUR: 'it returns false'. Refute it at one input. -/
def fnExactPutHexWrong : ChangeSpec := { name := "fnExactPutHex", fn := fun _ => fun
  | [d] => { results := [.lit (.bool false)], args := [d] }
  | _ => none }
def FnExactPutHexWrongFalsely : Prop := fnExactPutHexRow.holds Try.pinned (OpenSpec.ofChange fnExactPutHexWrong)

/-- 'laws.FnExactGetHex': WHATEVER THE INPUT: true; the input reads as it did. -/
def fnExactGetHexSpec : ChangeSpec := { name := "fnExactGetHex", fn := fun _ => fun
  | [d] => { results := [.lit (.bool true)], args := [d] }
  | _ => none }
def fnExactGetHexRow : OpenClaim := { program := "ytbbenadihfhfmab", sum := "c3b3fc410e3fb62fcf31a0935ba6c8ae9f5283ff3d91c27873306eeb3b9f07c8", func := "loop.example/g00849/laws.FnExactGetHex", spec := "fnExactGetHex", inPlace := ["internal/bytealg.IndexByteString", "internal/bytealg.IndexString"], named := ["internal/bytealg.MaxLen"], apart := false }
def FnExactGetHexSaid : Prop := fnExactGetHexRow.holds Try.pinned (OpenSpec.ofChange fnExactGetHexSpec)

/-- ITS FALSE NEIGHBOUR: 'it returns false'. Refute it at one input. -/
def fnExactGetHexWrong : ChangeSpec := { name := "fnExactGetHex", fn := fun _ => fun
  | [d] => { results := [.lit (.bool false)], args := [d] }
  | _ => none }
def FnExactGetHexWrongFalsely : Prop := fnExactGetHexRow.holds Try.pinned (OpenSpec.ofChange fnExactGetHexWrong)

/-- 'laws.FnExactGfAdd': WHATEVER THE INPUT: true; the input reads as it did. -/
def fnExactGfAddSpec : ChangeSpec := { name := "fnExactGfAdd", fn := fun _ => fun
  | [d1, d2] => { results := [.lit (.bool true)], args := [d1, d2] }
  | _ => none }
def fnExactGfAddRow : OpenClaim := { program := "ytbbenadihfhfmab", sum := "c3b3fc410e3fb62fcf31a0935ba6c8ae9f5283ff3d91c27873306eeb3b9f07c8", func := "loop.example/g00849/laws.FnExactGfAdd", spec := "fnExactGfAdd", apart := false }
def FnExactGfAddSaid : Prop := fnExactGfAddRow.holds Try.pinned (OpenSpec.ofChange fnExactGfAddSpec)

/-- ITS FALSE NEIGHBOUR: 'it returns false'. Refute it at one input. -/
def fnExactGfAddWrong : ChangeSpec := { name := "fnExactGfAdd", fn := fun _ => fun
  | [d1, d2] => { results := [.lit (.bool false)], args := [d1, d2] }
  | _ => none }
def FnExactGfAddWrongFalsely : Prop := fnExactGfAddRow.holds Try.pinned (OpenSpec.ofChange fnExactGfAddWrong)

/-- 'laws.FnExactGfMul': WHATEVER THE INPUT: true; the input reads as it did. -/
def fnExactGfMulSpec : ChangeSpec := { name := "fnExactGfMul", fn := fun _ => fun
  | [d1, d2] => { results := [.lit (.bool true)], args := [d1, d2] }
  | _ => none }
def fnExactGfMulRow : OpenClaim := { program := "ytbbenadihfhfmab", sum := "c3b3fc410e3fb62fcf31a0935ba6c8ae9f5283ff3d91c27873306eeb3b9f07c8", func := "loop.example/g00849/laws.FnExactGfMul", spec := "fnExactGfMul", apart := false }
def FnExactGfMulSaid : Prop := fnExactGfMulRow.holds Try.pinned (OpenSpec.ofChange fnExactGfMulSpec)

/-- ITS FALSE NEIGHBOUR: 'it returns false'. Refute it at one input. -/
def fnExactGfMulWrong : ChangeSpec := { name := "fnExactGfMul", fn := fun _ => fun
  | [d1, d2] => { results := [.lit (.bool false)], args := [d1, d2] }
  | _ => none }
def FnExactGfMulWrongFalsely : Prop := fnExactGfMulRow.holds Try.pinned (OpenSpec.ofChange fnExactGfMulWrong)

/-- 'laws.FnExactGfInv': WHATEVER THE INPUT: true; the input reads as it did. -/
def fnExactGfInvSpec : ChangeSpec := { name := "fnExactGfInv", fn := fun _ => fun
  | [d] => { results := [.lit (.bool true)], args := [d] }
  | _ => none }
def fnExactGfInvRow : OpenClaim := { program := "ytbbenadihfhfmab", sum := "c3b3fc410e3fb62fcf31a0935ba6c8ae9f5283ff3d91c27873306eeb3b9f07c8", func := "loop.example/g00849/laws.FnExactGfInv", spec := "fnExactGfInv", apart := false }
def FnExactGfInvSaid : Prop := fnExactGfInvRow.holds Try.pinned (OpenSpec.ofChange fnExactGfInvSpec)

/-- ITS FALSE NEIGHBOUR: 'it returns false'. Refute it at one input. -/
def fnExactGfInvWrong : ChangeSpec := { name := "fnExactGfInv", fn := fun _ => fun
  | [d] => { results := [.lit (.bool false)], args := [d] }
  | _ => none }
def FnExactGfInvWrongFalsely : Prop := fnExactGfInvRow.holds Try.pinned (OpenSpec.ofChange fnExactGfInvWrong)

/-- 'laws.FnExactGfDiv': WHATEVER THE INPUT: true; the input reads as it did. -/
def fnExactGfDivSpec : ChangeSpec := { name := "fnExactGfDiv", fn := fun _ => fun
  | [d1, d2] => { results := [.lit (.bool true)], args := [d1, d2] }
  | _ => none }
def fnExactGfDivRow : OpenClaim := { program := "ytbbenadihfhfmab", sum := "c3b3fc410e3fb62fcf31a0935ba6c8ae9f5283ff3d91c27873306eeb3b9f07c8", func := "loop.example/g00849/laws.FnExactGfDiv", spec := "fnExactGfDiv", apart := false }
def FnExactGfDivSaid : Prop := fnExactGfDivRow.holds Try.pinned (OpenSpec.ofChange fnExactGfDivSpec)

/-- ITS FALSE NEIGHBOUR: 'it returns false'. Refute it at one input. -/
def fnExactGfDivWrong : ChangeSpec := { name := "fnExactGfDiv", fn := fun _ => fun
  | [d1, d2] => { results := [.lit (.bool false)], args := [d1, d2] }
  | _ => none }
def FnExactGfDivWrongFalsely : Prop := fnExactGfDivRow.holds Try.pinned (OpenSpec.ofChange fnExactGfDivWrong)

/-- 'laws.FnExactGfPow': WHATEVER THE INPUT: true; the input reads as it did. -/
def fnExactGfPowSpec : ChangeSpec := { name := "fnExactGfPow", fn := fun _ => fun
  | [d1, d2] => { results := [.lit (.bool true)], args := [d1, d2] }
  | _ => none }
def fnExactGfPowRow : OpenClaim := { program := "ytbbenadihfhfmab", sum := "c3b3fc410e3fb62fcf31a0935ba6c8ae9f5283ff3d91c27873306eeb3b9f07c8", func := "loop.example/g00849/laws.FnExactGfPow", spec := "fnExactGfPow", apart := false }
def FnExactGfPowSaid : Prop := fnExactGfPowRow.holds Try.pinned (OpenSpec.ofChange fnExactGfPowSpec)

/-- ITS FALSE NEIGHBOUR: 'it returns false'. Refute it at one input. -/
def fnExactGfPowWrong : ChangeSpec := { name := "fnExactGfPow", fn := fun _ => fun
  | [d1, d2] => { results := [.lit (.bool false)], args := [d1, d2] }
  | _ => none }
def FnExactGfPowWrongFalsely : Prop := fnExactGfPowRow.holds Try.pinned (OpenSpec.ofChange fnExactGfPowWrong)

/-- 'laws.FnExactGfLog': WHATEVER THE INPUT: true; the input reads as it did. -/
def fnExactGfLogSpec : ChangeSpec := { name := "fnExactGfLog", fn := fun _ => fun
  | [d] => { results := [.lit (.bool true)], args := [d] }
  | _ => none }
def fnExactGfLogRow : OpenClaim := { program := "ytbbenadihfhfmab", sum := "c3b3fc410e3fb62fcf31a0935ba6c8ae9f5283ff3d91c27873306eeb3b9f07c8", func := "loop.example/g00849/laws.FnExactGfLog", spec := "fnExactGfLog", apart := false }
def FnExactGfLogSaid : Prop := fnExactGfLogRow.holds Try.pinned (OpenSpec.ofChange fnExactGfLogSpec)

/-- ITS FALSE NEIGHBOUR: 'it returns false'. Refute it at one input. -/
def fnExactGfLogWrong : ChangeSpec := { name := "fnExactGfLog", fn := fun _ => fun
  | [d] => { results := [.lit (.bool false)], args := [d] }
  | _ => none }
def FnExactGfLogWrongFalsely : Prop := fnExactGfLogRow.holds Try.pinned (OpenSpec.ofChange fnExactGfLogWrong)

/-- 'laws.FnExactGfScale': WHATEVER THE INPUT: true; the input reads as it did. -/
def fnExactGfScaleSpec : ChangeSpec := { name := "fnExactGfScale", fn := fun _ => fun
  | [d1, d2] => { results := [.lit (.bool true)], args := [d1, d2] }
  | _ => none }
def fnExactGfScaleRow : OpenClaim := { program := "ytbbenadihfhfmab", sum := "c3b3fc410e3fb62fcf31a0935ba6c8ae9f5283ff3d91c27873306eeb3b9f07c8", func := "loop.example/g00849/laws.FnExactGfScale", spec := "fnExactGfScale", apart := false }
def FnExactGfScaleSaid : Prop := fnExactGfScaleRow.holds Try.pinned (OpenSpec.ofChange fnExactGfScaleSpec)

/-- ITS FALSE NEIGHBOUR: 'it returns false'. Refute it at one input. -/
def fnExactGfScaleWrong : ChangeSpec := { name := "fnExactGfScale", fn := fun _ => fun
  | [d1, d2] => { results := [.lit (.bool false)], args := [d1, d2] }
  | _ => none }
def FnExactGfScaleWrongFalsely : Prop := fnExactGfScaleRow.holds Try.pinned (OpenSpec.ofChange fnExactGfScaleWrong)

/-- 'laws.FnExactGfSum': WHATEVER THE INPUT: true; the input reads as it did. -/
def fnExactGfSumSpec : ChangeSpec := { name := "fnExactGfSum", fn := fun _ => fun
  | [d1, d2] => { results := [.lit (.bool true)], args := [d1, d2] }
  | _ => none }
def fnExactGfSumRow : OpenClaim := { program := "ytbbenadihfhfmab", sum := "c3b3fc410e3fb62fcf31a0935ba6c8ae9f5283ff3d91c27873306eeb3b9f07c8", func := "loop.example/g00849/laws.FnExactGfSum", spec := "fnExactGfSum", apart := false }
def FnExactGfSumSaid : Prop := fnExactGfSumRow.holds Try.pinned (OpenSpec.ofChange fnExactGfSumSpec)

/-- ITS FALSE NEIGHBOUR: 'it returns false'. Refute it at one input. -/
def fnExactGfSumWrong : ChangeSpec := { name := "fnExactGfSum", fn := fun _ => fun
  | [d1, d2] => { results := [.lit (.bool false)], args := [d1, d2] }
  | _ => none }
def FnExactGfSumWrongFalsely : Prop := fnExactGfSumRow.holds Try.pinned (OpenSpec.ofChange fnExactGfSumWrong)

/- THE SECOND FORM. 'bulk': how many values and letters a reading holds, each counted each time it is reached (what is shared counts as often as it is met; a slice's spare places count too). A statement '..UptoSaid' is the law's where the arguments, and the package variables that the reading takes, are together of bulk at most 1048576: NARROWER than '..Said'. Prove '..Said' where nothing that the law and all that it calls make is longer than what came in: it says more and counts as full. Else prove '..UptoSaid'. A law counts once. -/
mutual
def uptoBulk {H : Type} : DataW H → Nat
  | .lit (.string bytes) => bytes.length + 1
  | .lit _ => 1
  | .nil => 1
  | .ptr d => uptoBulk d + 1
  | .slice elems spare => uptoBulkAll elems + uptoBulkAll spare + 1
  | .agg parts => uptoBulkAll parts + 1
  | .iface _ d => uptoBulk d + 1
  | .map entries => uptoBulkEntries entries + 1
  | .held _ => 1
def uptoBulkAll {H : Type} : List (DataW H) → Nat
  | [] => 0
  | d :: r => uptoBulk d + uptoBulkAll r
def uptoBulkEntries {H : Type} : List (Lit × DataW H) → Nat
  | [] => 0
  | x :: r => uptoBulkEntry x + uptoBulkEntries r
def uptoBulkEntry {H : Type} : Lit × DataW H → Nat
  | (.string bytes, d) => bytes.length + uptoBulk d + 1
  | (_, d) => uptoBulk d + 1
 end
def uptoSmall : (H : Type) → List (DataW H) → Bool := fun _ ds => decide (uptoBulkAll ds ≤ 1048576)
def OpenSpec.upto (s : _root_.Go.ChangeSpec) : _root_.Go.OpenSpec := { _root_.Go.OpenSpec.ofChange s with cond := some uptoSmall }

/-- 'laws.FnExactCodeWord', WHERE WHAT IT READS IS OF BULK AT MOST 1048576: true; the input reads as it did. -/
def fnExactCodeWordUptoRow : OpenClaim := { program := "ytbbenadihfhfmab", sum := "c3b3fc410e3fb62fcf31a0935ba6c8ae9f5283ff3d91c27873306eeb3b9f07c8", func := "loop.example/g00849/laws.FnExactCodeWord", spec := "fnExactCodeWord", apart := false, narrowed := true }
def FnExactCodeWordUptoSaid : Prop := fnExactCodeWordUptoRow.holds Try.pinned (OpenSpec.upto fnExactCodeWordSpec)

/-- 'laws.FnExactPutHex', WHERE WHAT IT READS IS OF BULK AT MOST 1048576: true; the input reads as it did. -/
def fnExactPutHexUptoRow : OpenClaim := { program := "ytbbenadihfhfmab", sum := "c3b3fc410e3fb62fcf31a0935ba6c8ae9f5283ff3d91c27873306eeb3b9f07c8", func := "loop.example/g00849/laws.FnExactPutHex", spec := "fnExactPutHex", apart := false, narrowed := true }
def FnExactPutHexUptoSaid : Prop := fnExactPutHexUptoRow.holds Try.pinned (OpenSpec.upto fnExactPutHexSpec)

/-- 'laws.FnExactGetHex', WHERE WHAT IT READS IS OF BULK AT MOST 1048576: true; the input reads as it did. -/
def fnExactGetHexUptoRow : OpenClaim := { program := "ytbbenadihfhfmab", sum := "c3b3fc410e3fb62fcf31a0935ba6c8ae9f5283ff3d91c27873306eeb3b9f07c8", func := "loop.example/g00849/laws.FnExactGetHex", spec := "fnExactGetHex", inPlace := ["internal/bytealg.IndexByteString", "internal/bytealg.IndexString"], named := ["internal/bytealg.MaxLen"], apart := false, narrowed := true }
def FnExactGetHexUptoSaid : Prop := fnExactGetHexUptoRow.holds Try.pinned (OpenSpec.upto fnExactGetHexSpec)

/-- 'laws.FnExactGfAdd', WHERE WHAT IT READS IS OF BULK AT MOST 1048576: true; the input reads as it did. -/
def fnExactGfAddUptoRow : OpenClaim := { program := "ytbbenadihfhfmab", sum := "c3b3fc410e3fb62fcf31a0935ba6c8ae9f5283ff3d91c27873306eeb3b9f07c8", func := "loop.example/g00849/laws.FnExactGfAdd", spec := "fnExactGfAdd", apart := false, narrowed := true }
def FnExactGfAddUptoSaid : Prop := fnExactGfAddUptoRow.holds Try.pinned (OpenSpec.upto fnExactGfAddSpec)

/-- 'laws.FnExactGfMul', WHERE WHAT IT READS IS OF BULK AT MOST 1048576: true; the input reads as it did. -/
def fnExactGfMulUptoRow : OpenClaim := { program := "ytbbenadihfhfmab", sum := "c3b3fc410e3fb62fcf31a0935ba6c8ae9f5283ff3d91c27873306eeb3b9f07c8", func := "loop.example/g00849/laws.FnExactGfMul", spec := "fnExactGfMul", apart := false, narrowed := true }
def FnExactGfMulUptoSaid : Prop := fnExactGfMulUptoRow.holds Try.pinned (OpenSpec.upto fnExactGfMulSpec)

/-- 'laws.FnExactGfInv', WHERE WHAT IT READS IS OF BULK AT MOST 1048576: true; the input reads as it did. -/
def fnExactGfInvUptoRow : OpenClaim := { program := "ytbbenadihfhfmab", sum := "c3b3fc410e3fb62fcf31a0935ba6c8ae9f5283ff3d91c27873306eeb3b9f07c8", func := "loop.example/g00849/laws.FnExactGfInv", spec := "fnExactGfInv", apart := false, narrowed := true }
def FnExactGfInvUptoSaid : Prop := fnExactGfInvUptoRow.holds Try.pinned (OpenSpec.upto fnExactGfInvSpec)

/-- 'laws.FnExactGfDiv', WHERE WHAT IT READS IS OF BULK AT MOST 1048576: true; the input reads as it did. -/
def fnExactGfDivUptoRow : OpenClaim := { program := "ytbbenadihfhfmab", sum := "c3b3fc410e3fb62fcf31a0935ba6c8ae9f5283ff3d91c27873306eeb3b9f07c8", func := "loop.example/g00849/laws.FnExactGfDiv", spec := "fnExactGfDiv", apart := false, narrowed := true }
def FnExactGfDivUptoSaid : Prop := fnExactGfDivUptoRow.holds Try.pinned (OpenSpec.upto fnExactGfDivSpec)

/-- 'laws.FnExactGfPow', WHERE WHAT IT READS IS OF BULK AT MOST 1048576: true; the input reads as it did. -/
def fnExactGfPowUptoRow : OpenClaim := { program := "ytbbenadihfhfmab", sum := "c3b3fc410e3fb62fcf31a0935ba6c8ae9f5283ff3d91c27873306eeb3b9f07c8", func := "loop.example/g00849/laws.FnExactGfPow", spec := "fnExactGfPow", apart := false, narrowed := true }
def FnExactGfPowUptoSaid : Prop := fnExactGfPowUptoRow.holds Try.pinned (OpenSpec.upto fnExactGfPowSpec)

/-- 'laws.FnExactGfLog', WHERE WHAT IT READS IS OF BULK AT MOST 1048576: true; the input reads as it did. -/
def fnExactGfLogUptoRow : OpenClaim := { program := "ytbbenadihfhfmab", sum := "c3b3fc410e3fb62fcf31a0935ba6c8ae9f5283ff3d91c27873306eeb3b9f07c8", func := "loop.example/g00849/laws.FnExactGfLog", spec := "fnExactGfLog", apart := false, narrowed := true }
def FnExactGfLogUptoSaid : Prop := fnExactGfLogUptoRow.holds Try.pinned (OpenSpec.upto fnExactGfLogSpec)

/-- 'laws.FnExactGfScale', WHERE WHAT IT READS IS OF BULK AT MOST 1048576: true; the input reads as it did. -/
def fnExactGfScaleUptoRow : OpenClaim := { program := "ytbbenadihfhfmab", sum := "c3b3fc410e3fb62fcf31a0935ba6c8ae9f5283ff3d91c27873306eeb3b9f07c8", func := "loop.example/g00849/laws.FnExactGfScale", spec := "fnExactGfScale", apart := false, narrowed := true }
def FnExactGfScaleUptoSaid : Prop := fnExactGfScaleUptoRow.holds Try.pinned (OpenSpec.upto fnExactGfScaleSpec)

/-- 'laws.FnExactGfSum', WHERE WHAT IT READS IS OF BULK AT MOST 1048576: true; the input reads as it did. -/
def fnExactGfSumUptoRow : OpenClaim := { program := "ytbbenadihfhfmab", sum := "c3b3fc410e3fb62fcf31a0935ba6c8ae9f5283ff3d91c27873306eeb3b9f07c8", func := "loop.example/g00849/laws.FnExactGfSum", spec := "fnExactGfSum", apart := false, narrowed := true }
def FnExactGfSumUptoSaid : Prop := fnExactGfSumUptoRow.holds Try.pinned (OpenSpec.upto fnExactGfSumSpec)

end Rows
end Go.Proofs.Ytbbenadihfhfmab
