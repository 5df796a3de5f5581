/-
  No cell of these rows narrows 'for every input' (looked for: loops, veiled, ifaces, maps, wideKeys, modest, calm, conditions, laid).
  DERIVED. THE GIVEN ROWS OF THIS SEAT. 12 by the template 'for every input the law returns true; each argument reads behind the call as it read before'; 0 by the template 'total and deterministic' (their statements: YtgnllkkkkkcoaaaTotals.lean).
  GIVEN WITH THE SEED: the statements are not yours to turn. If you find one false, say at which input.
  Laid BY PROGRAM, IN A SANDBOX (cutbox-rows.mjs): the forced cells as the released guide's own fill.sh prints them over the translation 5bf600b0ff0a9225… (all of the seat's roots in one cut). By AI agents, Wed Nov 11 2026. No macro, syntax, notation, axiom, sorry.
-/
import Derived.Test.YtgnllkkkkkcoaaaChecked
import GoSem.Claim
import GoSem.ClaimJoined
import GoSem.ClaimMapViews
import Derived.JoinedTies
import Derived.KernelRfl
namespace Go.Proofs.Ytgnllkkkkkcoaaa
/- THE CELL 'sum', in the pinned program and in every row, IS THE sha256 OF THE DUMP (.gsa) THAT YtgnllkkkkkcoaaaProg.lean LOADS. Nothing in Lean hashes anything: it is a label: what it is worth is what the hold of that sum in a sandbox is worth. -/
noncomputable def Try.pinned : Pinned := { name := "ytgnllkkkkkcoaaa", sum := "5bf600b0ff0a92251252c9618cc5588857c229a46443ddc287e24b863fe4199b", checked := Try.checked }
namespace Rows
def none {H : Type} : Left H := { results := [], args := [] }

/-- 'laws.FnExactGetHex': WHATEVER THE INPUT: true; the input reads as it did. -/
def fnExactGetHexSpec : ChangeSpec := { name := "fnExactGetHex", fn := fun _ => fun
  | [d] => { results := [.lit (.bool true)], args := [d] }
  | _ => none }
def fnExactGetHexRow : OpenClaim := { program := "ytgnllkkkkkcoaaa", sum := "5bf600b0ff0a92251252c9618cc5588857c229a46443ddc287e24b863fe4199b", func := "loop.example/g00849/laws.FnExactGetHex", spec := "fnExactGetHex", inPlace := ["internal/bytealg.IndexByteString", "internal/bytealg.IndexString"], named := ["internal/bytealg.MaxLen"], apart := false }
def FnExactGetHexSaid : Prop := fnExactGetHexRow.holds Try.pinned (OpenSpec.ofChange fnExactGetHexSpec)

/-- ITS FALSE NEIGHBOUR: 'it returns false'. Refute it at one input. -/
def fnExactGetHexWrong : ChangeSpec := { name := "fnExactGetHex", fn := fun _ => fun
  | [d] => { results := [.lit (.bool false)], args := [d] }
  | _ => none }
def FnExactGetHexWrongFalsely : Prop := fnExactGetHexRow.holds Try.pinned (OpenSpec.ofChange fnExactGetHexWrong)

/-- 'laws.FnExactGfScale': WHATEVER THE INPUT: true; the input reads as it did. -/
def fnExactGfScaleSpec : ChangeSpec := { name := "fnExactGfScale", fn := fun _ => fun
  | [d1, d2] => { results := [.lit (.bool true)], args := [d1, d2] }
  | _ => none }
def fnExactGfScaleRow : OpenClaim := { program := "ytgnllkkkkkcoaaa", sum := "5bf600b0ff0a92251252c9618cc5588857c229a46443ddc287e24b863fe4199b", func := "loop.example/g00849/laws.FnExactGfScale", spec := "fnExactGfScale", apart := false }
def FnExactGfScaleSaid : Prop := fnExactGfScaleRow.holds Try.pinned (OpenSpec.ofChange fnExactGfScaleSpec)

/-- ITS FALSE NEIGHBOUR: 'it returns false'. Refute it at one input. -/
def fnExactGfScaleWrong : ChangeSpec := { name := "fnExactGfScale", fn := fun _ => fun
  | [d1, d2] => { results := [.lit (.bool false)], args := [d1, d2] }
  | _ => none }
def FnExactGfScaleWrongFalsely : Prop := fnExactGfScaleRow.holds Try.pinned (OpenSpec.ofChange fnExactGfScaleWrong)

/-- 'laws.FnExactMatrixOk': WHATEVER THE INPUT: true; the input reads as it did. -/
def fnExactMatrixOkSpec : ChangeSpec := { name := "fnExactMatrixOk", fn := fun _ => fun
  | [d] => { results := [.lit (.bool true)], args := [d] }
  | _ => none }
def fnExactMatrixOkRow : OpenClaim := { program := "ytgnllkkkkkcoaaa", sum := "5bf600b0ff0a92251252c9618cc5588857c229a46443ddc287e24b863fe4199b", func := "loop.example/g00849/laws.FnExactMatrixOk", spec := "fnExactMatrixOk", apart := false }
def FnExactMatrixOkSaid : Prop := fnExactMatrixOkRow.holds Try.pinned (OpenSpec.ofChange fnExactMatrixOkSpec)

/-- ITS FALSE NEIGHBOUR: 'it returns false'. Refute it at one input. -/
def fnExactMatrixOkWrong : ChangeSpec := { name := "fnExactMatrixOk", fn := fun _ => fun
  | [d] => { results := [.lit (.bool false)], args := [d] }
  | _ => none }
def FnExactMatrixOkWrongFalsely : Prop := fnExactMatrixOkRow.holds Try.pinned (OpenSpec.ofChange fnExactMatrixOkWrong)

/-- 'laws.FnExactMatUnit': WHATEVER THE INPUT: true; the input reads as it did. -/
def fnExactMatUnitSpec : ChangeSpec := { name := "fnExactMatUnit", fn := fun _ => fun
  | [d] => { results := [.lit (.bool true)], args := [d] }
  | _ => none }
def fnExactMatUnitRow : OpenClaim := { program := "ytgnllkkkkkcoaaa", sum := "5bf600b0ff0a92251252c9618cc5588857c229a46443ddc287e24b863fe4199b", func := "loop.example/g00849/laws.FnExactMatUnit", spec := "fnExactMatUnit", apart := false }
def FnExactMatUnitSaid : Prop := fnExactMatUnitRow.holds Try.pinned (OpenSpec.ofChange fnExactMatUnitSpec)

/-- ITS FALSE NEIGHBOUR: 'it returns false'. Refute it at one input. -/
def fnExactMatUnitWrong : ChangeSpec := { name := "fnExactMatUnit", fn := fun _ => fun
  | [d] => { results := [.lit (.bool false)], args := [d] }
  | _ => none }
def FnExactMatUnitWrongFalsely : Prop := fnExactMatUnitRow.holds Try.pinned (OpenSpec.ofChange fnExactMatUnitWrong)

/-- 'laws.FnExactMatMul': WHATEVER THE INPUT: true; the input reads as it did. -/
def fnExactMatMulSpec : ChangeSpec := { name := "fnExactMatMul", fn := fun _ => fun
  | [d1, d2] => { results := [.lit (.bool true)], args := [d1, d2] }
  | _ => none }
def fnExactMatMulRow : OpenClaim := { program := "ytgnllkkkkkcoaaa", sum := "5bf600b0ff0a92251252c9618cc5588857c229a46443ddc287e24b863fe4199b", func := "loop.example/g00849/laws.FnExactMatMul", spec := "fnExactMatMul", apart := false }
def FnExactMatMulSaid : Prop := fnExactMatMulRow.holds Try.pinned (OpenSpec.ofChange fnExactMatMulSpec)

/-- ITS FALSE NEIGHBOUR: 'it returns false'. Refute it at one input. -/
def fnExactMatMulWrong : ChangeSpec := { name := "fnExactMatMul", fn := fun _ => fun
  | [d1, d2] => { results := [.lit (.bool false)], args := [d1, d2] }
  | _ => none }
def FnExactMatMulWrongFalsely : Prop := fnExactMatMulRow.holds Try.pinned (OpenSpec.ofChange fnExactMatMulWrong)

/-- 'laws.FnExactMatRows': WHATEVER THE INPUT: true; the input reads as it did. -/
def fnExactMatRowsSpec : ChangeSpec := { name := "fnExactMatRows", fn := fun _ => fun
  | [d1, d2] => { results := [.lit (.bool true)], args := [d1, d2] }
  | _ => none }
def fnExactMatRowsRow : OpenClaim := { program := "ytgnllkkkkkcoaaa", sum := "5bf600b0ff0a92251252c9618cc5588857c229a46443ddc287e24b863fe4199b", func := "loop.example/g00849/laws.FnExactMatRows", spec := "fnExactMatRows", apart := false }
def FnExactMatRowsSaid : Prop := fnExactMatRowsRow.holds Try.pinned (OpenSpec.ofChange fnExactMatRowsSpec)

/-- ITS FALSE NEIGHBOUR: 'it returns false'. Refute it at one input. -/
def fnExactMatRowsWrong : ChangeSpec := { name := "fnExactMatRows", fn := fun _ => fun
  | [d1, d2] => { results := [.lit (.bool false)], args := [d1, d2] }
  | _ => none }
def FnExactMatRowsWrongFalsely : Prop := fnExactMatRowsRow.holds Try.pinned (OpenSpec.ofChange fnExactMatRowsWrong)

/-- 'laws.FnExactCodeMatrix': WHATEVER THE INPUT: true; the input reads as it did. -/
def fnExactCodeMatrixSpec : ChangeSpec := { name := "fnExactCodeMatrix", fn := fun _ => fun
  | [d1, d2] => { results := [.lit (.bool true)], args := [d1, d2] }
  | _ => none }
def fnExactCodeMatrixRow : OpenClaim := { program := "ytgnllkkkkkcoaaa", sum := "5bf600b0ff0a92251252c9618cc5588857c229a46443ddc287e24b863fe4199b", func := "loop.example/g00849/laws.FnExactCodeMatrix", spec := "fnExactCodeMatrix", apart := false }
def FnExactCodeMatrixSaid : Prop := fnExactCodeMatrixRow.holds Try.pinned (OpenSpec.ofChange fnExactCodeMatrixSpec)

/-- ITS FALSE NEIGHBOUR: 'it returns false'. Refute it at one input. -/
def fnExactCodeMatrixWrong : ChangeSpec := { name := "fnExactCodeMatrix", fn := fun _ => fun
  | [d1, d2] => { results := [.lit (.bool false)], args := [d1, d2] }
  | _ => none }
def FnExactCodeMatrixWrongFalsely : Prop := fnExactCodeMatrixRow.holds Try.pinned (OpenSpec.ofChange fnExactCodeMatrixWrong)

/-- 'laws.FnExactSameMatrix': WHATEVER THE INPUT: true; the input reads as it did. -/
def fnExactSameMatrixSpec : ChangeSpec := { name := "fnExactSameMatrix", fn := fun _ => fun
  | [d1, d2] => { results := [.lit (.bool true)], args := [d1, d2] }
  | _ => none }
def fnExactSameMatrixRow : OpenClaim := { program := "ytgnllkkkkkcoaaa", sum := "5bf600b0ff0a92251252c9618cc5588857c229a46443ddc287e24b863fe4199b", func := "loop.example/g00849/laws.FnExactSameMatrix", spec := "fnExactSameMatrix", apart := false }
def FnExactSameMatrixSaid : Prop := fnExactSameMatrixRow.holds Try.pinned (OpenSpec.ofChange fnExactSameMatrixSpec)

/-- ITS FALSE NEIGHBOUR: 'it returns false'. Refute it at one input. -/
def fnExactSameMatrixWrong : ChangeSpec := { name := "fnExactSameMatrix", fn := fun _ => fun
  | [d1, d2] => { results := [.lit (.bool false)], args := [d1, d2] }
  | _ => none }
def FnExactSameMatrixWrongFalsely : Prop := fnExactSameMatrixRow.holds Try.pinned (OpenSpec.ofChange fnExactSameMatrixWrong)

/-- 'laws.FnExactMatPieces': WHATEVER THE INPUT: true; the input reads as it did. -/
def fnExactMatPiecesSpec : ChangeSpec := { name := "fnExactMatPieces", fn := fun _ => fun
  | [d1, d2] => { results := [.lit (.bool true)], args := [d1, d2] }
  | _ => none }
def fnExactMatPiecesRow : OpenClaim := { program := "ytgnllkkkkkcoaaa", sum := "5bf600b0ff0a92251252c9618cc5588857c229a46443ddc287e24b863fe4199b", func := "loop.example/g00849/laws.FnExactMatPieces", spec := "fnExactMatPieces", apart := false }
def FnExactMatPiecesSaid : Prop := fnExactMatPiecesRow.holds Try.pinned (OpenSpec.ofChange fnExactMatPiecesSpec)

/-- ITS FALSE NEIGHBOUR: 'it returns false'. Refute it at one input. -/
def fnExactMatPiecesWrong : ChangeSpec := { name := "fnExactMatPieces", fn := fun _ => fun
  | [d1, d2] => { results := [.lit (.bool false)], args := [d1, d2] }
  | _ => none }
def FnExactMatPiecesWrongFalsely : Prop := fnExactMatPiecesRow.holds Try.pinned (OpenSpec.ofChange fnExactMatPiecesWrong)

/-- 'laws.FnExactMatInv': WHATEVER THE INPUT: true; the input reads as it did. -/
def fnExactMatInvSpec : ChangeSpec := { name := "fnExactMatInv", fn := fun _ => fun
  | [d] => { results := [.lit (.bool true)], args := [d] }
  | _ => none }
def fnExactMatInvRow : OpenClaim := { program := "ytgnllkkkkkcoaaa", sum := "5bf600b0ff0a92251252c9618cc5588857c229a46443ddc287e24b863fe4199b", func := "loop.example/g00849/laws.FnExactMatInv", spec := "fnExactMatInv", apart := false }
def FnExactMatInvSaid : Prop := fnExactMatInvRow.holds Try.pinned (OpenSpec.ofChange fnExactMatInvSpec)

/-- ITS FALSE NEIGHBOUR: 'it returns false'. Refute it at one input. -/
def fnExactMatInvWrong : ChangeSpec := { name := "fnExactMatInv", fn := fun _ => fun
  | [d] => { results := [.lit (.bool false)], args := [d] }
  | _ => none }
def FnExactMatInvWrongFalsely : Prop := fnExactMatInvRow.holds Try.pinned (OpenSpec.ofChange fnExactMatInvWrong)

/-- 'laws.FnExactCodeOk': WHATEVER THE INPUT: true; the input reads as it did. -/
def fnExactCodeOkSpec : ChangeSpec := { name := "fnExactCodeOk", fn := fun _ => fun
  | [d] => { results := [.lit (.bool true)], args := [d] }
  | _ => none }
def fnExactCodeOkRow : OpenClaim := { program := "ytgnllkkkkkcoaaa", sum := "5bf600b0ff0a92251252c9618cc5588857c229a46443ddc287e24b863fe4199b", func := "loop.example/g00849/laws.FnExactCodeOk", spec := "fnExactCodeOk", apart := false }
def FnExactCodeOkSaid : Prop := fnExactCodeOkRow.holds Try.pinned (OpenSpec.ofChange fnExactCodeOkSpec)

/-- ITS FALSE NEIGHBOUR: 'it returns false'. Refute it at one input. -/
def fnExactCodeOkWrong : ChangeSpec := { name := "fnExactCodeOk", fn := fun _ => fun
  | [d] => { results := [.lit (.bool false)], args := [d] }
  | _ => none }
def FnExactCodeOkWrongFalsely : Prop := fnExactCodeOkRow.holds Try.pinned (OpenSpec.ofChange fnExactCodeOkWrong)

/-- 'laws.FnExactPieceSize': WHATEVER THE INPUT: true; the input reads as it did. -/
def fnExactPieceSizeSpec : ChangeSpec := { name := "fnExactPieceSize", fn := fun _ => fun
  | [d1, d2] => { results := [.lit (.bool true)], args := [d1, d2] }
  | _ => none }
def fnExactPieceSizeRow : OpenClaim := { program := "ytgnllkkkkkcoaaa", sum := "5bf600b0ff0a92251252c9618cc5588857c229a46443ddc287e24b863fe4199b", func := "loop.example/g00849/laws.FnExactPieceSize", spec := "fnExactPieceSize", apart := false }
def FnExactPieceSizeSaid : Prop := fnExactPieceSizeRow.holds Try.pinned (OpenSpec.ofChange fnExactPieceSizeSpec)

/-- ITS FALSE NEIGHBOUR: 'it returns false'. Refute it at one input. -/
def fnExactPieceSizeWrong : ChangeSpec := { name := "fnExactPieceSize", fn := fun _ => fun
  | [d1, d2] => { results := [.lit (.bool false)], args := [d1, d2] }
  | _ => none }
def FnExactPieceSizeWrongFalsely : Prop := fnExactPieceSizeRow.holds Try.pinned (OpenSpec.ofChange fnExactPieceSizeWrong)

/- THE SECOND FORM. 'bulk': how many values and letters a reading holds, each counted each time it is reached (what is shared counts as often as it is met; a slice's spare places count too). A statement '..UptoSaid' is the law's where the arguments, and the package variables that the reading takes, are together of bulk at most 1048576: NARROWER than '..Said'. Prove '..Said' where nothing that the law and all that it calls make is longer than what came in: it says more and counts as full. Else prove '..UptoSaid'. A law counts once. -/
mutual
def uptoBulk {H : Type} : DataW H → Nat
  | .lit (.string bytes) => bytes.length + 1
  | .lit _ => 1
  | .nil => 1
  | .ptr d => uptoBulk d + 1
  | .slice elems spare => uptoBulkAll elems + uptoBulkAll spare + 1
  | .agg parts => uptoBulkAll parts + 1
  | .iface _ d => uptoBulk d + 1
  | .map entries => uptoBulkEntries entries + 1
  | .held _ => 1
def uptoBulkAll {H : Type} : List (DataW H) → Nat
  | [] => 0
  | d :: r => uptoBulk d + uptoBulkAll r
def uptoBulkEntries {H : Type} : List (Lit × DataW H) → Nat
  | [] => 0
  | x :: r => uptoBulkEntry x + uptoBulkEntries r
def uptoBulkEntry {H : Type} : Lit × DataW H → Nat
  | (.string bytes, d) => bytes.length + uptoBulk d + 1
  | (_, d) => uptoBulk d + 1
 end
def uptoSmall : (H : Type) → List (DataW H) → Bool := fun _ ds => decide (uptoBulkAll ds ≤ 1048576)
def OpenSpec.upto (s : _root_.Go.ChangeSpec) : _root_.Go.OpenSpec := { _root_.Go.OpenSpec.ofChange s with cond := some uptoSmall }

/-- 'laws.FnExactGetHex', WHERE WHAT IT READS IS OF BULK AT MOST 1048576: true; the input reads as it did. -/
def fnExactGetHexUptoRow : OpenClaim := { program := "ytgnllkkkkkcoaaa", sum := "5bf600b0ff0a92251252c9618cc5588857c229a46443ddc287e24b863fe4199b", func := "loop.example/g00849/laws.FnExactGetHex", spec := "fnExactGetHex", inPlace := ["internal/bytealg.IndexByteString", "internal/bytealg.IndexString"], named := ["internal/bytealg.MaxLen"], apart := false, narrowed := true }
def FnExactGetHexUptoSaid : Prop := fnExactGetHexUptoRow.holds Try.pinned (OpenSpec.upto fnExactGetHexSpec)

/-- 'laws.FnExactGfScale', WHERE WHAT IT READS IS OF BULK AT MOST 1048576: true; the input reads as it did. -/
def fnExactGfScaleUptoRow : OpenClaim := { program := "ytgnllkkkkkcoaaa", sum := "5bf600b0ff0a92251252c9618cc5588857c229a46443ddc287e24b863fe4199b", func := "loop.example/g00849/laws.FnExactGfScale", spec := "fnExactGfScale", apart := false, narrowed := true }
def FnExactGfScaleUptoSaid : Prop := fnExactGfScaleUptoRow.holds Try.pinned (OpenSpec.upto fnExactGfScaleSpec)

/-- 'laws.FnExactMatrixOk', WHERE WHAT IT READS IS OF BULK AT MOST 1048576: true; the input reads as it did. -/
def fnExactMatrixOkUptoRow : OpenClaim := { program := "ytgnllkkkkkcoaaa", sum := "5bf600b0ff0a92251252c9618cc5588857c229a46443ddc287e24b863fe4199b", func := "loop.example/g00849/laws.FnExactMatrixOk", spec := "fnExactMatrixOk", apart := false, narrowed := true }
def FnExactMatrixOkUptoSaid : Prop := fnExactMatrixOkUptoRow.holds Try.pinned (OpenSpec.upto fnExactMatrixOkSpec)

/-- 'laws.FnExactMatUnit', WHERE WHAT IT READS IS OF BULK AT MOST 1048576: true; the input reads as it did. -/
def fnExactMatUnitUptoRow : OpenClaim := { program := "ytgnllkkkkkcoaaa", sum := "5bf600b0ff0a92251252c9618cc5588857c229a46443ddc287e24b863fe4199b", func := "loop.example/g00849/laws.FnExactMatUnit", spec := "fnExactMatUnit", apart := false, narrowed := true }
def FnExactMatUnitUptoSaid : Prop := fnExactMatUnitUptoRow.holds Try.pinned (OpenSpec.upto fnExactMatUnitSpec)

/-- 'laws.FnExactMatMul', WHERE WHAT IT READS IS OF BULK AT MOST 1048576: true; the input reads as it did. -/
def fnExactMatMulUptoRow : OpenClaim := { program := "ytgnllkkkkkcoaaa", sum := "5bf600b0ff0a92251252c9618cc5588857c229a46443ddc287e24b863fe4199b", func := "loop.example/g00849/laws.FnExactMatMul", spec := "fnExactMatMul", apart := false, narrowed := true }
def FnExactMatMulUptoSaid : Prop := fnExactMatMulUptoRow.holds Try.pinned (OpenSpec.upto fnExactMatMulSpec)

/-- 'laws.FnExactMatRows', WHERE WHAT IT READS IS OF BULK AT MOST 1048576: true; the input reads as it did. -/
def fnExactMatRowsUptoRow : OpenClaim := { program := "ytgnllkkkkkcoaaa", sum := "5bf600b0ff0a92251252c9618cc5588857c229a46443ddc287e24b863fe4199b", func := "loop.example/g00849/laws.FnExactMatRows", spec := "fnExactMatRows", apart := false, narrowed := true }
def FnExactMatRowsUptoSaid : Prop := fnExactMatRowsUptoRow.holds Try.pinned (OpenSpec.upto fnExactMatRowsSpec)

/-- 'laws.FnExactCodeMatrix', WHERE WHAT IT READS IS OF BULK AT MOST 1048576: true; the input reads as it did. -/
def fnExactCodeMatrixUptoRow : OpenClaim := { program := "ytgnllkkkkkcoaaa", sum := "5bf600b0ff0a92251252c9618cc5588857c229a46443ddc287e24b863fe4199b", func := "loop.example/g00849/laws.FnExactCodeMatrix", spec := "fnExactCodeMatrix", apart := false, narrowed := true }
def FnExactCodeMatrixUptoSaid : Prop := fnExactCodeMatrixUptoRow.holds Try.pinned (OpenSpec.upto fnExactCodeMatrixSpec)

/-- 'laws.FnExactSameMatrix', WHERE WHAT IT READS IS OF BULK AT MOST 1048576: true; the input reads as it did. -/
def fnExactSameMatrixUptoRow : OpenClaim := { program := "ytgnllkkkkkcoaaa", sum := "5bf600b0ff0a92251252c9618cc5588857c229a46443ddc287e24b863fe4199b", func := "loop.example/g00849/laws.FnExactSameMatrix", spec := "fnExactSameMatrix", apart := false, narrowed := true }
def FnExactSameMatrixUptoSaid : Prop := fnExactSameMatrixUptoRow.holds Try.pinned (OpenSpec.upto fnExactSameMatrixSpec)

/-- 'laws.FnExactMatPieces', WHERE WHAT IT READS IS OF BULK AT MOST 1048576: true; the input reads as it did. -/
def fnExactMatPiecesUptoRow : OpenClaim := { program := "ytgnllkkkkkcoaaa", sum := "5bf600b0ff0a92251252c9618cc5588857c229a46443ddc287e24b863fe4199b", func := "loop.example/g00849/laws.FnExactMatPieces", spec := "fnExactMatPieces", apart := false, narrowed := true }
def FnExactMatPiecesUptoSaid : Prop := fnExactMatPiecesUptoRow.holds Try.pinned (OpenSpec.upto fnExactMatPiecesSpec)

/-- 'laws.FnExactMatInv', WHERE WHAT IT READS IS OF BULK AT MOST 1048576: true; the input reads as it did. -/
def fnExactMatInvUptoRow : OpenClaim := { program := "ytgnllkkkkkcoaaa", sum := "5bf600b0ff0a92251252c9618cc5588857c229a46443ddc287e24b863fe4199b", func := "loop.example/g00849/laws.FnExactMatInv", spec := "fnExactMatInv", apart := false, narrowed := true }
def FnExactMatInvUptoSaid : Prop := fnExactMatInvUptoRow.holds Try.pinned (OpenSpec.upto fnExactMatInvSpec)

/-- 'laws.FnExactCodeOk', WHERE WHAT IT READS IS OF BULK AT MOST 1048576: true; the input reads as it did. -/
def fnExactCodeOkUptoRow : OpenClaim := { program := "ytgnllkkkkkcoaaa", sum := "5bf600b0ff0a92251252c9618cc5588857c229a46443ddc287e24b863fe4199b", func := "loop.example/g00849/laws.FnExactCodeOk", spec := "fnExactCodeOk", apart := false, narrowed := true }
def FnExactCodeOkUptoSaid : Prop := fnExactCodeOkUptoRow.holds Try.pinned (OpenSpec.upto fnExactCodeOkSpec)

/-- 'laws.FnExactPieceSize', WHERE WHAT IT READS IS OF BULK AT MOST 1048576: true; the input reads as it did. -/
def fnExactPieceSizeUptoRow : OpenClaim := { program := "ytgnllkkkkkcoaaa", sum := "5bf600b0ff0a92251252c9618cc5588857c229a46443ddc287e24b863fe4199b", func := "loop.example/g00849/laws.FnExactPieceSize", spec := "fnExactPieceSize", apart := false, narrowed := true }
def FnExactPieceSizeUptoSaid : Prop := fnExactPieceSizeUptoRow.holds Try.pinned (OpenSpec.upto fnExactPieceSizeSpec)

end Rows
end Go.Proofs.Ytgnllkkkkkcoaaa
