/-
  No cell of these rows narrows 'for every input' (looked for: loops, veiled, ifaces, maps, wideKeys, modest, calm, conditions, laid).
  DERIVED. THE GIVEN ROWS OF THIS SEAT. 12 by the template 'for every input the law returns true; each argument reads behind the call as it read before'; 0 by the template 'total and deterministic' (their statements: YtmndkmkknkodhaaTotals.lean).
  GIVEN WITH THE SEED: the statements are not yours to turn. If you find one false, say at which input.
  Laid BY PROGRAM, IN A SANDBOX (cutbox-rows.mjs): the forced cells as the released guide's own fill.sh prints them over the translation 3ef6becbd43ea3c4… (all of the seat's roots in one cut). By AI agents, Wed Nov 11 2026. No macro, syntax, notation, axiom, sorry.
-/
import Derived.Test.YtmndkmkknkodhaaChecked
import GoSem.Claim
import GoSem.ClaimJoined
import GoSem.ClaimMapViews
import Derived.JoinedTies
import Derived.KernelRfl
namespace Go.Proofs.Ytmndkmkknkodhaa
/- THE CELL 'sum', in the pinned program and in every row, IS THE sha256 OF THE DUMP (.gsa) THAT YtmndkmkknkodhaaProg.lean LOADS. Nothing in Lean hashes anything: it is a label: what it is worth is what the hold of that sum in a sandbox is worth. -/
noncomputable def Try.pinned : Pinned := { name := "ytmndkmkknkodhaa", sum := "3ef6becbd43ea3c41482e58001b640f01418193f457066616958780e211c6744", checked := Try.checked }
namespace Rows
def none {H : Type} : Left H := { results := [], args := [] }

/-- 'laws.FnVars': WHATEVER THE INPUT: true; the input reads as it did. -/
def fnVarsSpec : ChangeSpec := { name := "fnVars", fn := fun _ => fun
  | [d] => { results := [.lit (.bool true)], args := [d] }
  | _ => none }
def fnVarsRow : OpenClaim := { program := "ytmndkmkknkodhaa", sum := "3ef6becbd43ea3c41482e58001b640f01418193f457066616958780e211c6744", func := "loop.example/g00849/laws.FnVars", spec := "fnVars", inPlace := ["internal/bytealg.IndexByteString", "internal/bytealg.IndexString"], named := ["internal/bytealg.MaxLen"], apart := false }
def FnVarsSaid : Prop := fnVarsRow.holds Try.pinned (OpenSpec.ofChange fnVarsSpec)

/-- ITS FALSE NEIGHBOUR: 'it returns false'. Refute it at one input. -/
def fnVarsWrong : ChangeSpec := { name := "fnVars", fn := fun _ => fun
  | [d] => { results := [.lit (.bool false)], args := [d] }
  | _ => none }
def FnVarsWrongFalsely : Prop := fnVarsRow.holds Try.pinned (OpenSpec.ofChange fnVarsWrong)

/-- 'laws.FnShares': WHATEVER THE INPUT: true; the input reads as it did. -/
def fnSharesSpec : ChangeSpec := { name := "fnShares", fn := fun _ => fun
  | [d] => { results := [.lit (.bool true)], args := [d] }
  | _ => none }
def fnSharesRow : OpenClaim := { program := "ytmndkmkknkodhaa", sum := "3ef6becbd43ea3c41482e58001b640f01418193f457066616958780e211c6744", func := "loop.example/g00849/laws.FnShares", spec := "fnShares", unfollowed := true, recurses := true, apart := false }
def FnSharesSaid : Prop := fnSharesRow.holds Try.pinned (OpenSpec.ofChange fnSharesSpec)

/-- ITS FALSE NEIGHBOUR: 'it returns false'. Refute it at one input. -/
def fnSharesWrong : ChangeSpec := { name := "fnShares", fn := fun _ => fun
  | [d] => { results := [.lit (.bool false)], args := [d] }
  | _ => none }
def FnSharesWrongFalsely : Prop := fnSharesRow.holds Try.pinned (OpenSpec.ofChange fnSharesWrong)

/-- 'laws.FnExactGetHex': WHATEVER THE INPUT: true; the input reads as it did. -/
def fnExactGetHexSpec : ChangeSpec := { name := "fnExactGetHex", fn := fun _ => fun
  | [d] => { results := [.lit (.bool true)], args := [d] }
  | _ => none }
def fnExactGetHexRow : OpenClaim := { program := "ytmndkmkknkodhaa", sum := "3ef6becbd43ea3c41482e58001b640f01418193f457066616958780e211c6744", func := "loop.example/g00849/laws.FnExactGetHex", spec := "fnExactGetHex", inPlace := ["internal/bytealg.IndexByteString", "internal/bytealg.IndexString"], named := ["internal/bytealg.MaxLen"], apart := false }
def FnExactGetHexSaid : Prop := fnExactGetHexRow.holds Try.pinned (OpenSpec.ofChange fnExactGetHexSpec)

/-- ITS FALSE NEIGHBOUR: 'it returns false'. Refute it at one input. -/
def fnExactGetHexWrong : ChangeSpec := { name := "fnExactGetHex", fn := fun _ => fun
  | [d] => { results := [.lit (.bool false)], args := [d] }
  | _ => none }
def FnExactGetHexWrongFalsely : Prop := fnExactGetHexRow.holds Try.pinned (OpenSpec.ofChange fnExactGetHexWrong)

/-- 'laws.FnExactMatRows': WHATEVER THE INPUT: true; the input reads as it did. -/
def fnExactMatRowsSpec : ChangeSpec := { name := "fnExactMatRows", fn := fun _ => fun
  | [d1, d2] => { results := [.lit (.bool true)], args := [d1, d2] }
  | _ => none }
def fnExactMatRowsRow : OpenClaim := { program := "ytmndkmkknkodhaa", sum := "3ef6becbd43ea3c41482e58001b640f01418193f457066616958780e211c6744", func := "loop.example/g00849/laws.FnExactMatRows", spec := "fnExactMatRows", apart := false }
def FnExactMatRowsSaid : Prop := fnExactMatRowsRow.holds Try.pinned (OpenSpec.ofChange fnExactMatRowsSpec)

/-- ITS FALSE NEIGHBOUR: 'it returns false'. Refute it at one input. -/
def fnExactMatRowsWrong : ChangeSpec := { name := "fnExactMatRows", fn := fun _ => fun
  | [d1, d2] => { results := [.lit (.bool false)], args := [d1, d2] }
  | _ => none }
def FnExactMatRowsWrongFalsely : Prop := fnExactMatRowsRow.holds Try.pinned (OpenSpec.ofChange fnExactMatRowsWrong)

/-- 'laws.FnExactHaveOk': WHATEVER THE INPUT: true; the input reads as it did. -/
def fnExactHaveOkSpec : ChangeSpec := { name := "fnExactHaveOk", fn := fun _ => fun
  | [d1, d2, d3] => { results := [.lit (.bool true)], args := [d1, d2, d3] }
  | _ => none }
def fnExactHaveOkRow : OpenClaim := { program := "ytmndkmkknkodhaa", sum := "3ef6becbd43ea3c41482e58001b640f01418193f457066616958780e211c6744", func := "loop.example/g00849/laws.FnExactHaveOk", spec := "fnExactHaveOk", unfollowed := true, recurses := true, apart := false }
def FnExactHaveOkSaid : Prop := fnExactHaveOkRow.holds Try.pinned (OpenSpec.ofChange fnExactHaveOkSpec)

/-- ITS FALSE NEIGHBOUR: 'it returns false'. Refute it at one input. -/
def fnExactHaveOkWrong : ChangeSpec := { name := "fnExactHaveOk", fn := fun _ => fun
  | [d1, d2, d3] => { results := [.lit (.bool false)], args := [d1, d2, d3] }
  | _ => none }
def FnExactHaveOkWrongFalsely : Prop := fnExactHaveOkRow.holds Try.pinned (OpenSpec.ofChange fnExactHaveOkWrong)

/-- 'laws.FnExactWideOk': WHATEVER THE INPUT: true; the input reads as it did. -/
def fnExactWideOkSpec : ChangeSpec := { name := "fnExactWideOk", fn := fun _ => fun
  | [d] => { results := [.lit (.bool true)], args := [d] }
  | _ => none }
def fnExactWideOkRow : OpenClaim := { program := "ytmndkmkknkodhaa", sum := "3ef6becbd43ea3c41482e58001b640f01418193f457066616958780e211c6744", func := "loop.example/g00849/laws.FnExactWideOk", spec := "fnExactWideOk", unfollowed := true, recurses := true, apart := false }
def FnExactWideOkSaid : Prop := fnExactWideOkRow.holds Try.pinned (OpenSpec.ofChange fnExactWideOkSpec)

/-- ITS FALSE NEIGHBOUR: 'it returns false'. Refute it at one input. -/
def fnExactWideOkWrong : ChangeSpec := { name := "fnExactWideOk", fn := fun _ => fun
  | [d] => { results := [.lit (.bool false)], args := [d] }
  | _ => none }
def FnExactWideOkWrongFalsely : Prop := fnExactWideOkRow.holds Try.pinned (OpenSpec.ofChange fnExactWideOkWrong)

/-- 'laws.FnExactCellOf': WHATEVER THE INPUT: true; the input reads as it did. -/
def fnExactCellOfSpec : ChangeSpec := { name := "fnExactCellOf", fn := fun _ => fun
  | [d1, d2] => { results := [.lit (.bool true)], args := [d1, d2] }
  | _ => none }
def fnExactCellOfRow : OpenClaim := { program := "ytmndkmkknkodhaa", sum := "3ef6becbd43ea3c41482e58001b640f01418193f457066616958780e211c6744", func := "loop.example/g00849/laws.FnExactCellOf", spec := "fnExactCellOf", unfollowed := true, recurses := true, apart := false }
def FnExactCellOfSaid : Prop := fnExactCellOfRow.holds Try.pinned (OpenSpec.ofChange fnExactCellOfSpec)

/-- ITS FALSE NEIGHBOUR: 'it returns false'. Refute it at one input. -/
def fnExactCellOfWrong : ChangeSpec := { name := "fnExactCellOf", fn := fun _ => fun
  | [d1, d2] => { results := [.lit (.bool false)], args := [d1, d2] }
  | _ => none }
def FnExactCellOfWrongFalsely : Prop := fnExactCellOfRow.holds Try.pinned (OpenSpec.ofChange fnExactCellOfWrong)

/-- 'laws.FnExactItemsOk': WHATEVER THE INPUT: true; the input reads as it did. -/
def fnExactItemsOkSpec : ChangeSpec := { name := "fnExactItemsOk", fn := fun _ => fun
  | [d] => { results := [.lit (.bool true)], args := [d] }
  | _ => none }
def fnExactItemsOkRow : OpenClaim := { program := "ytmndkmkknkodhaa", sum := "3ef6becbd43ea3c41482e58001b640f01418193f457066616958780e211c6744", func := "loop.example/g00849/laws.FnExactItemsOk", spec := "fnExactItemsOk", apart := false }
def FnExactItemsOkSaid : Prop := fnExactItemsOkRow.holds Try.pinned (OpenSpec.ofChange fnExactItemsOkSpec)

/-- ITS FALSE NEIGHBOUR: 'it returns false'. Refute it at one input. -/
def fnExactItemsOkWrong : ChangeSpec := { name := "fnExactItemsOk", fn := fun _ => fun
  | [d] => { results := [.lit (.bool false)], args := [d] }
  | _ => none }
def FnExactItemsOkWrongFalsely : Prop := fnExactItemsOkRow.holds Try.pinned (OpenSpec.ofChange fnExactItemsOkWrong)

/-- 'laws.FnExactTicketOf': WHATEVER THE INPUT: true; the input reads as it did. -/
def fnExactTicketOfSpec : ChangeSpec := { name := "fnExactTicketOf", fn := fun _ => fun
  | [d1, d2, d3, d4] => { results := [.lit (.bool true)], args := [d1, d2, d3, d4] }
  | _ => none }
def fnExactTicketOfRow : OpenClaim := { program := "ytmndkmkknkodhaa", sum := "3ef6becbd43ea3c41482e58001b640f01418193f457066616958780e211c6744", func := "loop.example/g00849/laws.FnExactTicketOf", spec := "fnExactTicketOf", apart := false }
def FnExactTicketOfSaid : Prop := fnExactTicketOfRow.holds Try.pinned (OpenSpec.ofChange fnExactTicketOfSpec)

/-- ITS FALSE NEIGHBOUR: 'it returns false'. Refute it at one input. -/
def fnExactTicketOfWrong : ChangeSpec := { name := "fnExactTicketOf", fn := fun _ => fun
  | [d1, d2, d3, d4] => { results := [.lit (.bool false)], args := [d1, d2, d3, d4] }
  | _ => none }
def FnExactTicketOfWrongFalsely : Prop := fnExactTicketOfRow.holds Try.pinned (OpenSpec.ofChange fnExactTicketOfWrong)

/-- 'laws.FnExactBestTicket': WHATEVER THE INPUT: true; the input reads as it did. -/
def fnExactBestTicketSpec : ChangeSpec := { name := "fnExactBestTicket", fn := fun _ => fun
  | [d1, d2, d3] => { results := [.lit (.bool true)], args := [d1, d2, d3] }
  | _ => none }
def fnExactBestTicketRow : OpenClaim := { program := "ytmndkmkknkodhaa", sum := "3ef6becbd43ea3c41482e58001b640f01418193f457066616958780e211c6744", func := "loop.example/g00849/laws.FnExactBestTicket", spec := "fnExactBestTicket", apart := false }
def FnExactBestTicketSaid : Prop := fnExactBestTicketRow.holds Try.pinned (OpenSpec.ofChange fnExactBestTicketSpec)

/-- ITS FALSE NEIGHBOUR: 'it returns false'. Refute it at one input. -/
def fnExactBestTicketWrong : ChangeSpec := { name := "fnExactBestTicket", fn := fun _ => fun
  | [d1, d2, d3] => { results := [.lit (.bool false)], args := [d1, d2, d3] }
  | _ => none }
def FnExactBestTicketWrongFalsely : Prop := fnExactBestTicketRow.holds Try.pinned (OpenSpec.ofChange fnExactBestTicketWrong)

/-- 'laws.FnExactChooseOne': WHATEVER THE INPUT: true; the input reads as it did. -/
def fnExactChooseOneSpec : ChangeSpec := { name := "fnExactChooseOne", fn := fun _ => fun
  | [d1, d2, d3] => { results := [.lit (.bool true)], args := [d1, d2, d3] }
  | _ => none }
def fnExactChooseOneRow : OpenClaim := { program := "ytmndkmkknkodhaa", sum := "3ef6becbd43ea3c41482e58001b640f01418193f457066616958780e211c6744", func := "loop.example/g00849/laws.FnExactChooseOne", spec := "fnExactChooseOne", unfollowed := true, recurses := true, apart := false }
def FnExactChooseOneSaid : Prop := fnExactChooseOneRow.holds Try.pinned (OpenSpec.ofChange fnExactChooseOneSpec)

/-- ITS FALSE NEIGHBOUR: 'it returns false'. Refute it at one input. -/
def fnExactChooseOneWrong : ChangeSpec := { name := "fnExactChooseOne", fn := fun _ => fun
  | [d1, d2, d3] => { results := [.lit (.bool false)], args := [d1, d2, d3] }
  | _ => none }
def FnExactChooseOneWrongFalsely : Prop := fnExactChooseOneRow.holds Try.pinned (OpenSpec.ofChange fnExactChooseOneWrong)

/-- 'laws.FnExactDraws': WHATEVER THE INPUT: true; the input reads as it did. -/
def fnExactDrawsSpec : ChangeSpec := { name := "fnExactDraws", fn := fun _ => fun
  | [d1, d2, d3] => { results := [.lit (.bool true)], args := [d1, d2, d3] }
  | _ => none }
def fnExactDrawsRow : OpenClaim := { program := "ytmndkmkknkodhaa", sum := "3ef6becbd43ea3c41482e58001b640f01418193f457066616958780e211c6744", func := "loop.example/g00849/laws.FnExactDraws", spec := "fnExactDraws", unfollowed := true, recurses := true, apart := false }
def FnExactDrawsSaid : Prop := fnExactDrawsRow.holds Try.pinned (OpenSpec.ofChange fnExactDrawsSpec)

/-- ITS FALSE NEIGHBOUR: 'it returns false'. Refute it at one input. -/
def fnExactDrawsWrong : ChangeSpec := { name := "fnExactDraws", fn := fun _ => fun
  | [d1, d2, d3] => { results := [.lit (.bool false)], args := [d1, d2, d3] }
  | _ => none }
def FnExactDrawsWrongFalsely : Prop := fnExactDrawsRow.holds Try.pinned (OpenSpec.ofChange fnExactDrawsWrong)

/- THE SECOND FORM. 'bulk': how many values and letters a reading holds, each counted each time it is reached (what is shared counts as often as it is met; a slice's spare places count too). A statement '..UptoSaid' is the law's where the arguments, and the package variables that the reading takes, are together of bulk at most 1048576: NARROWER than '..Said'. Prove '..Said' where nothing that the law and all that it calls make is longer than what came in: it says more and counts as full. Else prove '..UptoSaid'. A law counts once. -/
mutual
def uptoBulk {H : Type} : DataW H → Nat
  | .lit (.string bytes) => bytes.length + 1
  | .lit _ => 1
  | .nil => 1
  | .ptr d => uptoBulk d + 1
  | .slice elems spare => uptoBulkAll elems + uptoBulkAll spare + 1
  | .agg parts => uptoBulkAll parts + 1
  | .iface _ d => uptoBulk d + 1
  | .map entries => uptoBulkEntries entries + 1
  | .held _ => 1
def uptoBulkAll {H : Type} : List (DataW H) → Nat
  | [] => 0
  | d :: r => uptoBulk d + uptoBulkAll r
def uptoBulkEntries {H : Type} : List (Lit × DataW H) → Nat
  | [] => 0
  | x :: r => uptoBulkEntry x + uptoBulkEntries r
def uptoBulkEntry {H : Type} : Lit × DataW H → Nat
  | (.string bytes, d) => bytes.length + uptoBulk d + 1
  | (_, d) => uptoBulk d + 1
 end
def uptoSmall : (H : Type) → List (DataW H) → Bool := fun _ ds => decide (uptoBulkAll ds ≤ 1048576)
def OpenSpec.upto (s : _root_.Go.ChangeSpec) : _root_.Go.OpenSpec := { _root_.Go.OpenSpec.ofChange s with cond := some uptoSmall }

/-- 'laws.FnVars', WHERE WHAT IT READS IS OF BULK AT MOST 1048576: true; the input reads as it did. -/
def fnVarsUptoRow : OpenClaim := { program := "ytmndkmkknkodhaa", sum := "3ef6becbd43ea3c41482e58001b640f01418193f457066616958780e211c6744", func := "loop.example/g00849/laws.FnVars", spec := "fnVars", inPlace := ["internal/bytealg.IndexByteString", "internal/bytealg.IndexString"], named := ["internal/bytealg.MaxLen"], apart := false, narrowed := true }
def FnVarsUptoSaid : Prop := fnVarsUptoRow.holds Try.pinned (OpenSpec.upto fnVarsSpec)

/-- 'laws.FnShares', WHERE WHAT IT READS IS OF BULK AT MOST 1048576: true; the input reads as it did. -/
def fnSharesUptoRow : OpenClaim := { program := "ytmndkmkknkodhaa", sum := "3ef6becbd43ea3c41482e58001b640f01418193f457066616958780e211c6744", func := "loop.example/g00849/laws.FnShares", spec := "fnShares", unfollowed := true, recurses := true, apart := false, narrowed := true }
def FnSharesUptoSaid : Prop := fnSharesUptoRow.holds Try.pinned (OpenSpec.upto fnSharesSpec)

/-- 'laws.FnExactGetHex', WHERE WHAT IT READS IS OF BULK AT MOST 1048576: true; the input reads as it did. -/
def fnExactGetHexUptoRow : OpenClaim := { program := "ytmndkmkknkodhaa", sum := "3ef6becbd43ea3c41482e58001b640f01418193f457066616958780e211c6744", func := "loop.example/g00849/laws.FnExactGetHex", spec := "fnExactGetHex", inPlace := ["internal/bytealg.IndexByteString", "internal/bytealg.IndexString"], named := ["internal/bytealg.MaxLen"], apart := false, narrowed := true }
def FnExactGetHexUptoSaid : Prop := fnExactGetHexUptoRow.holds Try.pinned (OpenSpec.upto fnExactGetHexSpec)

/-- 'laws.FnExactMatRows', WHERE WHAT IT READS IS OF BULK AT MOST 1048576: true; the input reads as it did. -/
def fnExactMatRowsUptoRow : OpenClaim := { program := "ytmndkmkknkodhaa", sum := "3ef6becbd43ea3c41482e58001b640f01418193f457066616958780e211c6744", func := "loop.example/g00849/laws.FnExactMatRows", spec := "fnExactMatRows", apart := false, narrowed := true }
def FnExactMatRowsUptoSaid : Prop := fnExactMatRowsUptoRow.holds Try.pinned (OpenSpec.upto fnExactMatRowsSpec)

/-- 'laws.FnExactHaveOk', WHERE WHAT IT READS IS OF BULK AT MOST 1048576: true; the input reads as it did. -/
def fnExactHaveOkUptoRow : OpenClaim := { program := "ytmndkmkknkodhaa", sum := "3ef6becbd43ea3c41482e58001b640f01418193f457066616958780e211c6744", func := "loop.example/g00849/laws.FnExactHaveOk", spec := "fnExactHaveOk", unfollowed := true, recurses := true, apart := false, narrowed := true }
def FnExactHaveOkUptoSaid : Prop := fnExactHaveOkUptoRow.holds Try.pinned (OpenSpec.upto fnExactHaveOkSpec)

/-- 'laws.FnExactWideOk', WHERE WHAT IT READS IS OF BULK AT MOST 1048576: true; the input reads as it did. -/
def fnExactWideOkUptoRow : OpenClaim := { program := "ytmndkmkknkodhaa", sum := "3ef6becbd43ea3c41482e58001b640f01418193f457066616958780e211c6744", func := "loop.example/g00849/laws.FnExactWideOk", spec := "fnExactWideOk", unfollowed := true, recurses := true, apart := false, narrowed := true }
def FnExactWideOkUptoSaid : Prop := fnExactWideOkUptoRow.holds Try.pinned (OpenSpec.upto fnExactWideOkSpec)

/-- 'laws.FnExactCellOf', WHERE WHAT IT READS IS OF BULK AT MOST 1048576: true; the input reads as it did. -/
def fnExactCellOfUptoRow : OpenClaim := { program := "ytmndkmkknkodhaa", sum := "3ef6becbd43ea3c41482e58001b640f01418193f457066616958780e211c6744", func := "loop.example/g00849/laws.FnExactCellOf", spec := "fnExactCellOf", unfollowed := true, recurses := true, apart := false, narrowed := true }
def FnExactCellOfUptoSaid : Prop := fnExactCellOfUptoRow.holds Try.pinned (OpenSpec.upto fnExactCellOfSpec)

/-- 'laws.FnExactItemsOk', WHERE WHAT IT READS IS OF BULK AT MOST 1048576: true; the input reads as it did. -/
def fnExactItemsOkUptoRow : OpenClaim := { program := "ytmndkmkknkodhaa", sum := "3ef6becbd43ea3c41482e58001b640f01418193f457066616958780e211c6744", func := "loop.example/g00849/laws.FnExactItemsOk", spec := "fnExactItemsOk", apart := false, narrowed := true }
def FnExactItemsOkUptoSaid : Prop := fnExactItemsOkUptoRow.holds Try.pinned (OpenSpec.upto fnExactItemsOkSpec)

/-- 'laws.FnExactTicketOf', WHERE WHAT IT READS IS OF BULK AT MOST 1048576: true; the input reads as it did. -/
def fnExactTicketOfUptoRow : OpenClaim := { program := "ytmndkmkknkodhaa", sum := "3ef6becbd43ea3c41482e58001b640f01418193f457066616958780e211c6744", func := "loop.example/g00849/laws.FnExactTicketOf", spec := "fnExactTicketOf", apart := false, narrowed := true }
def FnExactTicketOfUptoSaid : Prop := fnExactTicketOfUptoRow.holds Try.pinned (OpenSpec.upto fnExactTicketOfSpec)

/-- 'laws.FnExactBestTicket', WHERE WHAT IT READS IS OF BULK AT MOST 1048576: true; the input reads as it did. -/
def fnExactBestTicketUptoRow : OpenClaim := { program := "ytmndkmkknkodhaa", sum := "3ef6becbd43ea3c41482e58001b640f01418193f457066616958780e211c6744", func := "loop.example/g00849/laws.FnExactBestTicket", spec := "fnExactBestTicket", apart := false, narrowed := true }
def FnExactBestTicketUptoSaid : Prop := fnExactBestTicketUptoRow.holds Try.pinned (OpenSpec.upto fnExactBestTicketSpec)

/-- 'laws.FnExactChooseOne', WHERE WHAT IT READS IS OF BULK AT MOST 1048576: true; the input reads as it did. -/
def fnExactChooseOneUptoRow : OpenClaim := { program := "ytmndkmkknkodhaa", sum := "3ef6becbd43ea3c41482e58001b640f01418193f457066616958780e211c6744", func := "loop.example/g00849/laws.FnExactChooseOne", spec := "fnExactChooseOne", unfollowed := true, recurses := true, apart := false, narrowed := true }
def FnExactChooseOneUptoSaid : Prop := fnExactChooseOneUptoRow.holds Try.pinned (OpenSpec.upto fnExactChooseOneSpec)

/-- 'laws.FnExactDraws', WHERE WHAT IT READS IS OF BULK AT MOST 1048576: true; the input reads as it did. -/
def fnExactDrawsUptoRow : OpenClaim := { program := "ytmndkmkknkodhaa", sum := "3ef6becbd43ea3c41482e58001b640f01418193f457066616958780e211c6744", func := "loop.example/g00849/laws.FnExactDraws", spec := "fnExactDraws", unfollowed := true, recurses := true, apart := false, narrowed := true }
def FnExactDrawsUptoSaid : Prop := fnExactDrawsUptoRow.holds Try.pinned (OpenSpec.upto fnExactDrawsSpec)

end Rows
end Go.Proofs.Ytmndkmkknkodhaa
