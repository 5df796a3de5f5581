/-
  No cell of these rows narrows 'for every input' (looked for: loops, veiled, ifaces, maps, wideKeys, modest, calm, conditions, laid).
  DERIVED. THE GIVEN ROWS OF THIS SEAT. 11 by the template 'for every input the law returns true; each argument reads behind the call as it read before'; 0 by the template 'total and deterministic' (their statements: YtpafhbnjefdhjaaTotals.lean).
  GIVEN WITH THE SEED: the statements are not yours to turn. If you find one false, say at which input.
  Laid BY PROGRAM, IN A SANDBOX (cutbox-rows.mjs): the forced cells as the released guide's own fill.sh prints them over the translation 88c5eed4c232c672… (all of the seat's roots in one cut). By AI agents, Wed Nov 11 2026. No macro, syntax, notation, axiom, sorry.
-/
import Derived.Test.YtpafhbnjefdhjaaChecked
import GoSem.Claim
import GoSem.ClaimJoined
import GoSem.ClaimMapViews
import Derived.JoinedTies
import Derived.KernelRfl
namespace Go.Proofs.Ytpafhbnjefdhjaa
/- THE CELL 'sum', in the pinned program and in every row, IS THE sha256 OF THE DUMP (.gsa) THAT YtpafhbnjefdhjaaProg.lean LOADS. Nothing in Lean hashes anything: it is a label: what it is worth is what the hold of that sum in a sandbox is worth. -/
noncomputable def Try.pinned : Pinned := { name := "ytpafhbnjefdhjaa", sum := "88c5eed4c232c6726a86d44863cbb250bc34d6f5ea0a35c7cb4cf551c0566dae", checked := Try.checked }
namespace Rows
def none {H : Type} : Left H := { results := [], args := [] }

/-- 'laws.FnExactDiskOk': WHATEVER THE INPUT: true; the input reads as it did. -/
def fnExactDiskOkSpec : ChangeSpec := { name := "fnExactDiskOk", fn := fun _ => fun
  | [d] => { results := [.lit (.bool true)], args := [d] }
  | _ => none }
def fnExactDiskOkRow : OpenClaim := { program := "ytpafhbnjefdhjaa", sum := "88c5eed4c232c6726a86d44863cbb250bc34d6f5ea0a35c7cb4cf551c0566dae", func := "loop.example/g00849/laws.FnExactDiskOk", spec := "fnExactDiskOk", unfollowed := true, recurses := true, apart := false }
def FnExactDiskOkSaid : Prop := fnExactDiskOkRow.holds Try.pinned (OpenSpec.ofChange fnExactDiskOkSpec)

/-- ITS FALSE NEIGHBOUR: 'it returns false'. Refute it at one input. -/
def fnExactDiskOkWrong : ChangeSpec := { name := "fnExactDiskOk", fn := fun _ => fun
  | [d] => { results := [.lit (.bool false)], args := [d] }
  | _ => none }
def FnExactDiskOkWrongFalsely : Prop := fnExactDiskOkRow.holds Try.pinned (OpenSpec.ofChange fnExactDiskOkWrong)

/-- 'laws.FnExactNewDisk': WHATEVER THE INPUT: true; the input reads as it did. -/
def fnExactNewDiskSpec : ChangeSpec := { name := "fnExactNewDisk", fn := fun _ => fun
  | [d] => { results := [.lit (.bool true)], args := [d] }
  | _ => none }
def fnExactNewDiskRow : OpenClaim := { program := "ytpafhbnjefdhjaa", sum := "88c5eed4c232c6726a86d44863cbb250bc34d6f5ea0a35c7cb4cf551c0566dae", func := "loop.example/g00849/laws.FnExactNewDisk", spec := "fnExactNewDisk", inPlace := ["internal/abi.NoEscape", "internal/bytealg.MakeNoZero"], apart := false }
def FnExactNewDiskSaid : Prop := fnExactNewDiskRow.holds Try.pinned (OpenSpec.ofChange fnExactNewDiskSpec)

/-- ITS FALSE NEIGHBOUR: 'it returns false'. Refute it at one input. -/
def fnExactNewDiskWrong : ChangeSpec := { name := "fnExactNewDisk", fn := fun _ => fun
  | [d] => { results := [.lit (.bool false)], args := [d] }
  | _ => none }
def FnExactNewDiskWrongFalsely : Prop := fnExactNewDiskRow.holds Try.pinned (OpenSpec.ofChange fnExactNewDiskWrong)

/-- 'laws.FnExactReadSector': WHATEVER THE INPUT: true; the input reads as it did. -/
def fnExactReadSectorSpec : ChangeSpec := { name := "fnExactReadSector", fn := fun _ => fun
  | [d1, d2] => { results := [.lit (.bool true)], args := [d1, d2] }
  | _ => none }
def fnExactReadSectorRow : OpenClaim := { program := "ytpafhbnjefdhjaa", sum := "88c5eed4c232c6726a86d44863cbb250bc34d6f5ea0a35c7cb4cf551c0566dae", func := "loop.example/g00849/laws.FnExactReadSector", spec := "fnExactReadSector", unfollowed := true, recurses := true, apart := false }
def FnExactReadSectorSaid : Prop := fnExactReadSectorRow.holds Try.pinned (OpenSpec.ofChange fnExactReadSectorSpec)

/-- ITS FALSE NEIGHBOUR: 'it returns false'. Refute it at one input. -/
def fnExactReadSectorWrong : ChangeSpec := { name := "fnExactReadSector", fn := fun _ => fun
  | [d1, d2] => { results := [.lit (.bool false)], args := [d1, d2] }
  | _ => none }
def FnExactReadSectorWrongFalsely : Prop := fnExactReadSectorRow.holds Try.pinned (OpenSpec.ofChange fnExactReadSectorWrong)

/-- 'laws.FnExactWriteSector': WHATEVER THE INPUT: true; the input reads as it did. -/
def fnExactWriteSectorSpec : ChangeSpec := { name := "fnExactWriteSector", fn := fun _ => fun
  | [d1, d2, d3] => { results := [.lit (.bool true)], args := [d1, d2, d3] }
  | _ => none }
def fnExactWriteSectorRow : OpenClaim := { program := "ytpafhbnjefdhjaa", sum := "88c5eed4c232c6726a86d44863cbb250bc34d6f5ea0a35c7cb4cf551c0566dae", func := "loop.example/g00849/laws.FnExactWriteSector", spec := "fnExactWriteSector", unfollowed := true, recurses := true, apart := false }
def FnExactWriteSectorSaid : Prop := fnExactWriteSectorRow.holds Try.pinned (OpenSpec.ofChange fnExactWriteSectorSpec)

/-- ITS FALSE NEIGHBOUR: 'it returns false'. Refute it at one input. -/
def fnExactWriteSectorWrong : ChangeSpec := { name := "fnExactWriteSector", fn := fun _ => fun
  | [d1, d2, d3] => { results := [.lit (.bool false)], args := [d1, d2, d3] }
  | _ => none }
def FnExactWriteSectorWrongFalsely : Prop := fnExactWriteSectorRow.holds Try.pinned (OpenSpec.ofChange fnExactWriteSectorWrong)

/-- 'laws.FnExactWriteAll': WHATEVER THE INPUT: true; the input reads as it did. -/
def fnExactWriteAllSpec : ChangeSpec := { name := "fnExactWriteAll", fn := fun _ => fun
  | [d1, d2, d3] => { results := [.lit (.bool true)], args := [d1, d2, d3] }
  | _ => none }
def fnExactWriteAllRow : OpenClaim := { program := "ytpafhbnjefdhjaa", sum := "88c5eed4c232c6726a86d44863cbb250bc34d6f5ea0a35c7cb4cf551c0566dae", func := "loop.example/g00849/laws.FnExactWriteAll", spec := "fnExactWriteAll", unfollowed := true, recurses := true, apart := false }
def FnExactWriteAllSaid : Prop := fnExactWriteAllRow.holds Try.pinned (OpenSpec.ofChange fnExactWriteAllSpec)

/-- ITS FALSE NEIGHBOUR: 'it returns false'. Refute it at one input. -/
def fnExactWriteAllWrong : ChangeSpec := { name := "fnExactWriteAll", fn := fun _ => fun
  | [d1, d2, d3] => { results := [.lit (.bool false)], args := [d1, d2, d3] }
  | _ => none }
def FnExactWriteAllWrongFalsely : Prop := fnExactWriteAllRow.holds Try.pinned (OpenSpec.ofChange fnExactWriteAllWrong)

/-- 'laws.FnExactFlushDisk': WHATEVER THE INPUT: true; the input reads as it did. -/
def fnExactFlushDiskSpec : ChangeSpec := { name := "fnExactFlushDisk", fn := fun _ => fun
  | [d] => { results := [.lit (.bool true)], args := [d] }
  | _ => none }
def fnExactFlushDiskRow : OpenClaim := { program := "ytpafhbnjefdhjaa", sum := "88c5eed4c232c6726a86d44863cbb250bc34d6f5ea0a35c7cb4cf551c0566dae", func := "loop.example/g00849/laws.FnExactFlushDisk", spec := "fnExactFlushDisk", unfollowed := true, recurses := true, apart := false }
def FnExactFlushDiskSaid : Prop := fnExactFlushDiskRow.holds Try.pinned (OpenSpec.ofChange fnExactFlushDiskSpec)

/-- ITS FALSE NEIGHBOUR: 'it returns false'. Refute it at one input. -/
def fnExactFlushDiskWrong : ChangeSpec := { name := "fnExactFlushDisk", fn := fun _ => fun
  | [d] => { results := [.lit (.bool false)], args := [d] }
  | _ => none }
def FnExactFlushDiskWrongFalsely : Prop := fnExactFlushDiskRow.holds Try.pinned (OpenSpec.ofChange fnExactFlushDiskWrong)

/-- 'laws.FnExactPowerLoss': WHATEVER THE INPUT: true; the input reads as it did. -/
def fnExactPowerLossSpec : ChangeSpec := { name := "fnExactPowerLoss", fn := fun _ => fun
  | [d1, d2, d3] => { results := [.lit (.bool true)], args := [d1, d2, d3] }
  | _ => none }
def fnExactPowerLossRow : OpenClaim := { program := "ytpafhbnjefdhjaa", sum := "88c5eed4c232c6726a86d44863cbb250bc34d6f5ea0a35c7cb4cf551c0566dae", func := "loop.example/g00849/laws.FnExactPowerLoss", spec := "fnExactPowerLoss", unfollowed := true, recurses := true, apart := false }
def FnExactPowerLossSaid : Prop := fnExactPowerLossRow.holds Try.pinned (OpenSpec.ofChange fnExactPowerLossSpec)

/-- ITS FALSE NEIGHBOUR: 'it returns false'. Refute it at one input. -/
def fnExactPowerLossWrong : ChangeSpec := { name := "fnExactPowerLoss", fn := fun _ => fun
  | [d1, d2, d3] => { results := [.lit (.bool false)], args := [d1, d2, d3] }
  | _ => none }
def FnExactPowerLossWrongFalsely : Prop := fnExactPowerLossRow.holds Try.pinned (OpenSpec.ofChange fnExactPowerLossWrong)

/-- 'laws.FnExactRotSector': WHATEVER THE INPUT: true; the input reads as it did. -/
def fnExactRotSectorSpec : ChangeSpec := { name := "fnExactRotSector", fn := fun _ => fun
  | [d1, d2, d3, d4] => { results := [.lit (.bool true)], args := [d1, d2, d3, d4] }
  | _ => none }
def fnExactRotSectorRow : OpenClaim := { program := "ytpafhbnjefdhjaa", sum := "88c5eed4c232c6726a86d44863cbb250bc34d6f5ea0a35c7cb4cf551c0566dae", func := "loop.example/g00849/laws.FnExactRotSector", spec := "fnExactRotSector", unfollowed := true, recurses := true, apart := false }
def FnExactRotSectorSaid : Prop := fnExactRotSectorRow.holds Try.pinned (OpenSpec.ofChange fnExactRotSectorSpec)

/-- ITS FALSE NEIGHBOUR: 'it returns false'. Refute it at one input. -/
def fnExactRotSectorWrong : ChangeSpec := { name := "fnExactRotSector", fn := fun _ => fun
  | [d1, d2, d3, d4] => { results := [.lit (.bool false)], args := [d1, d2, d3, d4] }
  | _ => none }
def FnExactRotSectorWrongFalsely : Prop := fnExactRotSectorRow.holds Try.pinned (OpenSpec.ofChange fnExactRotSectorWrong)

/-- 'laws.FnDiskKeeps': WHATEVER THE INPUT: true; the input reads as it did. -/
def fnDiskKeepsSpec : ChangeSpec := { name := "fnDiskKeeps", fn := fun _ => fun
  | [d1, d2] => { results := [.lit (.bool true)], args := [d1, d2] }
  | _ => none }
def fnDiskKeepsRow : OpenClaim := { program := "ytpafhbnjefdhjaa", sum := "88c5eed4c232c6726a86d44863cbb250bc34d6f5ea0a35c7cb4cf551c0566dae", func := "loop.example/g00849/laws.FnDiskKeeps", spec := "fnDiskKeeps", unfollowed := true, recurses := true, apart := false }
def FnDiskKeepsSaid : Prop := fnDiskKeepsRow.holds Try.pinned (OpenSpec.ofChange fnDiskKeepsSpec)

/-- ITS FALSE NEIGHBOUR: 'it returns false'. Refute it at one input. -/
def fnDiskKeepsWrong : ChangeSpec := { name := "fnDiskKeeps", fn := fun _ => fun
  | [d1, d2] => { results := [.lit (.bool false)], args := [d1, d2] }
  | _ => none }
def FnDiskKeepsWrongFalsely : Prop := fnDiskKeepsRow.holds Try.pinned (OpenSpec.ofChange fnDiskKeepsWrong)

/-- 'laws.FnTorn': WHATEVER THE INPUT: true; the input reads as it did. -/
def fnTornSpec : ChangeSpec := { name := "fnTorn", fn := fun _ => fun
  | [d1, d2] => { results := [.lit (.bool true)], args := [d1, d2] }
  | _ => none }
def fnTornRow : OpenClaim := { program := "ytpafhbnjefdhjaa", sum := "88c5eed4c232c6726a86d44863cbb250bc34d6f5ea0a35c7cb4cf551c0566dae", func := "loop.example/g00849/laws.FnTorn", spec := "fnTorn", unfollowed := true, recurses := true, apart := false }
def FnTornSaid : Prop := fnTornRow.holds Try.pinned (OpenSpec.ofChange fnTornSpec)

/-- ITS FALSE NEIGHBOUR: 'it returns false'. Refute it at one input. -/
def fnTornWrong : ChangeSpec := { name := "fnTorn", fn := fun _ => fun
  | [d1, d2] => { results := [.lit (.bool false)], args := [d1, d2] }
  | _ => none }
def FnTornWrongFalsely : Prop := fnTornRow.holds Try.pinned (OpenSpec.ofChange fnTornWrong)

/-- 'laws.FnRotDisk': WHATEVER THE INPUT: true; the input reads as it did. -/
def fnRotDiskSpec : ChangeSpec := { name := "fnRotDisk", fn := fun _ => fun
  | [d1, d2] => { results := [.lit (.bool true)], args := [d1, d2] }
  | _ => none }
def fnRotDiskRow : OpenClaim := { program := "ytpafhbnjefdhjaa", sum := "88c5eed4c232c6726a86d44863cbb250bc34d6f5ea0a35c7cb4cf551c0566dae", func := "loop.example/g00849/laws.FnRotDisk", spec := "fnRotDisk", unfollowed := true, recurses := true, apart := false }
def FnRotDiskSaid : Prop := fnRotDiskRow.holds Try.pinned (OpenSpec.ofChange fnRotDiskSpec)

/-- ITS FALSE NEIGHBOUR: 'it returns false'. Refute it at one input. -/
def fnRotDiskWrong : ChangeSpec := { name := "fnRotDisk", fn := fun _ => fun
  | [d1, d2] => { results := [.lit (.bool false)], args := [d1, d2] }
  | _ => none }
def FnRotDiskWrongFalsely : Prop := fnRotDiskRow.holds Try.pinned (OpenSpec.ofChange fnRotDiskWrong)

/- THE SECOND FORM. 'bulk': how many values and letters a reading holds, each counted each time it is reached (what is shared counts as often as it is met; a slice's spare places count too). A statement '..UptoSaid' is the law's where the arguments, and the package variables that the reading takes, are together of bulk at most 1048576: NARROWER than '..Said'. Prove '..Said' where nothing that the law and all that it calls make is longer than what came in: it says more and counts as full. Else prove '..UptoSaid'. A law counts once. -/
mutual
def uptoBulk {H : Type} : DataW H → Nat
  | .lit (.string bytes) => bytes.length + 1
  | .lit _ => 1
  | .nil => 1
  | .ptr d => uptoBulk d + 1
  | .slice elems spare => uptoBulkAll elems + uptoBulkAll spare + 1
  | .agg parts => uptoBulkAll parts + 1
  | .iface _ d => uptoBulk d + 1
  | .map entries => uptoBulkEntries entries + 1
  | .held _ => 1
def uptoBulkAll {H : Type} : List (DataW H) → Nat
  | [] => 0
  | d :: r => uptoBulk d + uptoBulkAll r
def uptoBulkEntries {H : Type} : List (Lit × DataW H) → Nat
  | [] => 0
  | x :: r => uptoBulkEntry x + uptoBulkEntries r
def uptoBulkEntry {H : Type} : Lit × DataW H → Nat
  | (.string bytes, d) => bytes.length + uptoBulk d + 1
  | (_, d) => uptoBulk d + 1
 end
def uptoSmall : (H : Type) → List (DataW H) → Bool := fun _ ds => decide (uptoBulkAll ds ≤ 1048576)
def OpenSpec.upto (s : _root_.Go.ChangeSpec) : _root_.Go.OpenSpec := { _root_.Go.OpenSpec.ofChange s with cond := some uptoSmall }

/-- 'laws.FnExactDiskOk', WHERE WHAT IT READS IS OF BULK AT MOST 1048576: true; the input reads as it did. -/
def fnExactDiskOkUptoRow : OpenClaim := { program := "ytpafhbnjefdhjaa", sum := "88c5eed4c232c6726a86d44863cbb250bc34d6f5ea0a35c7cb4cf551c0566dae", func := "loop.example/g00849/laws.FnExactDiskOk", spec := "fnExactDiskOk", unfollowed := true, recurses := true, apart := false, narrowed := true }
def FnExactDiskOkUptoSaid : Prop := fnExactDiskOkUptoRow.holds Try.pinned (OpenSpec.upto fnExactDiskOkSpec)

/-- 'laws.FnExactNewDisk', WHERE WHAT IT READS IS OF BULK AT MOST 1048576: true; the input reads as it did. -/
def fnExactNewDiskUptoRow : OpenClaim := { program := "ytpafhbnjefdhjaa", sum := "88c5eed4c232c6726a86d44863cbb250bc34d6f5ea0a35c7cb4cf551c0566dae", func := "loop.example/g00849/laws.FnExactNewDisk", spec := "fnExactNewDisk", inPlace := ["internal/abi.NoEscape", "internal/bytealg.MakeNoZero"], apart := false, narrowed := true }
def FnExactNewDiskUptoSaid : Prop := fnExactNewDiskUptoRow.holds Try.pinned (OpenSpec.upto fnExactNewDiskSpec)

/-- 'laws.FnExactReadSector', WHERE WHAT IT READS IS OF BULK AT MOST 1048576: true; the input reads as it did. -/
def fnExactReadSectorUptoRow : OpenClaim := { program := "ytpafhbnjefdhjaa", sum := "88c5eed4c232c6726a86d44863cbb250bc34d6f5ea0a35c7cb4cf551c0566dae", func := "loop.example/g00849/laws.FnExactReadSector", spec := "fnExactReadSector", unfollowed := true, recurses := true, apart := false, narrowed := true }
def FnExactReadSectorUptoSaid : Prop := fnExactReadSectorUptoRow.holds Try.pinned (OpenSpec.upto fnExactReadSectorSpec)

/-- 'laws.FnExactWriteSector', WHERE WHAT IT READS IS OF BULK AT MOST 1048576: true; the input reads as it did. -/
def fnExactWriteSectorUptoRow : OpenClaim := { program := "ytpafhbnjefdhjaa", sum := "88c5eed4c232c6726a86d44863cbb250bc34d6f5ea0a35c7cb4cf551c0566dae", func := "loop.example/g00849/laws.FnExactWriteSector", spec := "fnExactWriteSector", unfollowed := true, recurses := true, apart := false, narrowed := true }
def FnExactWriteSectorUptoSaid : Prop := fnExactWriteSectorUptoRow.holds Try.pinned (OpenSpec.upto fnExactWriteSectorSpec)

/-- 'laws.FnExactWriteAll', WHERE WHAT IT READS IS OF BULK AT MOST 1048576: true; the input reads as it did. -/
def fnExactWriteAllUptoRow : OpenClaim := { program := "ytpafhbnjefdhjaa", sum := "88c5eed4c232c6726a86d44863cbb250bc34d6f5ea0a35c7cb4cf551c0566dae", func := "loop.example/g00849/laws.FnExactWriteAll", spec := "fnExactWriteAll", unfollowed := true, recurses := true, apart := false, narrowed := true }
def FnExactWriteAllUptoSaid : Prop := fnExactWriteAllUptoRow.holds Try.pinned (OpenSpec.upto fnExactWriteAllSpec)

/-- 'laws.FnExactFlushDisk', WHERE WHAT IT READS IS OF BULK AT MOST 1048576: true; the input reads as it did. -/
def fnExactFlushDiskUptoRow : OpenClaim := { program := "ytpafhbnjefdhjaa", sum := "88c5eed4c232c6726a86d44863cbb250bc34d6f5ea0a35c7cb4cf551c0566dae", func := "loop.example/g00849/laws.FnExactFlushDisk", spec := "fnExactFlushDisk", unfollowed := true, recurses := true, apart := false, narrowed := true }
def FnExactFlushDiskUptoSaid : Prop := fnExactFlushDiskUptoRow.holds Try.pinned (OpenSpec.upto fnExactFlushDiskSpec)

/-- 'laws.FnExactPowerLoss', WHERE WHAT IT READS IS OF BULK AT MOST 1048576: true; the input reads as it did. -/
def fnExactPowerLossUptoRow : OpenClaim := { program := "ytpafhbnjefdhjaa", sum := "88c5eed4c232c6726a86d44863cbb250bc34d6f5ea0a35c7cb4cf551c0566dae", func := "loop.example/g00849/laws.FnExactPowerLoss", spec := "fnExactPowerLoss", unfollowed := true, recurses := true, apart := false, narrowed := true }
def FnExactPowerLossUptoSaid : Prop := fnExactPowerLossUptoRow.holds Try.pinned (OpenSpec.upto fnExactPowerLossSpec)

/-- 'laws.FnExactRotSector', WHERE WHAT IT READS IS OF BULK AT MOST 1048576: true; the input reads as it did. -/
def fnExactRotSectorUptoRow : OpenClaim := { program := "ytpafhbnjefdhjaa", sum := "88c5eed4c232c6726a86d44863cbb250bc34d6f5ea0a35c7cb4cf551c0566dae", func := "loop.example/g00849/laws.FnExactRotSector", spec := "fnExactRotSector", unfollowed := true, recurses := true, apart := false, narrowed := true }
def FnExactRotSectorUptoSaid : Prop := fnExactRotSectorUptoRow.holds Try.pinned (OpenSpec.upto fnExactRotSectorSpec)

/-- 'laws.FnDiskKeeps', WHERE WHAT IT READS IS OF BULK AT MOST 1048576: true; the input reads as it did. -/
def fnDiskKeepsUptoRow : OpenClaim := { program := "ytpafhbnjefdhjaa", sum := "88c5eed4c232c6726a86d44863cbb250bc34d6f5ea0a35c7cb4cf551c0566dae", func := "loop.example/g00849/laws.FnDiskKeeps", spec := "fnDiskKeeps", unfollowed := true, recurses := true, apart := false, narrowed := true }
def FnDiskKeepsUptoSaid : Prop := fnDiskKeepsUptoRow.holds Try.pinned (OpenSpec.upto fnDiskKeepsSpec)

/-- 'laws.FnTorn', WHERE WHAT IT READS IS OF BULK AT MOST 1048576: true; the input reads as it did. -/
def fnTornUptoRow : OpenClaim := { program := "ytpafhbnjefdhjaa", sum := "88c5eed4c232c6726a86d44863cbb250bc34d6f5ea0a35c7cb4cf551c0566dae", func := "loop.example/g00849/laws.FnTorn", spec := "fnTorn", unfollowed := true, recurses := true, apart := false, narrowed := true }
def FnTornUptoSaid : Prop := fnTornUptoRow.holds Try.pinned (OpenSpec.upto fnTornSpec)

/-- 'laws.FnRotDisk', WHERE WHAT IT READS IS OF BULK AT MOST 1048576: true; the input reads as it did. -/
def fnRotDiskUptoRow : OpenClaim := { program := "ytpafhbnjefdhjaa", sum := "88c5eed4c232c6726a86d44863cbb250bc34d6f5ea0a35c7cb4cf551c0566dae", func := "loop.example/g00849/laws.FnRotDisk", spec := "fnRotDisk", unfollowed := true, recurses := true, apart := false, narrowed := true }
def FnRotDiskUptoSaid : Prop := fnRotDiskUptoRow.holds Try.pinned (OpenSpec.upto fnRotDiskSpec)

end Rows
end Go.Proofs.Ytpafhbnjefdhjaa
