/-
  The library's strings.TrimFunc in this program: the bodies are those that the library's contract was proved of. (PRUNE: none)
-/
import Derived.Shelf.GgClosure.StringsTrimFunc
import Derived.Test.YtcpljmhcokdhpaaGreatDoorProg
namespace Go.Proofs.YtcpljmhcokdhpaaGreatDoor.ShT
open Go.Shelf Go.Proofs
def lays237_ren : Go.Shelf.Ren := ⟨fun | 237 => 210 | 272 => 224 | 238 => 223 | 315 => 248 | 273 => 246 | 197 => 247 | 271 => 257 | 260 => 258 | 120 => 261 | n => n, fun | 9 => 9 | 40 => 262 | 4 => 4 | 3 => 3 | 105 => 303 | 21 => 21 | 0 => 0 | 5 => 5 | 119 => 318 | 46 => 245 | 139 => 321 | 138 => 320 | n => n, fun | 3 => 2 | 4 => 3 | n => n⟩
theorem lays237 : Go.Proofs.Lays.n237 Tryz.prog lays237_ren := {
  mixed := by kernel_rfl
  f120 := Tryz.func261.trans (congrArg some (by kernel_rfl))
  f197 := Tryz.func247.trans (congrArg some (by kernel_rfl))
  f237 := Tryz.func210.trans (congrArg some (by kernel_rfl))
  f238 := Tryz.func223.trans (congrArg some (by kernel_rfl))
  f260 := Tryz.func258.trans (congrArg some (by kernel_rfl))
  f271 := Tryz.func257.trans (congrArg some (by kernel_rfl))
  f272 := Tryz.func224.trans (congrArg some (by kernel_rfl))
  f273 := Tryz.func246.trans (congrArg some (by kernel_rfl))
  f315 := Tryz.func248.trans (congrArg some (by kernel_rfl))
  t0 := Tryz.underlying0
  a0 := Tryz.isAgg0
  z0 := Tryz.sizeOf0
  v0 := Tryz.zeroValue0
  t3 := Tryz.underlying3
  a3 := Tryz.isAgg3
  z3 := Tryz.sizeOf3
  v3 := Tryz.zeroValue3
  t4 := Tryz.underlying4
  a4 := Tryz.isAgg4
  z4 := Tryz.sizeOf4
  v4 := Tryz.zeroValue4
  t5 := Tryz.underlying5
  a5 := Tryz.isAgg5
  z5 := Tryz.sizeOf5
  v5 := Tryz.zeroValue5
  t9 := Tryz.underlying9
  a9 := Tryz.isAgg9
  z9 := Tryz.sizeOf9
  v9 := Tryz.zeroValue9
  t21 := Tryz.underlying21
  a21 := Tryz.isAgg21
  z21 := Tryz.sizeOf21
  v21 := Tryz.zeroValue21
  t40 := Tryz.underlying262
  a40 := Tryz.isAgg262
  z40 := Tryz.sizeOf262
  v40 := Tryz.zeroValue262
  t46 := Tryz.underlying245
  a46 := Tryz.isAgg245
  z46 := Tryz.sizeOf245
  v46 := Tryz.zeroValue245
  t105 := Tryz.underlying303
  a105 := Tryz.isAgg303
  z105 := Tryz.sizeOf303
  v105 := Tryz.zeroValue303
  t119 := Tryz.underlying318
  a119 := Tryz.isAgg318
  z119 := Tryz.sizeOf318
  t138 := Tryz.underlying320
  a138 := Tryz.isAgg320
  z138 := Tryz.sizeOf320
  v138 := Tryz.zeroValue320
  t139 := Tryz.underlying321
  a139 := Tryz.isAgg321
  z139 := Tryz.sizeOf321
  v139 := Tryz.zeroValue321
  g3 := by kernel_rfl
  g4 := by kernel_rfl }
open Go.RowKit Go.Lib in
/-- **strings.TrimFunc(s, f) AT EVERY STRING, AT WHATEVER FUNCTION VALUE.** (LAID: no walk: one application.) -/
theorem strings_TrimFunc (g : Nat) (lb : Array Value) (eg : ∀ args w, (callFunc g args).run Tryz.prog w = .ok (.enter g args) w) (p : Nat → Bool) (s : ByteArray) (w : World) (hs : s.size ≤ 9223372036854775807) (hT : Lib.Utf8Tabs 2 3 w) (hp : PredAt Tryz.prog g lb encR p w) :
    Calls Tryz.prog 210 #[.string s, .func (.func g) #[] lb] w fun e w' => e = .returned (.string (Lib.trimF p s)) ∧ Below w.heap.size w w' := Any.strings_TrimFunc lays237 g lb eg p s w hs hT hp
end Go.Proofs.YtcpljmhcokdhpaaGreatDoor.ShT
