/-
  The library's strings.TrimFunc in this program: the bodies are those that the library's contract was proved of. (PRUNE: none)
-/
import Derived.Shelf.GgClosure.StringsTrimFunc
import Derived.Test.YtbckdfoapmjilaaGreatDoorProg
namespace Go.Proofs.YtbckdfoapmjilaaGreatDoor.ShT
open Go.Shelf Go.Proofs
def lays237_ren : Go.Shelf.Ren := ⟨fun | 237 => 128 | 272 => 134 | 238 => 133 | 315 => 137 | 273 => 135 | 197 => 136 | 271 => 138 | 260 => 139 | 120 => 140 | n => n, fun | 9 => 9 | 40 => 165 | 4 => 4 | 3 => 3 | 105 => 168 | 21 => 21 | 0 => 0 | 5 => 5 | 119 => 171 | 46 => 161 | 139 => 174 | 138 => 173 | n => n, fun | 3 => 0 | 4 => 1 | n => n⟩
theorem lays237 : Go.Proofs.Lays.n237 Tryz.prog lays237_ren := {
  mixed := by kernel_rfl
  f120 := Tryz.func140.trans (congrArg some (by kernel_rfl))
  f197 := Tryz.func136.trans (congrArg some (by kernel_rfl))
  f237 := Tryz.func128.trans (congrArg some (by kernel_rfl))
  f238 := Tryz.func133.trans (congrArg some (by kernel_rfl))
  f260 := Tryz.func139.trans (congrArg some (by kernel_rfl))
  f271 := Tryz.func138.trans (congrArg some (by kernel_rfl))
  f272 := Tryz.func134.trans (congrArg some (by kernel_rfl))
  f273 := Tryz.func135.trans (congrArg some (by kernel_rfl))
  f315 := Tryz.func137.trans (congrArg some (by kernel_rfl))
  t0 := Tryz.underlying0
  a0 := Tryz.isAgg0
  z0 := Tryz.sizeOf0
  v0 := Tryz.zeroValue0
  t3 := Tryz.underlying3
  a3 := Tryz.isAgg3
  z3 := Tryz.sizeOf3
  v3 := Tryz.zeroValue3
  t4 := Tryz.underlying4
  a4 := Tryz.isAgg4
  z4 := Tryz.sizeOf4
  v4 := Tryz.zeroValue4
  t5 := Tryz.underlying5
  a5 := Tryz.isAgg5
  z5 := Tryz.sizeOf5
  v5 := Tryz.zeroValue5
  t9 := Tryz.underlying9
  a9 := Tryz.isAgg9
  z9 := Tryz.sizeOf9
  v9 := Tryz.zeroValue9
  t21 := Tryz.underlying21
  a21 := Tryz.isAgg21
  z21 := Tryz.sizeOf21
  v21 := Tryz.zeroValue21
  t40 := Tryz.underlying165
  a40 := Tryz.isAgg165
  z40 := Tryz.sizeOf165
  v40 := Tryz.zeroValue165
  t46 := Tryz.underlying161
  a46 := Tryz.isAgg161
  z46 := Tryz.sizeOf161
  v46 := Tryz.zeroValue161
  t105 := Tryz.underlying168
  a105 := Tryz.isAgg168
  z105 := Tryz.sizeOf168
  v105 := Tryz.zeroValue168
  t119 := Tryz.underlying171
  a119 := Tryz.isAgg171
  z119 := Tryz.sizeOf171
  t138 := Tryz.underlying173
  a138 := Tryz.isAgg173
  z138 := Tryz.sizeOf173
  v138 := Tryz.zeroValue173
  t139 := Tryz.underlying174
  a139 := Tryz.isAgg174
  z139 := Tryz.sizeOf174
  v139 := Tryz.zeroValue174
  g3 := by kernel_rfl
  g4 := by kernel_rfl }
open Go.RowKit Go.Lib in
/-- **strings.TrimFunc(s, f) AT EVERY STRING, AT WHATEVER FUNCTION VALUE.** (LAID: no walk: one application.) -/
theorem strings_TrimFunc (g : Nat) (lb : Array Value) (eg : ∀ args w, (callFunc g args).run Tryz.prog w = .ok (.enter g args) w) (p : Nat → Bool) (s : ByteArray) (w : World) (hs : s.size ≤ 9223372036854775807) (hT : Lib.Utf8Tabs 0 1 w) (hp : PredAt Tryz.prog g lb encR p w) :
    Calls Tryz.prog 128 #[.string s, .func (.func g) #[] lb] w fun e w' => e = .returned (.string (Lib.trimF p s)) ∧ Below w.heap.size w w' := Any.strings_TrimFunc lays237 g lb eg p s w hs hT hp
end Go.Proofs.YtbckdfoapmjilaaGreatDoor.ShT
