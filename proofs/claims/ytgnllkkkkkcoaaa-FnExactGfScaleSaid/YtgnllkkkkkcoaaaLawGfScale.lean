/-
  The exact law of GfScale: the program returns what the model returns.
-/
import Derived.Test.YtgnllkkkkkcoaaaGfScale
namespace Go.Proofs.Ytgnllkkkkkcoaaa.Sc
open Go.RowKit Go.Proofs.Ytgnllkkkkkcoaaa.Bf Go.Proofs.Ytgnllkkkkkcoaaa.GfI Go.Proofs.Ytgnllkkkkkcoaaa.GfS
set_option linter.unusedVariables false

set_option maxRecDepth 100000 in
theorem specGfScale (a : Int) (a0 : 0 ≤ a) (a1 : a ≤ 255) (s : ByteArray) (hs : s.size ≤ 2097152) (w : World) :
    Calls Try.prog 17 #[.int .i64 a, .string s] w fun e w' => e = .returned (.tuple #[.string (scaleText a s), .int .i64 0]) ∧ Below w.heap.size w w' := by
  have E := elt_yes a0 a1
  go_enter Try.func17, Try.ntmps17
  go_wp2_with fail
  refine (l02Byte a _).mono ?_
  rintro e w1 ⟨rfl, rfl⟩
  go_wp2_with fail
  refine (l02Scale a a0 a1 s hs _).mono ?_
  rintro e w1 ⟨rfl, hb⟩
  go_wp2
  go_ret2
  exact ⟨rfl, hb⟩
set_option maxRecDepth 100000 in
theorem specGfScale_bad (a : Int) (h : isElt a = false) (s : ByteArray) (w : World) :
    Calls Try.prog 17 #[.int .i64 a, .string s] w fun e w' => e = .returned (.tuple #[.string ⟨#[]⟩, .int .i64 2]) ∧ w = w' := by
  go_enter Try.func17, Try.ntmps17
  go_wp2_with fail
  refine (l02Byte a _).mono ?_
  rintro e w1 ⟨rfl, rfl⟩
  go_wp2
  go_ret2
  exact ⟨rfl, rfl⟩
set_option maxRecDepth 100000 in
theorem implGfScale_bad (a : Int) (h : isElt a = false) (s : ByteArray) (w : World) :
    Calls Try.prog 18 #[.int .i64 a, .string s] w fun e w' => e = .returned (.tuple #[.string ⟨#[]⟩, .int .i64 2]) ∧ w = w' := by
  go_enter Try.func18, Try.ntmps18
  go_wp2_with fail
  refine (isElement a _).mono ?_
  rintro e w1 ⟨rfl, rfl⟩
  go_wp2
  go_ret2
  exact ⟨rfl, rfl⟩
set_option maxRecDepth 100000 in
theorem fnGfScale (a : Int) (s : ByteArray) (wa : (Lit.int .i64 a).wf = true) (hs : s.size ≤ maxLen) (w : World) :
    Calls Try.prog 4 #[.int .i64 a, .string s] w fun e w' => e = .returned (.bool true) ∧ Below w.heap.size w w' := by
  unfold maxLen at hs
  by_cases h1 : s.size ≤ 1048576
  · by_cases h : isElt a = true
    · obtain ⟨a0, a1⟩ := elt_of h
      have C1 := Lib.hid (fun w => specGfScale a a0 a1 s (by omega) w)
      have C2 := Lib.hid (fun w => implGfScale a a0 a1 s (by omega) w)
      clear h
      go_enter Try.func4, Try.ntmps4
      go_wp2_with fail
      refine (C1.out _).mono ?_
      rintro e w1 ⟨rfl, b1⟩
      go_wp2_with fail
      refine (C2.out _).mono ?_
      rintro e w2 ⟨rfl, b2⟩
      generalize scaleText a s = u
      go_wp2
      go_ret
      exact ⟨rfl, b1.trans (b2.mono b1.size)⟩
    · have q : isElt a = false := by simpa using h
      have C1 := Lib.hid (fun w => specGfScale_bad a q s w)
      have C2 := Lib.hid (fun w => implGfScale_bad a q s w)
      clear h q
      go_enter Try.func4, Try.ntmps4
      go_wp2_with fail
      refine (C1.out _).mono ?_
      rintro e w1 ⟨rfl, rfl⟩
      go_wp2_with fail
      refine (C2.out _).mono ?_
      rintro e w2 ⟨rfl, rfl⟩
      go_wp2
      go_ret
      exact ⟨rfl, Below.refl _ _⟩
  · go_enter Try.func4, Try.ntmps4
    go_wp2
    go_ret
    exact ⟨rfl, Below.refl _ _⟩
end Go.Proofs.Ytgnllkkkkkcoaaa.Sc
