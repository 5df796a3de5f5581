/-
  The exact law of GfSum: the program returns what the model returns.
-/
import Derived.Test.YtbbenadihfhfmabGfSum
namespace Go.Proofs.Ytbbenadihfhfmab.Sm
open Go.RowKit Go.Proofs.Ytbbenadihfhfmab.Bf
set_option linter.unusedVariables false

set_option maxRecDepth 100000 in
theorem specGfSum (s t : ByteArray) (hs : s.size ≤ 2097152) (ht : t.size = s.size) (w : World) :
    Calls Try.prog 34 #[.string s, .string t] w fun e w' => e = .returned (.tuple #[.string (sumText s t), .int .i64 0]) ∧ Below w.heap.size w w' := by
  have q : ((s.size : Int) != (t.size : Int)) = false := by rw [ht]; simp
  have HT := Lib.hid ht
  clear ht
  go_enter Try.func34, Try.ntmps34
  go_wp2_with fail
  refine (l02Sum s t hs HT.out _).mono ?_
  rintro e w1 ⟨rfl, hb⟩
  go_wp2
  go_ret2
  exact ⟨rfl, hb⟩
set_option maxRecDepth 100000 in
theorem specGfSum_bad (s t : ByteArray) (q : ((s.size : Int) != (t.size : Int)) = true) (w : World) :
    Calls Try.prog 34 #[.string s, .string t] w fun e w' => e = .returned (.tuple #[.string ⟨#[]⟩, .int .i64 1]) ∧ w = w' := by
  go_enter Try.func34, Try.ntmps34
  go_wp2
  go_ret2
  exact ⟨rfl, rfl⟩
set_option maxRecDepth 100000 in
theorem implGfSum_bad (s t : ByteArray) (q : ((s.size : Int) != (t.size : Int)) = true) (w : World) :
    Calls Try.prog 35 #[.string s, .string t] w fun e w' => e = .returned (.tuple #[.string ⟨#[]⟩, .int .i64 1]) ∧ w = w' := by
  go_enter Try.func35, Try.ntmps35
  go_wp2
  go_ret2
  exact ⟨rfl, rfl⟩
set_option maxRecDepth 100000 in
theorem fnGfSum (s t : ByteArray) (hs : s.size ≤ maxLen) (ht : t.size ≤ maxLen) (w : World) :
    Calls Try.prog 13 #[.string s, .string t] w fun e w' => e = .returned (.bool true) ∧ Below w.heap.size w w' := by
  unfold maxLen at hs ht
  by_cases h1 : s.size ≤ 1048576
  · by_cases h2 : t.size ≤ 1048576
    · by_cases h : t.size = s.size
      · have C1 := Lib.hid (fun w => specGfSum s t (by omega) h w)
        have C2 := Lib.hid (fun w => implGfSum s t (by omega) h w)
        clear h
        go_enter Try.func13, Try.ntmps13
        go_wp2_with fail
        refine (C1.out _).mono ?_
        rintro e w1 ⟨rfl, b1⟩
        go_wp2_with fail
        refine (C2.out _).mono ?_
        rintro e w2 ⟨rfl, b2⟩
        generalize sumText s t = u
        go_wp2
        go_ret
        exact ⟨rfl, b1.trans (b2.mono b1.size)⟩
      · have q : ((s.size : Int) != (t.size : Int)) = true := by rw [bne_iff_ne]; omega
        have C1 := Lib.hid (fun w => specGfSum_bad s t q w)
        have C2 := Lib.hid (fun w => implGfSum_bad s t q w)
        clear h q
        go_enter Try.func13, Try.ntmps13
        go_wp2_with fail
        refine (C1.out _).mono ?_
        rintro e w1 ⟨rfl, rfl⟩
        go_wp2_with fail
        refine (C2.out _).mono ?_
        rintro e w2 ⟨rfl, rfl⟩
        go_wp2
        go_ret
        exact ⟨rfl, Below.refl _ _⟩
    · go_enter Try.func13, Try.ntmps13
      go_wp2
      go_ret
      exact ⟨rfl, Below.refl _ _⟩
  · go_enter Try.func13, Try.ntmps13
    go_wp2
    go_ret
    exact ⟨rfl, Below.refl _ _⟩
end Go.Proofs.Ytbbenadihfhfmab.Sm
