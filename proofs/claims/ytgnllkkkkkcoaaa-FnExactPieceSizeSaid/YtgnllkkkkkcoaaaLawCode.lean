/-
  The exact laws of CodeOk and PieceSize.
-/
import Derived.Test.YtgnllkkkkkcoaaaCode
namespace Go.Proofs.Ytgnllkkkkkcoaaa.Cd
open Go.RowKit Go.Proofs.Ytgnllkkkkkcoaaa.GfI Go.Proofs.Ytgnllkkkkkcoaaa.GfS
set_option linter.unusedVariables false

/-- What PieceSize answers: the size, or an error. -/
def psVal (k m size : Int) : Value := if okC k m then (if isBody size then .tuple #[.int .i64 (pieceZ k size), .int .i64 0] else .tuple #[.int .i64 0, .int .i64 2]) else .tuple #[.int .i64 0, .int .i64 1]
set_option maxRecDepth 100000 in
theorem implPieceSize (k m size : Int) (w : World) :
    Calls Try.prog 52 #[cval k m, .int .i64 size] w (ValB (psVal k m size) w) := by
  have L := Lib.hid (lay w)
  have O := Lib.hid (implCodeOk k m)
  unfold psVal
  by_cases h : okC k m = true
  · rw [if_pos h]
    obtain ⟨k1, k2, m1, m2⟩ := okC_out h
    rw [h] at O
    clear h
    have Z := Lib.hid (isBodySize size)
    by_cases z : isBody size = true
    · rw [if_pos z]
      obtain ⟨z1, z2⟩ := (of_decide_eq_true z : 0 ≤ size ∧ size ≤ 64)
      rw [z] at Z
      have P := Lib.hid (pieceSize k m size z1 (by omega) k1 k2)
      clear z
      generalize pieceZ k size = ps at *
      go_enter Try.func52, Try.ntmps52
      go_wp2_with fail
      refine (O.out _).mono ?_
      rintro e w1 ⟨rfl, b1⟩
      obtain ⟨c0, c1, -, -⟩ := box2 b1
      go_wp2_with fail
      refine (Z.out _).mono ?_
      rintro e w2 ⟨rfl, rfl⟩
      go_wp2_with fail
      refine (P.out _).mono ?_
      rintro e w2 ⟨rfl, b2⟩
      go_wp2
      go_ret2
      exact ⟨rfl, chain (chain (L.out _) b1) b2⟩
    · rw [if_neg z]
      have z : isBody size = false := by simpa using z
      rw [z] at Z
      clear z
      go_enter Try.func52, Try.ntmps52
      go_wp2_with fail
      refine (O.out _).mono ?_
      rintro e w1 ⟨rfl, b1⟩
      go_wp2_with fail
      refine (Z.out _).mono ?_
      rintro e w2 ⟨rfl, rfl⟩
      go_wp2
      go_ret2
      exact ⟨rfl, chain (L.out _) b1⟩
  · rw [if_neg h]
    have h : okC k m = false := by simpa using h
    rw [h] at O
    clear h
    go_enter Try.func52, Try.ntmps52
    go_wp2_with fail
    refine (O.out _).mono ?_
    rintro e w1 ⟨rfl, b1⟩
    go_wp2
    go_ret2
    exact ⟨rfl, chain (L.out _) b1⟩
set_option maxRecDepth 100000 in
theorem specPieceSize (k m size : Int) (w : World) :
    Calls Try.prog 51 #[cval k m, .int .i64 size] w (ValB (psVal k m size) w) := by
  have L := Lib.hid (lay w)
  have O := Lib.hid (l04Code k m)
  unfold psVal
  rw [show isBody size = inB size 0 64 from rfl]
  by_cases h : okC k m = true
  · rw [if_pos h]
    obtain ⟨k1, k2, m1, m2⟩ := okC_out h
    rw [h] at O
    clear h
    have Z := Lib.hid (l00In size 0 64)
    by_cases z : inB size 0 64 = true
    · rw [if_pos z]
      obtain ⟨z1, z2⟩ := (of_decide_eq_true z : 0 ≤ size ∧ size ≤ 64)
      rw [z] at Z
      have P := Lib.hid (l04Size k m size z1 (by omega) k1 k2)
      clear z
      generalize pieceZ k size = ps at *
      go_enter Try.func51, Try.ntmps51
      go_wp2_with fail
      refine (O.out _).mono ?_
      rintro e w1 ⟨rfl, b1⟩
      obtain ⟨c0, c1, -, -⟩ := box2 b1
      go_wp2_with fail
      refine (Z.out _).mono ?_
      rintro e w2 ⟨rfl, rfl⟩
      go_wp2_with fail
      refine (P.out _).mono ?_
      rintro e w2 ⟨rfl, b2⟩
      go_wp2
      go_ret2
      exact ⟨rfl, chain (chain (L.out _) b1) b2⟩
    · rw [if_neg z]
      have z : inB size 0 64 = false := by simpa using z
      rw [z] at Z
      clear z
      go_enter Try.func51, Try.ntmps51
      go_wp2_with fail
      refine (O.out _).mono ?_
      rintro e w1 ⟨rfl, b1⟩
      go_wp2_with fail
      refine (Z.out _).mono ?_
      rintro e w2 ⟨rfl, rfl⟩
      go_wp2
      go_ret2
      exact ⟨rfl, chain (L.out _) b1⟩
  · rw [if_neg h]
    have h : okC k m = false := by simpa using h
    rw [h] at O
    clear h
    go_enter Try.func51, Try.ntmps51
    go_wp2_with fail
    refine (O.out _).mono ?_
    rintro e w1 ⟨rfl, b1⟩
    go_wp2
    go_ret2
    exact ⟨rfl, chain (L.out _) b1⟩

set_option maxRecDepth 100000 in
theorem fnCodeOk (k m : Int) (w : World) (wk : (Lit.int .i64 k).wf = true) (wm : (Lit.int .i64 m).wf = true) :
    Calls Try.prog 13 #[cval k m] w fun e w' => e = .returned (.bool true) ∧ Below w.heap.size w w' := by
  have L := Lib.hid (lay w)
  have T := Lib.hid (toCode k m)
  have S := Lib.hid (specCodeOk k m)
  have I := Lib.hid (implCodeOk k m)
  clear wk wm
  generalize okC k m = ok at *
  go_enter Try.func13, Try.ntmps13
  go_wp2_with fail
  refine (T.out _).mono ?_
  rintro e w1 ⟨rfl, b1⟩
  go_wp2_with fail
  refine (S.out _).mono ?_
  rintro e w2 ⟨rfl, b2⟩
  obtain ⟨c0, c1, -, -⟩ := box2 (chain b1 b2)
  go_wp2_with fail
  refine (T.out _).mono ?_
  rintro e w3 ⟨rfl, b3⟩
  go_wp2_with fail
  refine (I.out _).mono ?_
  rintro e w4 ⟨rfl, b4⟩
  go_wp2
  go_ret
  exact ⟨rfl, chain (chain (chain (chain (L.out _) b1) b2) b3) b4⟩
set_option maxRecDepth 100000 in
theorem fnPieceSize (k m size : Int) (w : World) (wk : (Lit.int .i64 k).wf = true) (wm : (Lit.int .i64 m).wf = true) (ws : (Lit.int .i64 size).wf = true) :
    Calls Try.prog 14 #[cval k m, .int .i64 size] w fun e w' => e = .returned (.bool true) ∧ Below w.heap.size w w' := by
  have L := Lib.hid (lay w)
  have T := Lib.hid (toCode k m)
  have S := Lib.hid (specPieceSize k m size)
  have I := Lib.hid (implPieceSize k m size)
  clear wk wm ws
  obtain ⟨x, y, hv⟩ : ∃ x y, psVal k m size = .tuple #[.int .i64 x, .int .i64 y] := by
    unfold psVal
    split
    · split
      · exact ⟨_, _, rfl⟩
      · exact ⟨_, _, rfl⟩
    · exact ⟨_, _, rfl⟩
  rw [hv] at S I
  clear hv
  go_enter Try.func14, Try.ntmps14
  go_wp2_with fail
  refine (T.out _).mono ?_
  rintro e w1 ⟨rfl, b1⟩
  go_wp2_with fail
  refine (S.out _).mono ?_
  rintro e w2 ⟨rfl, b2⟩
  obtain ⟨c0, c1, -, -⟩ := box2 (chain b1 b2)
  go_wp2_with fail
  refine (T.out _).mono ?_
  rintro e w3 ⟨rfl, b3⟩
  go_wp2_with fail
  refine (I.out _).mono ?_
  rintro e w4 ⟨rfl, b4⟩
  go_wp2
  go_ret
  exact ⟨rfl, chain (chain (chain (chain (L.out _) b1) b2) b3) b4⟩
end Go.Proofs.Ytgnllkkkkkcoaaa.Cd
