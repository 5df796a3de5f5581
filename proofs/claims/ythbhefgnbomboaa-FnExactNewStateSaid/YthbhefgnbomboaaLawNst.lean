/-
  The exact law of NewState: the program answers as the model, in memory of its own. No condition.
-/
import Derived.Test.YthbhefgnbomboaaNst
namespace Go.Proofs.Ythbhefgnbomboaa.Rd
open Go.RowKit Go.ChangeShapes Go.WideShapes Go.Proofs.Ythbhefgnbomboaa.GfI Go.Proofs.Ythbhefgnbomboaa.GfS
open Go.Proofs.Ythbhefgnbomboaa.Sg (BxN)
set_option linter.unusedVariables false
set_option linter.unusedSimpArgs false

set_option maxRecDepth 100000 in
set_option maxHeartbeats 4000000 in
theorem lawNewState (cs : List Value) (d : DPg) (w : World) (h : Rdb.rd false 0 w cs d) :
    Calls Try.prog 9 #[.agg cs.toArray] w (RetW (.bool true) w) := by
  obtain ⟨rfl, f0_0, f0_1⟩ := shape_Pg h
  obtain ⟨P, N, hP⟩ : ∃ P N : Int, (if pgB d.pool d.no then (d.pool, d.no) else (0, 0)) = (P, N) := ⟨_, _, rfl⟩
  have wP : (Lit.int .i64 P).wf = true ∧ (Lit.int .i64 N).wf = true := by
    cases hv : pgB d.pool d.no
    · rw [hv] at hP; obtain ⟨rfl, rfl⟩ : 0 = P ∧ 0 = N := by simpa using hP
      exact ⟨rfl, rfl⟩
    · rw [hv] at hP; obtain ⟨rfl, rfl⟩ : d.pool = P ∧ d.no = N := by simpa using hP
      exact ⟨f0_0, f0_1⟩
  have BH := Lib.hid (lay w (.cells #[.int .i64 d.pool, .int .i64 d.no] 50))
  have XH := Lib.hid (BxN.new w #[.int .i64 d.pool, .int .i64 d.no] 50)
  have CP := Lib.hid (fun (z : Rdb.sz d ≤ 2097152) w' => toPg (fr := true) (lo := 0) d w' z (mk_Pg (d := d) f0_0 f0_1))
  have NS := Lib.hid (specNewState d.pool d.no P N hP)
  have NI := Lib.hid (implNewState d.pool d.no P N hP)
  have RD : ∀ w', Rdb.rd true 0 w' [.int .i64 P, .int .i64 N, .int .i64 0, .int .i64 0, .int .i64 0, .int .i64 0, .slice none 0 0, .slice none 0 0, .slice none 0 0, .int .i64 0, .int .i64 0, .slice none 0 0] (⟨⟨P, N⟩, 0, 0, ⟨0, 0⟩, [], [], [], ⟨0, 0⟩, []⟩ : DPgState) := fun w' => mk_PgState (d := ⟨⟨P, N⟩, 0, 0, ⟨0, 0⟩, [], [], [], ⟨0, 0⟩, []⟩) wP.1 wP.2 rfl rfl rfl rfl (.inl rfl) ⟨by show (0 : Nat) ≤ _; omega, Nat.le_refl _⟩ (.inl rfl) ⟨by show (0 : Nat) ≤ _; omega, Nat.le_refl _⟩ (.inl rfl) ⟨by show (0 : Nat) ≤ _; omega, Nat.le_refl _⟩ rfl rfl (.inl rfl) ⟨by show (0 : Nat) ≤ _; omega, Nat.le_refl _⟩
  have EQ := Lib.hid (fun w' => eqPgState (⟨⟨P, N⟩, 0, 0, ⟨0, 0⟩, [], [], [], ⟨0, 0⟩, []⟩ : DPgState) w' (by show (0 : Nat) + 0 + 0 + 0 ≤ _; omega) (RD w') (RD w'))
  have MK := Lib.hid (markState0 P N)
  have HD := Lib.hid (heldState0 P N)
  clear RD wP hP h f0_0 f0_1
  go_enter Try.func9, Try.ntmps9
  have X_0 := XH.out.cells 0 _ rfl
  have X_1 := XH.out.cells 1 _ rfl
  go_wp2_with fail
  refine (CP.out (by show (0 : Nat) ≤ _; omega) _).mono ?_
  rintro e w2 ⟨cs2, rfl, r2, b2⟩
  obtain ⟨rfl, -⟩ := shape_Pg r2
  clear r2
  have XH := Lib.hid (XH.out.later b2)
  have X_0 := XH.out.cells 0 _ rfl
  have X_1 := XH.out.cells 1 _ rfl
  have BH := Lib.hid (chainX w BH.out b2)
  clear b2
  go_wp2_with fail
  refine (NS.out _).mono ?_
  rintro e w2 ⟨rfl, b2⟩
  have XH := Lib.hid (XH.out.later b2)
  have X_0 := XH.out.cells 0 _ rfl
  have X_1 := XH.out.cells 1 _ rfl
  have BH := Lib.hid (chainX w BH.out b2)
  clear b2
  have LY := lay w2 (.cells #[.int .i64 P, .int .i64 N, .int .i64 0, .int .i64 0, .int .i64 0, .int .i64 0, .slice none 0 0, .slice none 0 0, .slice none 0 0, .int .i64 0, .int .i64 0, .slice none 0 0] 57)
  have YN := BxN.new w2 #[.int .i64 P, .int .i64 N, .int .i64 0, .int .i64 0, .int .i64 0, .int .i64 0, .slice none 0 0, .slice none 0 0, .slice none 0 0, .int .i64 0, .int .i64 0, .slice none 0 0] 57
  have XH := Lib.hid (XH.out.later LY)
  have X_0 := XH.out.cells 0 _ rfl
  have X_1 := XH.out.cells 1 _ rfl
  have BH := Lib.hid (chainX w BH.out LY)
  clear LY
  have YH := Lib.hid YN
  clear YN
  have Y_0 := YH.out.cells 0 _ rfl
  have Y_1 := YH.out.cells 1 _ rfl
  have Y_2 := YH.out.cells 2 _ rfl
  have Y_3 := YH.out.cells 3 _ rfl
  have Y_4 := YH.out.cells 4 _ rfl
  have Y_5 := YH.out.cells 5 _ rfl
  have Y_6 := YH.out.cells 6 _ rfl
  have Y_7 := YH.out.cells 7 _ rfl
  have Y_8 := YH.out.cells 8 _ rfl
  have Y_9 := YH.out.cells 9 _ rfl
  have Y_10 := YH.out.cells 10 _ rfl
  have Y_11 := YH.out.cells 11 _ rfl
  go_wp2_with fail
  refine (CP.out (by show (0 : Nat) ≤ _; omega) _).mono ?_
  rintro e w2 ⟨cs2, rfl, r2, b2⟩
  obtain ⟨rfl, -⟩ := shape_Pg r2
  clear r2
  have XH := Lib.hid (XH.out.later b2)
  have X_0 := XH.out.cells 0 _ rfl
  have X_1 := XH.out.cells 1 _ rfl
  have YH := Lib.hid (YH.out.later b2)
  have Y_0 := YH.out.cells 0 _ rfl
  have Y_1 := YH.out.cells 1 _ rfl
  have Y_2 := YH.out.cells 2 _ rfl
  have Y_3 := YH.out.cells 3 _ rfl
  have Y_4 := YH.out.cells 4 _ rfl
  have Y_5 := YH.out.cells 5 _ rfl
  have Y_6 := YH.out.cells 6 _ rfl
  have Y_7 := YH.out.cells 7 _ rfl
  have Y_8 := YH.out.cells 8 _ rfl
  have Y_9 := YH.out.cells 9 _ rfl
  have Y_10 := YH.out.cells 10 _ rfl
  have Y_11 := YH.out.cells 11 _ rfl
  have BH := Lib.hid (chainX w BH.out b2)
  clear b2
  go_wp2_with fail
  refine (NI.out _).mono ?_
  rintro e w2 ⟨rfl, b2⟩
  have XH := Lib.hid (XH.out.later b2)
  have X_0 := XH.out.cells 0 _ rfl
  have X_1 := XH.out.cells 1 _ rfl
  have YH := Lib.hid (YH.out.later b2)
  have Y_0 := YH.out.cells 0 _ rfl
  have Y_1 := YH.out.cells 1 _ rfl
  have Y_2 := YH.out.cells 2 _ rfl
  have Y_3 := YH.out.cells 3 _ rfl
  have Y_4 := YH.out.cells 4 _ rfl
  have Y_5 := YH.out.cells 5 _ rfl
  have Y_6 := YH.out.cells 6 _ rfl
  have Y_7 := YH.out.cells 7 _ rfl
  have Y_8 := YH.out.cells 8 _ rfl
  have Y_9 := YH.out.cells 9 _ rfl
  have Y_10 := YH.out.cells 10 _ rfl
  have Y_11 := YH.out.cells 11 _ rfl
  have BH := Lib.hid (chainX w BH.out b2)
  clear b2
  have LY := lay w2 (.cells #[.int .i64 P, .int .i64 N, .int .i64 0, .int .i64 0, .int .i64 0, .int .i64 0, .slice none 0 0, .slice none 0 0, .slice none 0 0, .int .i64 0, .int .i64 0, .slice none 0 0] 57)
  have YN := BxN.new w2 #[.int .i64 P, .int .i64 N, .int .i64 0, .int .i64 0, .int .i64 0, .int .i64 0, .slice none 0 0, .slice none 0 0, .slice none 0 0, .int .i64 0, .int .i64 0, .slice none 0 0] 57
  have XH := Lib.hid (XH.out.later LY)
  have X_0 := XH.out.cells 0 _ rfl
  have X_1 := XH.out.cells 1 _ rfl
  have YH := Lib.hid (YH.out.later LY)
  have Y_0 := YH.out.cells 0 _ rfl
  have Y_1 := YH.out.cells 1 _ rfl
  have Y_2 := YH.out.cells 2 _ rfl
  have Y_3 := YH.out.cells 3 _ rfl
  have Y_4 := YH.out.cells 4 _ rfl
  have Y_5 := YH.out.cells 5 _ rfl
  have Y_6 := YH.out.cells 6 _ rfl
  have Y_7 := YH.out.cells 7 _ rfl
  have Y_8 := YH.out.cells 8 _ rfl
  have Y_9 := YH.out.cells 9 _ rfl
  have Y_10 := YH.out.cells 10 _ rfl
  have Y_11 := YH.out.cells 11 _ rfl
  have BH := Lib.hid (chainX w BH.out LY)
  clear LY
  have ZH := Lib.hid YN
  clear YN
  have Z_0 := ZH.out.cells 0 _ rfl
  have Z_1 := ZH.out.cells 1 _ rfl
  have Z_2 := ZH.out.cells 2 _ rfl
  have Z_3 := ZH.out.cells 3 _ rfl
  have Z_4 := ZH.out.cells 4 _ rfl
  have Z_5 := ZH.out.cells 5 _ rfl
  have Z_6 := ZH.out.cells 6 _ rfl
  have Z_7 := ZH.out.cells 7 _ rfl
  have Z_8 := ZH.out.cells 8 _ rfl
  have Z_9 := ZH.out.cells 9 _ rfl
  have Z_10 := ZH.out.cells 10 _ rfl
  have Z_11 := ZH.out.cells 11 _ rfl
  go_wp2_with fail
  refine (EQ.out _).mono ?_
  rintro e w2 ⟨rfl, b2⟩
  have XH := Lib.hid (XH.out.later b2)
  have X_0 := XH.out.cells 0 _ rfl
  have X_1 := XH.out.cells 1 _ rfl
  have YH := Lib.hid (YH.out.later b2)
  have Y_0 := YH.out.cells 0 _ rfl
  have Y_1 := YH.out.cells 1 _ rfl
  have Y_2 := YH.out.cells 2 _ rfl
  have Y_3 := YH.out.cells 3 _ rfl
  have Y_4 := YH.out.cells 4 _ rfl
  have Y_5 := YH.out.cells 5 _ rfl
  have Y_6 := YH.out.cells 6 _ rfl
  have Y_7 := YH.out.cells 7 _ rfl
  have Y_8 := YH.out.cells 8 _ rfl
  have Y_9 := YH.out.cells 9 _ rfl
  have Y_10 := YH.out.cells 10 _ rfl
  have Y_11 := YH.out.cells 11 _ rfl
  have ZH := Lib.hid (ZH.out.later b2)
  have Z_0 := ZH.out.cells 0 _ rfl
  have Z_1 := ZH.out.cells 1 _ rfl
  have Z_2 := ZH.out.cells 2 _ rfl
  have Z_3 := ZH.out.cells 3 _ rfl
  have Z_4 := ZH.out.cells 4 _ rfl
  have Z_5 := ZH.out.cells 5 _ rfl
  have Z_6 := ZH.out.cells 6 _ rfl
  have Z_7 := ZH.out.cells 7 _ rfl
  have Z_8 := ZH.out.cells 8 _ rfl
  have Z_9 := ZH.out.cells 9 _ rfl
  have Z_10 := ZH.out.cells 10 _ rfl
  have Z_11 := ZH.out.cells 11 _ rfl
  have BH := Lib.hid (chainX w BH.out b2)
  clear b2
  go_wp2_with fail
  refine (MK.out _).mono ?_
  rintro e w2 ⟨rfl, b2⟩
  have XH := Lib.hid (XH.out.later b2)
  have X_0 := XH.out.cells 0 _ rfl
  have X_1 := XH.out.cells 1 _ rfl
  have YH := Lib.hid (YH.out.later b2)
  have Y_0 := YH.out.cells 0 _ rfl
  have Y_1 := YH.out.cells 1 _ rfl
  have Y_2 := YH.out.cells 2 _ rfl
  have Y_3 := YH.out.cells 3 _ rfl
  have Y_4 := YH.out.cells 4 _ rfl
  have Y_5 := YH.out.cells 5 _ rfl
  have Y_6 := YH.out.cells 6 _ rfl
  have Y_7 := YH.out.cells 7 _ rfl
  have Y_8 := YH.out.cells 8 _ rfl
  have Y_9 := YH.out.cells 9 _ rfl
  have Y_10 := YH.out.cells 10 _ rfl
  have Y_11 := YH.out.cells 11 _ rfl
  have ZH := Lib.hid (ZH.out.later b2)
  have Z_0 := ZH.out.cells 0 _ rfl
  have Z_1 := ZH.out.cells 1 _ rfl
  have Z_2 := ZH.out.cells 2 _ rfl
  have Z_3 := ZH.out.cells 3 _ rfl
  have Z_4 := ZH.out.cells 4 _ rfl
  have Z_5 := ZH.out.cells 5 _ rfl
  have Z_6 := ZH.out.cells 6 _ rfl
  have Z_7 := ZH.out.cells 7 _ rfl
  have Z_8 := ZH.out.cells 8 _ rfl
  have Z_9 := ZH.out.cells 9 _ rfl
  have Z_10 := ZH.out.cells 10 _ rfl
  have Z_11 := ZH.out.cells 11 _ rfl
  have BH := Lib.hid (chainX w BH.out b2)
  clear b2
  go_wp2_with fail
  refine (HD.out _).mono ?_
  rintro e w2 ⟨rfl, b2⟩
  have XH := Lib.hid (XH.out.later b2)
  have X_0 := XH.out.cells 0 _ rfl
  have X_1 := XH.out.cells 1 _ rfl
  have YH := Lib.hid (YH.out.later b2)
  have Y_0 := YH.out.cells 0 _ rfl
  have Y_1 := YH.out.cells 1 _ rfl
  have Y_2 := YH.out.cells 2 _ rfl
  have Y_3 := YH.out.cells 3 _ rfl
  have Y_4 := YH.out.cells 4 _ rfl
  have Y_5 := YH.out.cells 5 _ rfl
  have Y_6 := YH.out.cells 6 _ rfl
  have Y_7 := YH.out.cells 7 _ rfl
  have Y_8 := YH.out.cells 8 _ rfl
  have Y_9 := YH.out.cells 9 _ rfl
  have Y_10 := YH.out.cells 10 _ rfl
  have Y_11 := YH.out.cells 11 _ rfl
  have ZH := Lib.hid (ZH.out.later b2)
  have Z_0 := ZH.out.cells 0 _ rfl
  have Z_1 := ZH.out.cells 1 _ rfl
  have Z_2 := ZH.out.cells 2 _ rfl
  have Z_3 := ZH.out.cells 3 _ rfl
  have Z_4 := ZH.out.cells 4 _ rfl
  have Z_5 := ZH.out.cells 5 _ rfl
  have Z_6 := ZH.out.cells 6 _ rfl
  have Z_7 := ZH.out.cells 7 _ rfl
  have Z_8 := ZH.out.cells 8 _ rfl
  have Z_9 := ZH.out.cells 9 _ rfl
  have Z_10 := ZH.out.cells 10 _ rfl
  have Z_11 := ZH.out.cells 11 _ rfl
  have BH := Lib.hid (chainX w BH.out b2)
  clear b2
  go_wp2_with fail
  refine (CP.out (by show (0 : Nat) ≤ _; omega) _).mono ?_
  rintro e w2 ⟨cs2, rfl, r2, b2⟩
  obtain ⟨rfl, -⟩ := shape_Pg r2
  clear r2
  have XH := Lib.hid (XH.out.later b2)
  have X_0 := XH.out.cells 0 _ rfl
  have X_1 := XH.out.cells 1 _ rfl
  have YH := Lib.hid (YH.out.later b2)
  have Y_0 := YH.out.cells 0 _ rfl
  have Y_1 := YH.out.cells 1 _ rfl
  have Y_2 := YH.out.cells 2 _ rfl
  have Y_3 := YH.out.cells 3 _ rfl
  have Y_4 := YH.out.cells 4 _ rfl
  have Y_5 := YH.out.cells 5 _ rfl
  have Y_6 := YH.out.cells 6 _ rfl
  have Y_7 := YH.out.cells 7 _ rfl
  have Y_8 := YH.out.cells 8 _ rfl
  have Y_9 := YH.out.cells 9 _ rfl
  have Y_10 := YH.out.cells 10 _ rfl
  have Y_11 := YH.out.cells 11 _ rfl
  have ZH := Lib.hid (ZH.out.later b2)
  have Z_0 := ZH.out.cells 0 _ rfl
  have Z_1 := ZH.out.cells 1 _ rfl
  have Z_2 := ZH.out.cells 2 _ rfl
  have Z_3 := ZH.out.cells 3 _ rfl
  have Z_4 := ZH.out.cells 4 _ rfl
  have Z_5 := ZH.out.cells 5 _ rfl
  have Z_6 := ZH.out.cells 6 _ rfl
  have Z_7 := ZH.out.cells 7 _ rfl
  have Z_8 := ZH.out.cells 8 _ rfl
  have Z_9 := ZH.out.cells 9 _ rfl
  have Z_10 := ZH.out.cells 10 _ rfl
  have Z_11 := ZH.out.cells 11 _ rfl
  have BH := Lib.hid (chainX w BH.out b2)
  clear b2
  go_wp2_with fail
  refine (NI.out _).mono ?_
  rintro e w2 ⟨rfl, b2⟩
  have XH := Lib.hid (XH.out.later b2)
  have X_0 := XH.out.cells 0 _ rfl
  have X_1 := XH.out.cells 1 _ rfl
  have YH := Lib.hid (YH.out.later b2)
  have Y_0 := YH.out.cells 0 _ rfl
  have Y_1 := YH.out.cells 1 _ rfl
  have Y_2 := YH.out.cells 2 _ rfl
  have Y_3 := YH.out.cells 3 _ rfl
  have Y_4 := YH.out.cells 4 _ rfl
  have Y_5 := YH.out.cells 5 _ rfl
  have Y_6 := YH.out.cells 6 _ rfl
  have Y_7 := YH.out.cells 7 _ rfl
  have Y_8 := YH.out.cells 8 _ rfl
  have Y_9 := YH.out.cells 9 _ rfl
  have Y_10 := YH.out.cells 10 _ rfl
  have Y_11 := YH.out.cells 11 _ rfl
  have ZH := Lib.hid (ZH.out.later b2)
  have Z_0 := ZH.out.cells 0 _ rfl
  have Z_1 := ZH.out.cells 1 _ rfl
  have Z_2 := ZH.out.cells 2 _ rfl
  have Z_3 := ZH.out.cells 3 _ rfl
  have Z_4 := ZH.out.cells 4 _ rfl
  have Z_5 := ZH.out.cells 5 _ rfl
  have Z_6 := ZH.out.cells 6 _ rfl
  have Z_7 := ZH.out.cells 7 _ rfl
  have Z_8 := ZH.out.cells 8 _ rfl
  have Z_9 := ZH.out.cells 9 _ rfl
  have Z_10 := ZH.out.cells 10 _ rfl
  have Z_11 := ZH.out.cells 11 _ rfl
  have BH := Lib.hid (chainX w BH.out b2)
  clear b2
  have LY := lay w2 (.cells #[.int .i64 P, .int .i64 N, .int .i64 0, .int .i64 0, .int .i64 0, .int .i64 0, .slice none 0 0, .slice none 0 0, .slice none 0 0, .int .i64 0, .int .i64 0, .slice none 0 0] 57)
  have YN := BxN.new w2 #[.int .i64 P, .int .i64 N, .int .i64 0, .int .i64 0, .int .i64 0, .int .i64 0, .slice none 0 0, .slice none 0 0, .slice none 0 0, .int .i64 0, .int .i64 0, .slice none 0 0] 57
  have XH := Lib.hid (XH.out.later LY)
  have X_0 := XH.out.cells 0 _ rfl
  have X_1 := XH.out.cells 1 _ rfl
  have YH := Lib.hid (YH.out.later LY)
  have Y_0 := YH.out.cells 0 _ rfl
  have Y_1 := YH.out.cells 1 _ rfl
  have Y_2 := YH.out.cells 2 _ rfl
  have Y_3 := YH.out.cells 3 _ rfl
  have Y_4 := YH.out.cells 4 _ rfl
  have Y_5 := YH.out.cells 5 _ rfl
  have Y_6 := YH.out.cells 6 _ rfl
  have Y_7 := YH.out.cells 7 _ rfl
  have Y_8 := YH.out.cells 8 _ rfl
  have Y_9 := YH.out.cells 9 _ rfl
  have Y_10 := YH.out.cells 10 _ rfl
  have Y_11 := YH.out.cells 11 _ rfl
  have ZH := Lib.hid (ZH.out.later LY)
  have Z_0 := ZH.out.cells 0 _ rfl
  have Z_1 := ZH.out.cells 1 _ rfl
  have Z_2 := ZH.out.cells 2 _ rfl
  have Z_3 := ZH.out.cells 3 _ rfl
  have Z_4 := ZH.out.cells 4 _ rfl
  have Z_5 := ZH.out.cells 5 _ rfl
  have Z_6 := ZH.out.cells 6 _ rfl
  have Z_7 := ZH.out.cells 7 _ rfl
  have Z_8 := ZH.out.cells 8 _ rfl
  have Z_9 := ZH.out.cells 9 _ rfl
  have Z_10 := ZH.out.cells 10 _ rfl
  have Z_11 := ZH.out.cells 11 _ rfl
  have BH := Lib.hid (chainX w BH.out LY)
  clear LY
  have UH := Lib.hid YN
  clear YN
  have U_0 := UH.out.cells 0 _ rfl
  have U_1 := UH.out.cells 1 _ rfl
  have U_2 := UH.out.cells 2 _ rfl
  have U_3 := UH.out.cells 3 _ rfl
  have U_4 := UH.out.cells 4 _ rfl
  have U_5 := UH.out.cells 5 _ rfl
  have U_6 := UH.out.cells 6 _ rfl
  have U_7 := UH.out.cells 7 _ rfl
  have U_8 := UH.out.cells 8 _ rfl
  have U_9 := UH.out.cells 9 _ rfl
  have U_10 := UH.out.cells 10 _ rfl
  have U_11 := UH.out.cells 11 _ rfl
  go_wp2_with fail
  refine (EQ.out _).mono ?_
  rintro e w2 ⟨rfl, b2⟩
  have XH := Lib.hid (XH.out.later b2)
  have X_0 := XH.out.cells 0 _ rfl
  have X_1 := XH.out.cells 1 _ rfl
  have YH := Lib.hid (YH.out.later b2)
  have Y_0 := YH.out.cells 0 _ rfl
  have Y_1 := YH.out.cells 1 _ rfl
  have Y_2 := YH.out.cells 2 _ rfl
  have Y_3 := YH.out.cells 3 _ rfl
  have Y_4 := YH.out.cells 4 _ rfl
  have Y_5 := YH.out.cells 5 _ rfl
  have Y_6 := YH.out.cells 6 _ rfl
  have Y_7 := YH.out.cells 7 _ rfl
  have Y_8 := YH.out.cells 8 _ rfl
  have Y_9 := YH.out.cells 9 _ rfl
  have Y_10 := YH.out.cells 10 _ rfl
  have Y_11 := YH.out.cells 11 _ rfl
  have ZH := Lib.hid (ZH.out.later b2)
  have Z_0 := ZH.out.cells 0 _ rfl
  have Z_1 := ZH.out.cells 1 _ rfl
  have Z_2 := ZH.out.cells 2 _ rfl
  have Z_3 := ZH.out.cells 3 _ rfl
  have Z_4 := ZH.out.cells 4 _ rfl
  have Z_5 := ZH.out.cells 5 _ rfl
  have Z_6 := ZH.out.cells 6 _ rfl
  have Z_7 := ZH.out.cells 7 _ rfl
  have Z_8 := ZH.out.cells 8 _ rfl
  have Z_9 := ZH.out.cells 9 _ rfl
  have Z_10 := ZH.out.cells 10 _ rfl
  have Z_11 := ZH.out.cells 11 _ rfl
  have UH := Lib.hid (UH.out.later b2)
  have U_0 := UH.out.cells 0 _ rfl
  have U_1 := UH.out.cells 1 _ rfl
  have U_2 := UH.out.cells 2 _ rfl
  have U_3 := UH.out.cells 3 _ rfl
  have U_4 := UH.out.cells 4 _ rfl
  have U_5 := UH.out.cells 5 _ rfl
  have U_6 := UH.out.cells 6 _ rfl
  have U_7 := UH.out.cells 7 _ rfl
  have U_8 := UH.out.cells 8 _ rfl
  have U_9 := UH.out.cells 9 _ rfl
  have U_10 := UH.out.cells 10 _ rfl
  have U_11 := UH.out.cells 11 _ rfl
  have BH := Lib.hid (chainX w BH.out b2)
  clear b2
  go_wp2_with fail
  refine (HD.out _).mono ?_
  rintro e w2 ⟨rfl, b2⟩
  have XH := Lib.hid (XH.out.later b2)
  have X_0 := XH.out.cells 0 _ rfl
  have X_1 := XH.out.cells 1 _ rfl
  have YH := Lib.hid (YH.out.later b2)
  have Y_0 := YH.out.cells 0 _ rfl
  have Y_1 := YH.out.cells 1 _ rfl
  have Y_2 := YH.out.cells 2 _ rfl
  have Y_3 := YH.out.cells 3 _ rfl
  have Y_4 := YH.out.cells 4 _ rfl
  have Y_5 := YH.out.cells 5 _ rfl
  have Y_6 := YH.out.cells 6 _ rfl
  have Y_7 := YH.out.cells 7 _ rfl
  have Y_8 := YH.out.cells 8 _ rfl
  have Y_9 := YH.out.cells 9 _ rfl
  have Y_10 := YH.out.cells 10 _ rfl
  have Y_11 := YH.out.cells 11 _ rfl
  have ZH := Lib.hid (ZH.out.later b2)
  have Z_0 := ZH.out.cells 0 _ rfl
  have Z_1 := ZH.out.cells 1 _ rfl
  have Z_2 := ZH.out.cells 2 _ rfl
  have Z_3 := ZH.out.cells 3 _ rfl
  have Z_4 := ZH.out.cells 4 _ rfl
  have Z_5 := ZH.out.cells 5 _ rfl
  have Z_6 := ZH.out.cells 6 _ rfl
  have Z_7 := ZH.out.cells 7 _ rfl
  have Z_8 := ZH.out.cells 8 _ rfl
  have Z_9 := ZH.out.cells 9 _ rfl
  have Z_10 := ZH.out.cells 10 _ rfl
  have Z_11 := ZH.out.cells 11 _ rfl
  have UH := Lib.hid (UH.out.later b2)
  have U_0 := UH.out.cells 0 _ rfl
  have U_1 := UH.out.cells 1 _ rfl
  have U_2 := UH.out.cells 2 _ rfl
  have U_3 := UH.out.cells 3 _ rfl
  have U_4 := UH.out.cells 4 _ rfl
  have U_5 := UH.out.cells 5 _ rfl
  have U_6 := UH.out.cells 6 _ rfl
  have U_7 := UH.out.cells 7 _ rfl
  have U_8 := UH.out.cells 8 _ rfl
  have U_9 := UH.out.cells 9 _ rfl
  have U_10 := UH.out.cells 10 _ rfl
  have U_11 := UH.out.cells 11 _ rfl
  have BH := Lib.hid (chainX w BH.out b2)
  clear b2
  go_wp2
  go_ret
  exact ⟨rfl, BH.out⟩
end Go.Proofs.Ythbhefgnbomboaa.Rd
