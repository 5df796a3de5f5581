/-
  The operation at the head of a text: what the program and the model answer (written by tools/gen/geto.py).
-/
import Derived.Test.YtbnjgehgaellmaaDoorRdrS
import Derived.Test.YtbnjgehgaellmaaDoorPutO
namespace Go.Proofs.YtbnjgehgaellmaaDoor.Rd
open Go.RowKit Go.ChangeShapes Go.WideShapes Go.Proofs.YtbnjgehgaellmaaDoor.GfI Go.Proofs.YtbnjgehgaellmaaDoor.GfS Go.Proofs.YtbnjgehgaellmaaDoor.Cd
open Go.Proofs.YtbnjgehgaellmaaDoor.Sg (BxN)
set_option linter.unusedVariables false
set_option linter.unusedSimpArgs false

theorem bxGrown {w w' : World} {b : Nat} {vs : List Value} {row : Option Nat} (h : Sg.BxN w b vs) (g : w.grownBy w' row) (hne : some b ≠ row) : Sg.BxN w' b vs :=
  ⟨Nat.lt_of_lt_of_le h.lt g.size, fun i v hv => g.cell (h.cells i v hv) hne, fun i => (World.frozen?_of_block (a := ⟨b, i, none⟩) (g.block b h.lt hne)).trans (h.free i)⟩
abbrev NoOp : Value := .tuple #[.agg #[.int .i64 0, .int .i64 0, .string ByteArray.empty], .int .i64 0, .bool false]
set_option maxRecDepth 100000 in
set_option maxHeartbeats 8000000 in
theorem specGetOp_no1 (s : ByteArray) (hs : s.size ≤ 1048576) (h1 : rdN s 0 = none) (w : World) : Calls Tryd.prog 4 #[.string s] w (RetW NoOp w) := by
  unfold NoOp
  have BH := Lib.hid (chainX w (lay w (.cells #[.int .i64 0, .int .i64 0, .string ByteArray.empty] 23)) (lay _ (.cells #[.string s, .int .i64 0, .bool false] 30)))
  have OH := Lib.hid ((BxN.new w #[.int .i64 0, .int .i64 0, .string ByteArray.empty] 23).later (lay _ (.cells #[.string s, .int .i64 0, .bool false] 30)))
  have R0 := BxN.new (w.alloc (.cells #[.int .i64 0, .int .i64 0, .string ByteArray.empty] 23)) #[.string s, .int .i64 0, .bool false] 30
  rw [World.size_alloc] at R0
  have RH := Lib.hid R0
  clear R0
  rcases h3 : rdT s 0 with _ | ⟨S, l3⟩
  · skip
    go_enter Tryd.func4, Tryd.ntmps4
    go_wp2_with fail
    refine (spec_num_none (w.heap.size + 1) s 0 false hs (Nat.zero_le _) h1 _ RH.out).mono ?_
    rintro e w2 ⟨rfl, X2, g2⟩
    have OH := Lib.hid (bxGrown OH.out g2 (fun e => by have := Option.some.inj e; omega))
    have BH := Lib.hid (BH.out.grown g2 (by first | exact BH.out.size | (have := BH.out.size; omega)) (fun k hk => by cases hk; omega))
    have RH := Lib.hid X2
    clear X2 g2
    go_wp2_with fail
    refine (spec_num_none (w.heap.size + 1) s 0 true hs (Nat.zero_le _) h1 _ RH.out).mono ?_
    rintro e w2 ⟨rfl, X2, g2⟩
    have OH := Lib.hid (bxGrown OH.out g2 (fun e => by have := Option.some.inj e; omega))
    have BH := Lib.hid (BH.out.grown g2 (by first | exact BH.out.size | (have := BH.out.size; omega)) (fun k hk => by cases hk; omega))
    have RH := Lib.hid X2
    clear X2 g2
    go_wp2_with fail
    refine (spec_str_none (w.heap.size + 1) s 0 true hs (Nat.zero_le _) h3 _ RH.out).mono ?_
    rintro e w2 ⟨rfl, X2, g2⟩
    have OH := Lib.hid (bxGrown OH.out g2 (fun e => by have := Option.some.inj e; omega))
    have BH := Lib.hid (BH.out.grown g2 (by first | exact BH.out.size | (have := BH.out.size; omega)) (fun k hk => by cases hk; omega))
    have RH := Lib.hid X2
    clear X2 g2
    have LY := lay w2 (.cells #[.int .i64 0, .int .i64 0, .string ⟨#[]⟩] 23)
    have YN := BxN.new w2 #[.int .i64 0, .int .i64 0, .string ⟨#[]⟩] 23
    have NE := Lib.hid (show w2.heap.size ≠ w.heap.size ∧ w2.heap.size ≠ w.heap.size + 1 from by have := OH.out.lt; have := RH.out.lt; exact ⟨by omega, by omega⟩)
    have OH := Lib.hid (OH.out.later LY)
    have RH := Lib.hid (RH.out.later LY)
    have VH := Lib.hid YN
    have BH := Lib.hid (chainX w BH.out LY)
    clear LY YN
    go_wp2_with fail
    generalize w2.alloc (.cells #[.int .i64 0, .int .i64 0, .string ⟨#[]⟩] 23) = w4 at *
    generalize w2.heap.size = vb at *
    have ne1 : vb ≠ w.heap.size := NE.out.1
    have ne2 : w.heap.size ≠ vb := fun e => ne1 e.symm
    have ne3 : vb ≠ w.heap.size + 1 := NE.out.2
    have ne4 : w.heap.size + 1 ≠ vb := fun e => ne3 e.symm
    clear NE
    have O_0 := OH.out.cells 0 _ rfl
    have O_1 := OH.out.cells 1 _ rfl
    have O_2 := OH.out.cells 2 _ rfl
    have R_0 := RH.out.cells 0 _ rfl
    have R_1 := RH.out.cells 1 _ rfl
    have R_2 := RH.out.cells 2 _ rfl
    have V_0 := VH.out.cells 0 _ rfl
    have V_1 := VH.out.cells 1 _ rfl
    have V_2 := VH.out.cells 2 _ rfl
    have of := OH.out.free
    go_quiet (fail)
    generalize hw5 : w4.drewN nq = w5 at *
    have OH := Lib.hid (show BxN w5 w.heap.size [.int .i64 0, .int .i64 0, .string ByteArray.empty] from hw5 ▸ bxDrewN OH.out nq)
    have BH := Lib.hid (show Below w.heap.size w w5 from hw5 ▸ drewB BH.out nq)
    clear hw5 RH VH
    have O_0 := OH.out.cells 0 _ rfl
    have O_1 := OH.out.cells 1 _ rfl
    have O_2 := OH.out.cells 2 _ rfl
    have of := OH.out.free
    have FH := Lib.hid (show RetW (.tuple #[.agg #[.int .i64 0, .int .i64 0, .string ByteArray.empty], .int .i64 0, .bool false]) w (.returned (.tuple #[.agg #[.int .i64 0, .int .i64 0, .string ByteArray.empty], .int .i64 0, .bool false])) ((((w5).setCell ⟨w.heap.size, 0, none⟩ (.int .i64 0)).setCell ⟨w.heap.size, 1, none⟩ (.int .i64 0)).setCell ⟨w.heap.size, 2, none⟩ (.string ByteArray.empty)) from ⟨rfl, (Below.setCell (p := ⟨w.heap.size, 2, none⟩) (Below.setCell (p := ⟨w.heap.size, 1, none⟩) (Below.setCell (p := ⟨w.heap.size, 0, none⟩) BH.out (Nat.le_refl _) (.int .i64 0)) (Nat.le_refl _) (.int .i64 0)) (Nat.le_refl _) (.string ByteArray.empty))⟩)
    go_wp2
    exact bodyPost_ret (v := .tuple #[.agg #[.int .i64 0, .int .i64 0, .string ByteArray.empty], .int .i64 0, .bool false]) (by simp [results, Tryd.results4, go_sem, *] <;> rfl) rfl FH.out
  · skip
    go_enter Tryd.func4, Tryd.ntmps4
    go_wp2_with fail
    refine (spec_num_none (w.heap.size + 1) s 0 false hs (Nat.zero_le _) h1 _ RH.out).mono ?_
    rintro e w2 ⟨rfl, X2, g2⟩
    have OH := Lib.hid (bxGrown OH.out g2 (fun e => by have := Option.some.inj e; omega))
    have BH := Lib.hid (BH.out.grown g2 (by first | exact BH.out.size | (have := BH.out.size; omega)) (fun k hk => by cases hk; omega))
    have RH := Lib.hid X2
    clear X2 g2
    go_wp2_with fail
    refine (spec_num_none (w.heap.size + 1) s 0 true hs (Nat.zero_le _) h1 _ RH.out).mono ?_
    rintro e w2 ⟨rfl, X2, g2⟩
    have OH := Lib.hid (bxGrown OH.out g2 (fun e => by have := Option.some.inj e; omega))
    have BH := Lib.hid (BH.out.grown g2 (by first | exact BH.out.size | (have := BH.out.size; omega)) (fun k hk => by cases hk; omega))
    have RH := Lib.hid X2
    clear X2 g2
    go_wp2_with fail
    refine (spec_str_some (w.heap.size + 1) s 0 true S l3 hs (Nat.zero_le _) h3 _ RH.out).mono ?_
    rintro e w2 ⟨rfl, X2, g2⟩
    have OH := Lib.hid (bxGrown OH.out g2 (fun e => by have := Option.some.inj e; omega))
    have BH := Lib.hid (BH.out.grown g2 (by first | exact BH.out.size | (have := BH.out.size; omega)) (fun k hk => by cases hk; omega))
    have RH := Lib.hid X2
    clear X2 g2
    have LY := lay w2 (.cells #[.int .i64 0, .int .i64 0, .string S] 23)
    have YN := BxN.new w2 #[.int .i64 0, .int .i64 0, .string S] 23
    have NE := Lib.hid (show w2.heap.size ≠ w.heap.size ∧ w2.heap.size ≠ w.heap.size + 1 from by have := OH.out.lt; have := RH.out.lt; exact ⟨by omega, by omega⟩)
    have OH := Lib.hid (OH.out.later LY)
    have RH := Lib.hid (RH.out.later LY)
    have VH := Lib.hid YN
    have BH := Lib.hid (chainX w BH.out LY)
    clear LY YN
    go_wp2_with fail
    generalize w2.alloc (.cells #[.int .i64 0, .int .i64 0, .string S] 23) = w4 at *
    generalize w2.heap.size = vb at *
    have ne1 : vb ≠ w.heap.size := NE.out.1
    have ne2 : w.heap.size ≠ vb := fun e => ne1 e.symm
    have ne3 : vb ≠ w.heap.size + 1 := NE.out.2
    have ne4 : w.heap.size + 1 ≠ vb := fun e => ne3 e.symm
    clear NE
    have O_0 := OH.out.cells 0 _ rfl
    have O_1 := OH.out.cells 1 _ rfl
    have O_2 := OH.out.cells 2 _ rfl
    have R_0 := RH.out.cells 0 _ rfl
    have R_1 := RH.out.cells 1 _ rfl
    have R_2 := RH.out.cells 2 _ rfl
    have V_0 := VH.out.cells 0 _ rfl
    have V_1 := VH.out.cells 1 _ rfl
    have V_2 := VH.out.cells 2 _ rfl
    have of := OH.out.free
    go_quiet (fail)
    generalize hw5 : w4.drewN nq = w5 at *
    have OH := Lib.hid (show BxN w5 w.heap.size [.int .i64 0, .int .i64 0, .string ByteArray.empty] from hw5 ▸ bxDrewN OH.out nq)
    have BH := Lib.hid (show Below w.heap.size w w5 from hw5 ▸ drewB BH.out nq)
    clear hw5 RH VH
    have O_0 := OH.out.cells 0 _ rfl
    have O_1 := OH.out.cells 1 _ rfl
    have O_2 := OH.out.cells 2 _ rfl
    have of := OH.out.free
    have FH := Lib.hid (show RetW (.tuple #[.agg #[.int .i64 0, .int .i64 0, .string ByteArray.empty], .int .i64 0, .bool false]) w (.returned (.tuple #[.agg #[.int .i64 0, .int .i64 0, .string ByteArray.empty], .int .i64 0, .bool false])) ((((w5).setCell ⟨w.heap.size, 0, none⟩ (.int .i64 0)).setCell ⟨w.heap.size, 1, none⟩ (.int .i64 0)).setCell ⟨w.heap.size, 2, none⟩ (.string ByteArray.empty)) from ⟨rfl, (Below.setCell (p := ⟨w.heap.size, 2, none⟩) (Below.setCell (p := ⟨w.heap.size, 1, none⟩) (Below.setCell (p := ⟨w.heap.size, 0, none⟩) BH.out (Nat.le_refl _) (.int .i64 0)) (Nat.le_refl _) (.int .i64 0)) (Nat.le_refl _) (.string ByteArray.empty))⟩)
    go_wp2
    exact bodyPost_ret (v := .tuple #[.agg #[.int .i64 0, .int .i64 0, .string ByteArray.empty], .int .i64 0, .bool false]) (by simp [results, Tryd.results4, go_sem, *] <;> rfl) rfl FH.out
set_option maxRecDepth 100000 in
set_option maxHeartbeats 8000000 in
theorem specGetOp_no2 (s : ByteArray) (hs : s.size ≤ 1048576) {K : Int} {l1 : Nat} (h1 : rdN s 0 = some (K, l1)) (h2 : rdN s (0 + l1) = none) (w : World) : Calls Tryd.prog 4 #[.string s] w (RetW NoOp w) := by
  unfold NoOp
  have e1 : 0 + l1 ≤ s.size := (rdN_le (Nat.zero_le _) h1).1
  have BH := Lib.hid (chainX w (lay w (.cells #[.int .i64 0, .int .i64 0, .string ByteArray.empty] 23)) (lay _ (.cells #[.string s, .int .i64 0, .bool false] 30)))
  have OH := Lib.hid ((BxN.new w #[.int .i64 0, .int .i64 0, .string ByteArray.empty] 23).later (lay _ (.cells #[.string s, .int .i64 0, .bool false] 30)))
  have R0 := BxN.new (w.alloc (.cells #[.int .i64 0, .int .i64 0, .string ByteArray.empty] 23)) #[.string s, .int .i64 0, .bool false] 30
  rw [World.size_alloc] at R0
  have RH := Lib.hid R0
  clear R0
  rcases h3 : rdT s (0 + l1) with _ | ⟨S, l3⟩
  · skip
    go_enter Tryd.func4, Tryd.ntmps4
    go_wp2_with fail
    refine (spec_num_some (w.heap.size + 1) s 0 false K l1 hs (Nat.zero_le _) h1 _ RH.out).mono ?_
    rintro e w2 ⟨rfl, X2, g2⟩
    have OH := Lib.hid (bxGrown OH.out g2 (fun e => by have := Option.some.inj e; omega))
    have BH := Lib.hid (BH.out.grown g2 (by first | exact BH.out.size | (have := BH.out.size; omega)) (fun k hk => by cases hk; omega))
    have RH := Lib.hid X2
    clear X2 g2
    go_wp2_with fail
    refine (spec_num_none (w.heap.size + 1) s (0 + l1) false hs e1 h2 _ RH.out).mono ?_
    rintro e w2 ⟨rfl, X2, g2⟩
    have OH := Lib.hid (bxGrown OH.out g2 (fun e => by have := Option.some.inj e; omega))
    have BH := Lib.hid (BH.out.grown g2 (by first | exact BH.out.size | (have := BH.out.size; omega)) (fun k hk => by cases hk; omega))
    have RH := Lib.hid X2
    clear X2 g2
    go_wp2_with fail
    refine (spec_str_none (w.heap.size + 1) s (0 + l1) true hs e1 h3 _ RH.out).mono ?_
    rintro e w2 ⟨rfl, X2, g2⟩
    have OH := Lib.hid (bxGrown OH.out g2 (fun e => by have := Option.some.inj e; omega))
    have BH := Lib.hid (BH.out.grown g2 (by first | exact BH.out.size | (have := BH.out.size; omega)) (fun k hk => by cases hk; omega))
    have RH := Lib.hid X2
    clear X2 g2
    have LY := lay w2 (.cells #[.int .i64 K, .int .i64 0, .string ⟨#[]⟩] 23)
    have YN := BxN.new w2 #[.int .i64 K, .int .i64 0, .string ⟨#[]⟩] 23
    have NE := Lib.hid (show w2.heap.size ≠ w.heap.size ∧ w2.heap.size ≠ w.heap.size + 1 from by have := OH.out.lt; have := RH.out.lt; exact ⟨by omega, by omega⟩)
    have OH := Lib.hid (OH.out.later LY)
    have RH := Lib.hid (RH.out.later LY)
    have VH := Lib.hid YN
    have BH := Lib.hid (chainX w BH.out LY)
    clear LY YN
    go_wp2_with fail
    generalize w2.alloc (.cells #[.int .i64 K, .int .i64 0, .string ⟨#[]⟩] 23) = w4 at *
    generalize w2.heap.size = vb at *
    have ne1 : vb ≠ w.heap.size := NE.out.1
    have ne2 : w.heap.size ≠ vb := fun e => ne1 e.symm
    have ne3 : vb ≠ w.heap.size + 1 := NE.out.2
    have ne4 : w.heap.size + 1 ≠ vb := fun e => ne3 e.symm
    clear NE
    have O_0 := OH.out.cells 0 _ rfl
    have O_1 := OH.out.cells 1 _ rfl
    have O_2 := OH.out.cells 2 _ rfl
    have R_0 := RH.out.cells 0 _ rfl
    have R_1 := RH.out.cells 1 _ rfl
    have R_2 := RH.out.cells 2 _ rfl
    have V_0 := VH.out.cells 0 _ rfl
    have V_1 := VH.out.cells 1 _ rfl
    have V_2 := VH.out.cells 2 _ rfl
    have of := OH.out.free
    go_quiet (fail)
    generalize hw5 : w4.drewN nq = w5 at *
    have OH := Lib.hid (show BxN w5 w.heap.size [.int .i64 0, .int .i64 0, .string ByteArray.empty] from hw5 ▸ bxDrewN OH.out nq)
    have BH := Lib.hid (show Below w.heap.size w w5 from hw5 ▸ drewB BH.out nq)
    clear hw5 RH VH
    have O_0 := OH.out.cells 0 _ rfl
    have O_1 := OH.out.cells 1 _ rfl
    have O_2 := OH.out.cells 2 _ rfl
    have of := OH.out.free
    have FH := Lib.hid (show RetW (.tuple #[.agg #[.int .i64 0, .int .i64 0, .string ByteArray.empty], .int .i64 0, .bool false]) w (.returned (.tuple #[.agg #[.int .i64 0, .int .i64 0, .string ByteArray.empty], .int .i64 0, .bool false])) ((((w5).setCell ⟨w.heap.size, 0, none⟩ (.int .i64 0)).setCell ⟨w.heap.size, 1, none⟩ (.int .i64 0)).setCell ⟨w.heap.size, 2, none⟩ (.string ByteArray.empty)) from ⟨rfl, (Below.setCell (p := ⟨w.heap.size, 2, none⟩) (Below.setCell (p := ⟨w.heap.size, 1, none⟩) (Below.setCell (p := ⟨w.heap.size, 0, none⟩) BH.out (Nat.le_refl _) (.int .i64 0)) (Nat.le_refl _) (.int .i64 0)) (Nat.le_refl _) (.string ByteArray.empty))⟩)
    go_wp2
    exact bodyPost_ret (v := .tuple #[.agg #[.int .i64 0, .int .i64 0, .string ByteArray.empty], .int .i64 0, .bool false]) (by simp [results, Tryd.results4, go_sem, *] <;> rfl) rfl FH.out
  · skip
    go_enter Tryd.func4, Tryd.ntmps4
    go_wp2_with fail
    refine (spec_num_some (w.heap.size + 1) s 0 false K l1 hs (Nat.zero_le _) h1 _ RH.out).mono ?_
    rintro e w2 ⟨rfl, X2, g2⟩
    have OH := Lib.hid (bxGrown OH.out g2 (fun e => by have := Option.some.inj e; omega))
    have BH := Lib.hid (BH.out.grown g2 (by first | exact BH.out.size | (have := BH.out.size; omega)) (fun k hk => by cases hk; omega))
    have RH := Lib.hid X2
    clear X2 g2
    go_wp2_with fail
    refine (spec_num_none (w.heap.size + 1) s (0 + l1) false hs e1 h2 _ RH.out).mono ?_
    rintro e w2 ⟨rfl, X2, g2⟩
    have OH := Lib.hid (bxGrown OH.out g2 (fun e => by have := Option.some.inj e; omega))
    have BH := Lib.hid (BH.out.grown g2 (by first | exact BH.out.size | (have := BH.out.size; omega)) (fun k hk => by cases hk; omega))
    have RH := Lib.hid X2
    clear X2 g2
    go_wp2_with fail
    refine (spec_str_some (w.heap.size + 1) s (0 + l1) true S l3 hs e1 h3 _ RH.out).mono ?_
    rintro e w2 ⟨rfl, X2, g2⟩
    have OH := Lib.hid (bxGrown OH.out g2 (fun e => by have := Option.some.inj e; omega))
    have BH := Lib.hid (BH.out.grown g2 (by first | exact BH.out.size | (have := BH.out.size; omega)) (fun k hk => by cases hk; omega))
    have RH := Lib.hid X2
    clear X2 g2
    have LY := lay w2 (.cells #[.int .i64 K, .int .i64 0, .string S] 23)
    have YN := BxN.new w2 #[.int .i64 K, .int .i64 0, .string S] 23
    have NE := Lib.hid (show w2.heap.size ≠ w.heap.size ∧ w2.heap.size ≠ w.heap.size + 1 from by have := OH.out.lt; have := RH.out.lt; exact ⟨by omega, by omega⟩)
    have OH := Lib.hid (OH.out.later LY)
    have RH := Lib.hid (RH.out.later LY)
    have VH := Lib.hid YN
    have BH := Lib.hid (chainX w BH.out LY)
    clear LY YN
    go_wp2_with fail
    generalize w2.alloc (.cells #[.int .i64 K, .int .i64 0, .string S] 23) = w4 at *
    generalize w2.heap.size = vb at *
    have ne1 : vb ≠ w.heap.size := NE.out.1
    have ne2 : w.heap.size ≠ vb := fun e => ne1 e.symm
    have ne3 : vb ≠ w.heap.size + 1 := NE.out.2
    have ne4 : w.heap.size + 1 ≠ vb := fun e => ne3 e.symm
    clear NE
    have O_0 := OH.out.cells 0 _ rfl
    have O_1 := OH.out.cells 1 _ rfl
    have O_2 := OH.out.cells 2 _ rfl
    have R_0 := RH.out.cells 0 _ rfl
    have R_1 := RH.out.cells 1 _ rfl
    have R_2 := RH.out.cells 2 _ rfl
    have V_0 := VH.out.cells 0 _ rfl
    have V_1 := VH.out.cells 1 _ rfl
    have V_2 := VH.out.cells 2 _ rfl
    have of := OH.out.free
    go_quiet (fail)
    generalize hw5 : w4.drewN nq = w5 at *
    have OH := Lib.hid (show BxN w5 w.heap.size [.int .i64 0, .int .i64 0, .string ByteArray.empty] from hw5 ▸ bxDrewN OH.out nq)
    have BH := Lib.hid (show Below w.heap.size w w5 from hw5 ▸ drewB BH.out nq)
    clear hw5 RH VH
    have O_0 := OH.out.cells 0 _ rfl
    have O_1 := OH.out.cells 1 _ rfl
    have O_2 := OH.out.cells 2 _ rfl
    have of := OH.out.free
    have FH := Lib.hid (show RetW (.tuple #[.agg #[.int .i64 0, .int .i64 0, .string ByteArray.empty], .int .i64 0, .bool false]) w (.returned (.tuple #[.agg #[.int .i64 0, .int .i64 0, .string ByteArray.empty], .int .i64 0, .bool false])) ((((w5).setCell ⟨w.heap.size, 0, none⟩ (.int .i64 0)).setCell ⟨w.heap.size, 1, none⟩ (.int .i64 0)).setCell ⟨w.heap.size, 2, none⟩ (.string ByteArray.empty)) from ⟨rfl, (Below.setCell (p := ⟨w.heap.size, 2, none⟩) (Below.setCell (p := ⟨w.heap.size, 1, none⟩) (Below.setCell (p := ⟨w.heap.size, 0, none⟩) BH.out (Nat.le_refl _) (.int .i64 0)) (Nat.le_refl _) (.int .i64 0)) (Nat.le_refl _) (.string ByteArray.empty))⟩)
    go_wp2
    exact bodyPost_ret (v := .tuple #[.agg #[.int .i64 0, .int .i64 0, .string ByteArray.empty], .int .i64 0, .bool false]) (by simp [results, Tryd.results4, go_sem, *] <;> rfl) rfl FH.out
set_option maxRecDepth 100000 in
set_option maxHeartbeats 8000000 in
theorem specGetOp_no3 (s : ByteArray) (hs : s.size ≤ 1048576) {K A : Int} {l1 l2 : Nat} (h1 : rdN s 0 = some (K, l1)) (h2 : rdN s (0 + l1) = some (A, l2)) (h3 : rdT s (0 + l1 + l2) = none) (w : World) : Calls Tryd.prog 4 #[.string s] w (RetW NoOp w) := by
  unfold NoOp
  have e1 : 0 + l1 ≤ s.size := (rdN_le (Nat.zero_le _) h1).1
  have e2 : 0 + l1 + l2 ≤ s.size := (rdN_le e1 h2).1
  have BH := Lib.hid (chainX w (lay w (.cells #[.int .i64 0, .int .i64 0, .string ByteArray.empty] 23)) (lay _ (.cells #[.string s, .int .i64 0, .bool false] 30)))
  have OH := Lib.hid ((BxN.new w #[.int .i64 0, .int .i64 0, .string ByteArray.empty] 23).later (lay _ (.cells #[.string s, .int .i64 0, .bool false] 30)))
  have R0 := BxN.new (w.alloc (.cells #[.int .i64 0, .int .i64 0, .string ByteArray.empty] 23)) #[.string s, .int .i64 0, .bool false] 30
  rw [World.size_alloc] at R0
  have RH := Lib.hid R0
  clear R0
  go_enter Tryd.func4, Tryd.ntmps4
  go_wp2_with fail
  refine (spec_num_some (w.heap.size + 1) s 0 false K l1 hs (Nat.zero_le _) h1 _ RH.out).mono ?_
  rintro e w2 ⟨rfl, X2, g2⟩
  have OH := Lib.hid (bxGrown OH.out g2 (fun e => by have := Option.some.inj e; omega))
  have BH := Lib.hid (BH.out.grown g2 (by first | exact BH.out.size | (have := BH.out.size; omega)) (fun k hk => by cases hk; omega))
  have RH := Lib.hid X2
  clear X2 g2
  go_wp2_with fail
  refine (spec_num_some (w.heap.size + 1) s (0 + l1) false A l2 hs e1 h2 _ RH.out).mono ?_
  rintro e w2 ⟨rfl, X2, g2⟩
  have OH := Lib.hid (bxGrown OH.out g2 (fun e => by have := Option.some.inj e; omega))
  have BH := Lib.hid (BH.out.grown g2 (by first | exact BH.out.size | (have := BH.out.size; omega)) (fun k hk => by cases hk; omega))
  have RH := Lib.hid X2
  clear X2 g2
  go_wp2_with fail
  refine (spec_str_none (w.heap.size + 1) s (0 + l1 + l2) false hs e2 h3 _ RH.out).mono ?_
  rintro e w2 ⟨rfl, X2, g2⟩
  have OH := Lib.hid (bxGrown OH.out g2 (fun e => by have := Option.some.inj e; omega))
  have BH := Lib.hid (BH.out.grown g2 (by first | exact BH.out.size | (have := BH.out.size; omega)) (fun k hk => by cases hk; omega))
  have RH := Lib.hid X2
  clear X2 g2
  have LY := lay w2 (.cells #[.int .i64 K, .int .i64 A, .string ⟨#[]⟩] 23)
  have YN := BxN.new w2 #[.int .i64 K, .int .i64 A, .string ⟨#[]⟩] 23
  have NE := Lib.hid (show w2.heap.size ≠ w.heap.size ∧ w2.heap.size ≠ w.heap.size + 1 from by have := OH.out.lt; have := RH.out.lt; exact ⟨by omega, by omega⟩)
  have OH := Lib.hid (OH.out.later LY)
  have RH := Lib.hid (RH.out.later LY)
  have VH := Lib.hid YN
  have BH := Lib.hid (chainX w BH.out LY)
  clear LY YN
  go_wp2_with fail
  generalize w2.alloc (.cells #[.int .i64 K, .int .i64 A, .string ⟨#[]⟩] 23) = w4 at *
  generalize w2.heap.size = vb at *
  have ne1 : vb ≠ w.heap.size := NE.out.1
  have ne2 : w.heap.size ≠ vb := fun e => ne1 e.symm
  have ne3 : vb ≠ w.heap.size + 1 := NE.out.2
  have ne4 : w.heap.size + 1 ≠ vb := fun e => ne3 e.symm
  clear NE
  have O_0 := OH.out.cells 0 _ rfl
  have O_1 := OH.out.cells 1 _ rfl
  have O_2 := OH.out.cells 2 _ rfl
  have R_0 := RH.out.cells 0 _ rfl
  have R_1 := RH.out.cells 1 _ rfl
  have R_2 := RH.out.cells 2 _ rfl
  have V_0 := VH.out.cells 0 _ rfl
  have V_1 := VH.out.cells 1 _ rfl
  have V_2 := VH.out.cells 2 _ rfl
  have of := OH.out.free
  go_quiet (fail)
  generalize hw5 : w4.drewN nq = w5 at *
  have OH := Lib.hid (show BxN w5 w.heap.size [.int .i64 0, .int .i64 0, .string ByteArray.empty] from hw5 ▸ bxDrewN OH.out nq)
  have BH := Lib.hid (show Below w.heap.size w w5 from hw5 ▸ drewB BH.out nq)
  clear hw5 RH VH
  have O_0 := OH.out.cells 0 _ rfl
  have O_1 := OH.out.cells 1 _ rfl
  have O_2 := OH.out.cells 2 _ rfl
  have of := OH.out.free
  have FH := Lib.hid (show RetW (.tuple #[.agg #[.int .i64 0, .int .i64 0, .string ByteArray.empty], .int .i64 0, .bool false]) w (.returned (.tuple #[.agg #[.int .i64 0, .int .i64 0, .string ByteArray.empty], .int .i64 0, .bool false])) ((((w5).setCell ⟨w.heap.size, 0, none⟩ (.int .i64 0)).setCell ⟨w.heap.size, 1, none⟩ (.int .i64 0)).setCell ⟨w.heap.size, 2, none⟩ (.string ByteArray.empty)) from ⟨rfl, (Below.setCell (p := ⟨w.heap.size, 2, none⟩) (Below.setCell (p := ⟨w.heap.size, 1, none⟩) (Below.setCell (p := ⟨w.heap.size, 0, none⟩) BH.out (Nat.le_refl _) (.int .i64 0)) (Nat.le_refl _) (.int .i64 0)) (Nat.le_refl _) (.string ByteArray.empty))⟩)
  go_wp2
  exact bodyPost_ret (v := .tuple #[.agg #[.int .i64 0, .int .i64 0, .string ByteArray.empty], .int .i64 0, .bool false]) (by simp [results, Tryd.results4, go_sem, *] <;> rfl) rfl FH.out
set_option maxRecDepth 100000 in
set_option maxHeartbeats 8000000 in
theorem specGetOp_no4 (s : ByteArray) (hs : s.size ≤ 1048576) {K A : Int} {S : ByteArray} {l1 l2 l3 : Nat} (h1 : rdN s 0 = some (K, l1)) (h2 : rdN s (0 + l1) = some (A, l2)) (h3 : rdT s (0 + l1 + l2) = some (S, l3)) (hv : okO 1 0 K A S = false) (w : World) : Calls Tryd.prog 4 #[.string s] w (RetW NoOp w) := by
  unfold NoOp
  have e1 : 0 + l1 ≤ s.size := (rdN_le (Nat.zero_le _) h1).1
  have e2 : 0 + l1 + l2 ≤ s.size := (rdN_le e1 h2).1
  have OK := Lib.hid (fun w' => specOpOk 1 0 K A S _ hv w')
  clear hv
  have BH := Lib.hid (chainX w (lay w (.cells #[.int .i64 0, .int .i64 0, .string ByteArray.empty] 23)) (lay _ (.cells #[.string s, .int .i64 0, .bool false] 30)))
  have OH := Lib.hid ((BxN.new w #[.int .i64 0, .int .i64 0, .string ByteArray.empty] 23).later (lay _ (.cells #[.string s, .int .i64 0, .bool false] 30)))
  have R0 := BxN.new (w.alloc (.cells #[.int .i64 0, .int .i64 0, .string ByteArray.empty] 23)) #[.string s, .int .i64 0, .bool false] 30
  rw [World.size_alloc] at R0
  have RH := Lib.hid R0
  clear R0
  go_enter Tryd.func4, Tryd.ntmps4
  go_wp2_with fail
  refine (spec_num_some (w.heap.size + 1) s 0 false K l1 hs (Nat.zero_le _) h1 _ RH.out).mono ?_
  rintro e w2 ⟨rfl, X2, g2⟩
  have OH := Lib.hid (bxGrown OH.out g2 (fun e => by have := Option.some.inj e; omega))
  have BH := Lib.hid (BH.out.grown g2 (by first | exact BH.out.size | (have := BH.out.size; omega)) (fun k hk => by cases hk; omega))
  have RH := Lib.hid X2
  clear X2 g2
  go_wp2_with fail
  refine (spec_num_some (w.heap.size + 1) s (0 + l1) false A l2 hs e1 h2 _ RH.out).mono ?_
  rintro e w2 ⟨rfl, X2, g2⟩
  have OH := Lib.hid (bxGrown OH.out g2 (fun e => by have := Option.some.inj e; omega))
  have BH := Lib.hid (BH.out.grown g2 (by first | exact BH.out.size | (have := BH.out.size; omega)) (fun k hk => by cases hk; omega))
  have RH := Lib.hid X2
  clear X2 g2
  go_wp2_with fail
  refine (spec_str_some (w.heap.size + 1) s (0 + l1 + l2) false S l3 hs e2 h3 _ RH.out).mono ?_
  rintro e w2 ⟨rfl, X2, g2⟩
  have OH := Lib.hid (bxGrown OH.out g2 (fun e => by have := Option.some.inj e; omega))
  have BH := Lib.hid (BH.out.grown g2 (by first | exact BH.out.size | (have := BH.out.size; omega)) (fun k hk => by cases hk; omega))
  have RH := Lib.hid X2
  clear X2 g2
  have LY := lay w2 (.cells #[.int .i64 K, .int .i64 A, .string S] 23)
  have YN := BxN.new w2 #[.int .i64 K, .int .i64 A, .string S] 23
  have NE := Lib.hid (show w2.heap.size ≠ w.heap.size ∧ w2.heap.size ≠ w.heap.size + 1 from by have := OH.out.lt; have := RH.out.lt; exact ⟨by omega, by omega⟩)
  have OH := Lib.hid (OH.out.later LY)
  have RH := Lib.hid (RH.out.later LY)
  have VH := Lib.hid YN
  have BH := Lib.hid (chainX w BH.out LY)
  clear LY YN
  go_wp2_with fail
  generalize w2.alloc (.cells #[.int .i64 K, .int .i64 A, .string S] 23) = w4 at *
  generalize w2.heap.size = vb at *
  have ne1 : vb ≠ w.heap.size := NE.out.1
  have ne2 : w.heap.size ≠ vb := fun e => ne1 e.symm
  have ne3 : vb ≠ w.heap.size + 1 := NE.out.2
  have ne4 : w.heap.size + 1 ≠ vb := fun e => ne3 e.symm
  clear NE
  have O_0 := OH.out.cells 0 _ rfl
  have O_1 := OH.out.cells 1 _ rfl
  have O_2 := OH.out.cells 2 _ rfl
  have R_0 := RH.out.cells 0 _ rfl
  have R_1 := RH.out.cells 1 _ rfl
  have R_2 := RH.out.cells 2 _ rfl
  have V_0 := VH.out.cells 0 _ rfl
  have V_1 := VH.out.cells 1 _ rfl
  have V_2 := VH.out.cells 2 _ rfl
  have of := OH.out.free
  go_region_held3 (fun w' => w'.cell? ⟨vb, 0, none⟩ = some (.int .i64 K) ∧ w'.cell? ⟨vb, 1, none⟩ = some (.int .i64 A) ∧ w'.cell? ⟨vb, 2, none⟩ = some (.string S) ∧ w'.cell? ⟨w.heap.size + 1, 2, none⟩ = some (.bool false)) (go_keep)
    ((first
      | (go_at_call 10; refine (l16Plain _).mono ?_; rintro e w7 ⟨rfl, b2⟩; have b9 := b2; (try replace b9 := undrewX b9); have OH := Lib.hid (OH.out.later b9); have RH := Lib.hid (RH.out.later b9); have VH := Lib.hid (VH.out.later b9); have BH := Lib.hid (chainX w BH.out b9); clear b9 b2; have O_0 := OH.out.cells 0 _ rfl; have O_1 := OH.out.cells 1 _ rfl; have O_2 := OH.out.cells 2 _ rfl; have R_0 := RH.out.cells 0 _ rfl; have R_1 := RH.out.cells 1 _ rfl; have R_2 := RH.out.cells 2 _ rfl; have V_0 := VH.out.cells 0 _ rfl; have V_1 := VH.out.cells 1 _ rfl; have V_2 := VH.out.cells 2 _ rfl; have of := OH.out.free)
      | (go_at_call 9; refine (OK.out _).mono ?_; rintro e w7 ⟨rfl, b2⟩; have b9 := b2; (try replace b9 := undrewX b9); have OH := Lib.hid (OH.out.later b9); have RH := Lib.hid (RH.out.later b9); have VH := Lib.hid (VH.out.later b9); have BH := Lib.hid (chainX w BH.out b9); clear b9 b2; have O_0 := OH.out.cells 0 _ rfl; have O_1 := OH.out.cells 1 _ rfl; have O_2 := OH.out.cells 2 _ rfl; have R_0 := RH.out.cells 0 _ rfl; have R_1 := RH.out.cells 1 _ rfl; have R_2 := RH.out.cells 2 _ rfl; have V_0 := VH.out.cells 0 _ rfl; have V_1 := VH.out.cells 1 _ rfl; have V_2 := VH.out.cells 2 _ rfl; have of := OH.out.free)))
  all_goals
    have FH := Lib.hid (show RetW (.tuple #[.agg #[.int .i64 0, .int .i64 0, .string ByteArray.empty], .int .i64 0, .bool false]) w (.returned (.tuple #[.agg #[.int .i64 0, .int .i64 0, .string ByteArray.empty], .int .i64 0, .bool false])) ((((w7).setCell ⟨w.heap.size, 0, none⟩ (.int .i64 0)).setCell ⟨w.heap.size, 1, none⟩ (.int .i64 0)).setCell ⟨w.heap.size, 2, none⟩ (.string ByteArray.empty)) from ⟨rfl, (Below.setCell (p := ⟨w.heap.size, 2, none⟩) (Below.setCell (p := ⟨w.heap.size, 1, none⟩) (Below.setCell (p := ⟨w.heap.size, 0, none⟩) BH.out (Nat.le_refl _) (.int .i64 0)) (Nat.le_refl _) (.int .i64 0)) (Nat.le_refl _) (.string ByteArray.empty))⟩)
    go_wp2
    exact bodyPost_ret (v := .tuple #[.agg #[.int .i64 0, .int .i64 0, .string ByteArray.empty], .int .i64 0, .bool false]) (by simp [results, Tryd.results4, go_sem, *] <;> rfl) rfl FH.out
set_option maxRecDepth 100000 in
set_option maxHeartbeats 8000000 in
theorem specGetOp_yes (s : ByteArray) (hs : s.size ≤ 1048576) {K A : Int} {S : ByteArray} {l1 l2 l3 : Nat} (h1 : rdN s 0 = some (K, l1)) (h2 : rdN s (0 + l1) = some (A, l2)) (h3 : rdT s (0 + l1 + l2) = some (S, l3)) (hv : okO 1 0 K A S = true) (w : World) : Calls Tryd.prog 4 #[.string s] w (RetW (.tuple #[.agg #[.int .i64 K, .int .i64 A, .string S], .int .i64 ((0 + l1 + l2 + l3 : Nat) : Int), .bool true]) w) := by
  have e1 : 0 + l1 ≤ s.size := (rdN_le (Nat.zero_le _) h1).1
  have e2 : 0 + l1 + l2 ≤ s.size := (rdN_le e1 h2).1
  have OK := Lib.hid (fun w' => specOpOk 1 0 K A S _ hv w')
  clear hv
  have BH := Lib.hid (chainX w (lay w (.cells #[.int .i64 0, .int .i64 0, .string ByteArray.empty] 23)) (lay _ (.cells #[.string s, .int .i64 0, .bool false] 30)))
  have OH := Lib.hid ((BxN.new w #[.int .i64 0, .int .i64 0, .string ByteArray.empty] 23).later (lay _ (.cells #[.string s, .int .i64 0, .bool false] 30)))
  have R0 := BxN.new (w.alloc (.cells #[.int .i64 0, .int .i64 0, .string ByteArray.empty] 23)) #[.string s, .int .i64 0, .bool false] 30
  rw [World.size_alloc] at R0
  have RH := Lib.hid R0
  clear R0
  go_enter Tryd.func4, Tryd.ntmps4
  go_wp2_with fail
  refine (spec_num_some (w.heap.size + 1) s 0 false K l1 hs (Nat.zero_le _) h1 _ RH.out).mono ?_
  rintro e w2 ⟨rfl, X2, g2⟩
  have OH := Lib.hid (bxGrown OH.out g2 (fun e => by have := Option.some.inj e; omega))
  have BH := Lib.hid (BH.out.grown g2 (by first | exact BH.out.size | (have := BH.out.size; omega)) (fun k hk => by cases hk; omega))
  have RH := Lib.hid X2
  clear X2 g2
  go_wp2_with fail
  refine (spec_num_some (w.heap.size + 1) s (0 + l1) false A l2 hs e1 h2 _ RH.out).mono ?_
  rintro e w2 ⟨rfl, X2, g2⟩
  have OH := Lib.hid (bxGrown OH.out g2 (fun e => by have := Option.some.inj e; omega))
  have BH := Lib.hid (BH.out.grown g2 (by first | exact BH.out.size | (have := BH.out.size; omega)) (fun k hk => by cases hk; omega))
  have RH := Lib.hid X2
  clear X2 g2
  go_wp2_with fail
  refine (spec_str_some (w.heap.size + 1) s (0 + l1 + l2) false S l3 hs e2 h3 _ RH.out).mono ?_
  rintro e w2 ⟨rfl, X2, g2⟩
  have OH := Lib.hid (bxGrown OH.out g2 (fun e => by have := Option.some.inj e; omega))
  have BH := Lib.hid (BH.out.grown g2 (by first | exact BH.out.size | (have := BH.out.size; omega)) (fun k hk => by cases hk; omega))
  have RH := Lib.hid X2
  clear X2 g2
  have LY := lay w2 (.cells #[.int .i64 K, .int .i64 A, .string S] 23)
  have YN := BxN.new w2 #[.int .i64 K, .int .i64 A, .string S] 23
  have NE := Lib.hid (show w2.heap.size ≠ w.heap.size ∧ w2.heap.size ≠ w.heap.size + 1 from by have := OH.out.lt; have := RH.out.lt; exact ⟨by omega, by omega⟩)
  have OH := Lib.hid (OH.out.later LY)
  have RH := Lib.hid (RH.out.later LY)
  have VH := Lib.hid YN
  have BH := Lib.hid (chainX w BH.out LY)
  clear LY YN
  go_wp2_with fail
  generalize w2.alloc (.cells #[.int .i64 K, .int .i64 A, .string S] 23) = w4 at *
  generalize w2.heap.size = vb at *
  have ne1 : vb ≠ w.heap.size := NE.out.1
  have ne2 : w.heap.size ≠ vb := fun e => ne1 e.symm
  have ne3 : vb ≠ w.heap.size + 1 := NE.out.2
  have ne4 : w.heap.size + 1 ≠ vb := fun e => ne3 e.symm
  clear NE
  have O_0 := OH.out.cells 0 _ rfl
  have O_1 := OH.out.cells 1 _ rfl
  have O_2 := OH.out.cells 2 _ rfl
  have R_0 := RH.out.cells 0 _ rfl
  have R_1 := RH.out.cells 1 _ rfl
  have R_2 := RH.out.cells 2 _ rfl
  have V_0 := VH.out.cells 0 _ rfl
  have V_1 := VH.out.cells 1 _ rfl
  have V_2 := VH.out.cells 2 _ rfl
  have of := OH.out.free
  go_region_held3 (fun w' => w'.cell? ⟨vb, 0, none⟩ = some (.int .i64 K) ∧ w'.cell? ⟨vb, 1, none⟩ = some (.int .i64 A) ∧ w'.cell? ⟨vb, 2, none⟩ = some (.string S) ∧ w'.cell? ⟨w.heap.size + 1, 2, none⟩ = some (.bool false)) (go_keep)
    ((first
      | (go_at_call 10; refine (l16Plain _).mono ?_; rintro e w7 ⟨rfl, b2⟩; have b9 := b2; (try replace b9 := undrewX b9); have OH := Lib.hid (OH.out.later b9); have RH := Lib.hid (RH.out.later b9); have VH := Lib.hid (VH.out.later b9); have BH := Lib.hid (chainX w BH.out b9); clear b9 b2; have O_0 := OH.out.cells 0 _ rfl; have O_1 := OH.out.cells 1 _ rfl; have O_2 := OH.out.cells 2 _ rfl; have R_0 := RH.out.cells 0 _ rfl; have R_1 := RH.out.cells 1 _ rfl; have R_2 := RH.out.cells 2 _ rfl; have V_0 := VH.out.cells 0 _ rfl; have V_1 := VH.out.cells 1 _ rfl; have V_2 := VH.out.cells 2 _ rfl; have of := OH.out.free)
      | (go_at_call 9; refine (OK.out _).mono ?_; rintro e w7 ⟨rfl, b2⟩; have b9 := b2; (try replace b9 := undrewX b9); have OH := Lib.hid (OH.out.later b9); have RH := Lib.hid (RH.out.later b9); have VH := Lib.hid (VH.out.later b9); have BH := Lib.hid (chainX w BH.out b9); clear b9 b2; have O_0 := OH.out.cells 0 _ rfl; have O_1 := OH.out.cells 1 _ rfl; have O_2 := OH.out.cells 2 _ rfl; have R_0 := RH.out.cells 0 _ rfl; have R_1 := RH.out.cells 1 _ rfl; have R_2 := RH.out.cells 2 _ rfl; have V_0 := VH.out.cells 0 _ rfl; have V_1 := VH.out.cells 1 _ rfl; have V_2 := VH.out.cells 2 _ rfl; have of := OH.out.free)))
  all_goals
    go_wp2_with fail
    go_region_held3 (fun w' => w'.cell? ⟨vb, 0, none⟩ = some (.int .i64 K) ∧ w'.cell? ⟨vb, 1, none⟩ = some (.int .i64 A) ∧ w'.cell? ⟨vb, 2, none⟩ = some (.string S) ∧ w'.cell? ⟨w.heap.size + 1, 1, none⟩ = some (.int .i64 ((0 + l1 + l2 + l3 : Nat) : Int))) (go_keep)
      (fail)
    all_goals
      have FH := Lib.hid (show RetW (.tuple #[.agg #[.int .i64 K, .int .i64 A, .string S], .int .i64 ((0 + l1 + l2 + l3 : Nat) : Int), .bool true]) w (.returned (.tuple #[.agg #[.int .i64 K, .int .i64 A, .string S], .int .i64 ((0 + l1 + l2 + l3 : Nat) : Int), .bool true])) (((((w7).setCell ⟨w.heap.size, 0, none⟩ (.int .i64 K)).setCell ⟨w.heap.size, 1, none⟩ (.int .i64 A)).setCell ⟨w.heap.size, 2, none⟩ (.string S)).drew) from ⟨rfl, ((Below.setCell (p := ⟨w.heap.size, 2, none⟩) (Below.setCell (p := ⟨w.heap.size, 1, none⟩) (Below.setCell (p := ⟨w.heap.size, 0, none⟩) BH.out (Nat.le_refl _) (.int .i64 K)) (Nat.le_refl _) (.int .i64 A)) (Nat.le_refl _) (.string S))).drew⟩)
      go_wp2
      exact bodyPost_ret (v := .tuple #[.agg #[.int .i64 K, .int .i64 A, .string S], .int .i64 ((0 + l1 + l2 + l3 : Nat) : Int), .bool true]) (by simp [results, Tryd.results4, go_sem, *]) rfl FH.out
end Go.Proofs.YtbnjgehgaellmaaDoor.Rd
