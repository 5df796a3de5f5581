/-
  FnVers: of two versions that are not alike one is less, and what is less than one that is less is less: for whatever versions are drawn. No condition.
-/
import Derived.Test.YthbhefgnbomboaaDrawV
namespace Go.Proofs.Ythbhefgnbomboaa.Rd
open Go.RowKit Go.ChangeShapes Go.WideShapes Go.Proofs.Ythbhefgnbomboaa.Sr Go.Proofs.Ythbhefgnbomboaa.At
open Go.Proofs.Ythbhefgnbomboaa.Sg (BxN)
set_option linter.unusedVariables false
set_option linter.unusedSimpArgs false

theorem verL_trans (a b c : DVer) : verL a b = true → verL b c = true → verL a c = true := by
  unfold verL; simp; omega
theorem verL_same (a b : DVer) : a.epoch = b.epoch → a.seq = b.seq → verL a b = false := by
  intro h1 h2; unfold verL; simp [h1, h2]
theorem verL_iff (a b : DVer) : verL a b = true ↔ a.epoch < b.epoch ∨ (a.epoch = b.epoch ∧ a.seq < b.seq) := by unfold verL; simp
theorem verL_total (a b : DVer) : ¬ (a.epoch = b.epoch ∧ a.seq = b.seq) → verL a b = !verL b a := by
  intro h
  have e : ∀ x y : Bool, (x = true ↔ ¬ y = true) → x = !y := by decide
  apply e
  rw [verL_iff, verL_iff]
  omega
theorem long1 (a1 a2 : Option Addr) (n1 n2 c1 c2 : Nat) (q1 : 1048576 < n1) (w : World) : Calls Try.prog 10 #[.slice a1 n1 c1, .slice a2 n2 c2] w fun e w' => e = .returned (.bool true) ∧ w = w' := by
  go_enter Try.func10, Try.ntmps10
  go_wp2
  go_ret
  exact ⟨rfl, rfl⟩
theorem long2 (a1 a2 : Option Addr) (n1 n2 c1 c2 : Nat) (q1 : ¬ 1048576 < n1) (q2 : 1048576 < n2) (w : World) : Calls Try.prog 10 #[.slice a1 n1 c1, .slice a2 n2 c2] w fun e w' => e = .returned (.bool true) ∧ w = w' := by
  go_enter Try.func10, Try.ntmps10
  go_wp2
  go_ret
  exact ⟨congrArg (fun b => Ending.returned (.bool b)) (show (decide (1048576 < (n1 : Int)) || decide (1048576 < (n2 : Int))) = true by simp; omega), rfl⟩
theorem short (a1 a2 : Option Addr) (n1 n2 c1 c2 : Nat) (q1 : ¬ 1048576 < n1) (q2 : ¬ 1048576 < n2) (w : World) : Calls Try.prog 10 #[.slice a1 n1 c1, .slice a2 n2 c2] w fun e w' => e = .returned (.bool false) ∧ w = w' := by
  go_enter Try.func10, Try.ntmps10
  go_wp2
  go_ret
  exact ⟨congrArg (fun b => Ending.returned (.bool b)) (show (decide (1048576 < (n1 : Int)) || decide (1048576 < (n2 : Int))) = false by simp; omega), rfl⟩
set_option maxRecDepth 100000 in
set_option maxHeartbeats 8000000 in
theorem lawVers (a1 : Option Addr) (n1 c1 : Nat) (f1 : Nat → Int) (a2 : Option Addr) (n2 c2 : Nat) (f2 : Nat → Int) (w : World) (h1 : Byts w a1 n1 f1) (h2 : Byts w a2 n2 f2) :
    Calls Try.prog 3 #[.slice a1 n1 c1, .slice a2 n2 c2] w (RetW (.bool true) w) := by
  have WB := Lib.hid (Below.refl w.heap.size w)
  by_cases q1 : 1048576 < n1
  · have BL := Lib.hid (long1 a1 a2 n1 n2 c1 c2 q1)
    clear h1 h2
    go_enter Try.func3, Try.ntmps3
    go_wp2_with (go_at_call 10; refine (BL.out _).mono ?_; rintro e w2 ⟨rfl, rfl⟩)
    go_ret
    exact ⟨rfl, WB.out⟩
  by_cases q2 : 1048576 < n2
  · have BL := Lib.hid (long2 a1 a2 n1 n2 c1 c2 q1 q2)
    clear h1 h2
    go_enter Try.func3, Try.ntmps3
    go_wp2_with (go_at_call 10; refine (BL.out _).mono ?_; rintro e w2 ⟨rfl, rfl⟩)
    go_ret
    exact ⟨rfl, WB.out⟩
  have BL := Lib.hid (short a1 a2 n1 n2 c1 c2 q1 q2)
  have D1 := Lib.hid (fun w' (b : Below w.heap.size w w') => drawVerLess a1 n1 c1 f1 (by omega) w' (h1.below b))
  have D2 := Lib.hid (fun w' (b : Below w.heap.size w w') => drawVerLess a2 n2 c2 f2 (by omega) w' (h2.below b))
  clear h1 h2 q1 q2
  go_enter Try.func3, Try.ntmps3
  go_wp2_with fail
  refine (BL.out _).mono ?_
  rintro e w1 ⟨rfl, rfl⟩
  go_wp2_with fail
  refine (D1.out _ WB.out).mono ?_
  rintro e w2 ⟨a, b, rfl, b2⟩
  have Q9 := Lib.hid (chainX w WB.out b2)
  clear WB
  have WB := Q9
  clear Q9
  clear b2
  have LY := chainX w2 (lay w2 (.cells #[.int .i64 a.epoch, .int .i64 a.seq] 25)) (lay _ (.cells #[.int .i64 b.epoch, .int .i64 b.seq] 25))
  have N0 := Lib.hid ((BxN.new w2 #[.int .i64 a.epoch, .int .i64 a.seq] 25).later (lay _ (.cells #[.int .i64 b.epoch, .int .i64 b.seq] 25)))
  have N1 := BxN.new (w2.alloc (.cells #[.int .i64 a.epoch, .int .i64 a.seq] 25)) #[.int .i64 b.epoch, .int .i64 b.seq] 25
  rw [World.size_alloc] at N1
  have N1 := Lib.hid N1
  have Q9 := Lib.hid (chainX w WB.out LY)
  clear WB
  have WB := Q9
  clear Q9
  clear LY
  have AH := N0
  have A_0 := AH.out.cells 0 _ rfl
  have A_1 := AH.out.cells 1 _ rfl
  have BH := N1
  have B_0 := BH.out.cells 0 _ rfl
  have B_1 := BH.out.cells 1 _ rfl
  clear N0 N1
  go_wp2_with fail
  refine (D2.out _ WB.out).mono ?_
  rintro e w3 ⟨c, d, rfl, b2⟩
  have Q9 := Lib.hid (AH.out.later b2)
  clear AH
  have AH := Q9
  clear Q9
  have A_0 := AH.out.cells 0 _ rfl
  have A_1 := AH.out.cells 1 _ rfl
  have Q9 := Lib.hid (BH.out.later b2)
  clear BH
  have BH := Q9
  clear Q9
  have B_0 := BH.out.cells 0 _ rfl
  have B_1 := BH.out.cells 1 _ rfl
  have Q9 := Lib.hid (chainX w WB.out b2)
  clear WB
  have WB := Q9
  clear Q9
  clear b2
  have LY := chainX w3 (lay w3 (.cells #[.int .i64 c.epoch, .int .i64 c.seq] 25)) (lay _ (.cells #[.int .i64 d.epoch, .int .i64 d.seq] 25))
  have N0 := Lib.hid ((BxN.new w3 #[.int .i64 c.epoch, .int .i64 c.seq] 25).later (lay _ (.cells #[.int .i64 d.epoch, .int .i64 d.seq] 25)))
  have N1 := BxN.new (w3.alloc (.cells #[.int .i64 c.epoch, .int .i64 c.seq] 25)) #[.int .i64 d.epoch, .int .i64 d.seq] 25
  rw [World.size_alloc] at N1
  have N1 := Lib.hid N1
  have Q9 := Lib.hid (AH.out.later LY)
  clear AH
  have AH := Q9
  clear Q9
  have A_0 := AH.out.cells 0 _ rfl
  have A_1 := AH.out.cells 1 _ rfl
  have Q9 := Lib.hid (BH.out.later LY)
  clear BH
  have BH := Q9
  clear Q9
  have B_0 := BH.out.cells 0 _ rfl
  have B_1 := BH.out.cells 1 _ rfl
  have Q9 := Lib.hid (chainX w WB.out LY)
  clear WB
  have WB := Q9
  clear Q9
  clear LY
  have CH := N0
  have C_0 := CH.out.cells 0 _ rfl
  have C_1 := CH.out.cells 1 _ rfl
  have DH := N1
  have D_0 := DH.out.cells 0 _ rfl
  have D_1 := DH.out.cells 1 _ rfl
  clear N0 N1
  have AB := Lib.hid (implVerLess a b)
  have BC := Lib.hid (implVerLess b c)
  have AC := Lib.hid (implVerLess a c)
  have BA := Lib.hid (implVerLess b a)
  have TR := verL_trans a b c
  have IR := verL_same a b
  have TO := verL_total a b
  clear D1 D2 BL
  generalize verL a b = ab at *
  generalize verL b c = bc at *
  generalize verL a c = ac at *
  generalize verL b a = ba at *
  generalize a.epoch = ae at *
  generalize a.seq = va at *
  generalize b.epoch = be at *
  generalize b.seq = vb at *
  cases ab
  · skip
    by_cases e1 : ae = be
    · by_cases e2 : va = vb
      · have z := IR e1 e2
        clear z
        clear TR IR TO
        subst e1 e2
        go_wp2_with fail
        refine (AB.out _).mono ?_
        rintro e w9 ⟨rfl, b2⟩
        have Q9 := Lib.hid (AH.out.later b2)
        clear AH
        have AH := Q9
        clear Q9
        have A_0 := AH.out.cells 0 _ rfl
        have A_1 := AH.out.cells 1 _ rfl
        have Q9 := Lib.hid (BH.out.later b2)
        clear BH
        have BH := Q9
        clear Q9
        have B_0 := BH.out.cells 0 _ rfl
        have B_1 := BH.out.cells 1 _ rfl
        have Q9 := Lib.hid (CH.out.later b2)
        clear CH
        have CH := Q9
        clear Q9
        have C_0 := CH.out.cells 0 _ rfl
        have C_1 := CH.out.cells 1 _ rfl
        have Q9 := Lib.hid (DH.out.later b2)
        clear DH
        have DH := Q9
        clear Q9
        have D_0 := DH.out.cells 0 _ rfl
        have D_1 := DH.out.cells 1 _ rfl
        have Q9 := Lib.hid (chainX w WB.out b2)
        clear WB
        have WB := Q9
        clear Q9
        clear b2
        go_wp2_with fail
        refine (AB.out _).mono ?_
        rintro e w9 ⟨rfl, b2⟩
        have Q9 := Lib.hid (AH.out.later b2)
        clear AH
        have AH := Q9
        clear Q9
        have A_0 := AH.out.cells 0 _ rfl
        have A_1 := AH.out.cells 1 _ rfl
        have Q9 := Lib.hid (BH.out.later b2)
        clear BH
        have BH := Q9
        clear Q9
        have B_0 := BH.out.cells 0 _ rfl
        have B_1 := BH.out.cells 1 _ rfl
        have Q9 := Lib.hid (CH.out.later b2)
        clear CH
        have CH := Q9
        clear Q9
        have C_0 := CH.out.cells 0 _ rfl
        have C_1 := CH.out.cells 1 _ rfl
        have Q9 := Lib.hid (DH.out.later b2)
        clear DH
        have DH := Q9
        clear Q9
        have D_0 := DH.out.cells 0 _ rfl
        have D_1 := DH.out.cells 1 _ rfl
        have Q9 := Lib.hid (chainX w WB.out b2)
        clear WB
        have WB := Q9
        clear Q9
        clear b2
        go_wp2
        go_ret
        exact ⟨rfl, WB.out⟩
      · have z : ba = true := by have z := TO (fun h => e2 h.2); revert z; cases ba <;> simp
        subst z
        clear TR IR TO
        subst e1
        go_wp2_with fail
        refine (AB.out _).mono ?_
        rintro e w9 ⟨rfl, b2⟩
        have Q9 := Lib.hid (AH.out.later b2)
        clear AH
        have AH := Q9
        clear Q9
        have A_0 := AH.out.cells 0 _ rfl
        have A_1 := AH.out.cells 1 _ rfl
        have Q9 := Lib.hid (BH.out.later b2)
        clear BH
        have BH := Q9
        clear Q9
        have B_0 := BH.out.cells 0 _ rfl
        have B_1 := BH.out.cells 1 _ rfl
        have Q9 := Lib.hid (CH.out.later b2)
        clear CH
        have CH := Q9
        clear Q9
        have C_0 := CH.out.cells 0 _ rfl
        have C_1 := CH.out.cells 1 _ rfl
        have Q9 := Lib.hid (DH.out.later b2)
        clear DH
        have DH := Q9
        clear Q9
        have D_0 := DH.out.cells 0 _ rfl
        have D_1 := DH.out.cells 1 _ rfl
        have Q9 := Lib.hid (chainX w WB.out b2)
        clear WB
        have WB := Q9
        clear Q9
        clear b2
        go_wp2_with fail
        have tok := True.intro
        go_region_held3 (fun w' => w'.cell? ⟨w2.heap.size, 0, none⟩ = some (.int .i64 ae) ∧ w'.cell? ⟨w2.heap.size, 1, none⟩ = some (.int .i64 va) ∧ w'.cell? ⟨w2.heap.size + 1, 0, none⟩ = some (.int .i64 ae) ∧ w'.cell? ⟨w2.heap.size + 1, 1, none⟩ = some (.int .i64 vb)) (go_keep)
          ((first
            | (go_at_call 12; clear tok; refine (AB.out _).mono ?_; rintro e w9 ⟨rfl, b2⟩; have b9 := b2; (try replace b9 := undrewX b9); clear b2; have Q9 := Lib.hid (AH.out.later b9); clear AH; have AH := Q9; clear Q9; have A_0 := AH.out.cells 0 _ rfl; have A_1 := AH.out.cells 1 _ rfl; have Q9 := Lib.hid (BH.out.later b9); clear BH; have BH := Q9; clear Q9; have B_0 := BH.out.cells 0 _ rfl; have B_1 := BH.out.cells 1 _ rfl; have Q9 := Lib.hid (CH.out.later b9); clear CH; have CH := Q9; clear Q9; have C_0 := CH.out.cells 0 _ rfl; have C_1 := CH.out.cells 1 _ rfl; have Q9 := Lib.hid (DH.out.later b9); clear DH; have DH := Q9; clear Q9; have D_0 := DH.out.cells 0 _ rfl; have D_1 := DH.out.cells 1 _ rfl; have Q9 := Lib.hid (chainX w WB.out b9); clear WB; have WB := Q9; clear Q9; clear b9)
            | (go_at_call 12; refine (BA.out _).mono ?_; rintro e w9 ⟨rfl, b2⟩; have b9 := b2; (try replace b9 := undrewX b9); clear b2; have Q9 := Lib.hid (AH.out.later b9); clear AH; have AH := Q9; clear Q9; have A_0 := AH.out.cells 0 _ rfl; have A_1 := AH.out.cells 1 _ rfl; have Q9 := Lib.hid (BH.out.later b9); clear BH; have BH := Q9; clear Q9; have B_0 := BH.out.cells 0 _ rfl; have B_1 := BH.out.cells 1 _ rfl; have Q9 := Lib.hid (CH.out.later b9); clear CH; have CH := Q9; clear Q9; have C_0 := CH.out.cells 0 _ rfl; have C_1 := CH.out.cells 1 _ rfl; have Q9 := Lib.hid (DH.out.later b9); clear DH; have DH := Q9; clear Q9; have D_0 := DH.out.cells 0 _ rfl; have D_1 := DH.out.cells 1 _ rfl; have Q9 := Lib.hid (chainX w WB.out b9); clear WB; have WB := Q9; clear Q9; clear b9)))
        all_goals
          go_wp2
          go_ret
          exact ⟨rfl, WB.out⟩
    · have z : ba = true := by have z := TO (fun h => e1 h.1); revert z; cases ba <;> simp
      subst z
      clear TR IR TO
      skip
      go_wp2_with fail
      refine (AB.out _).mono ?_
      rintro e w9 ⟨rfl, b2⟩
      have Q9 := Lib.hid (AH.out.later b2)
      clear AH
      have AH := Q9
      clear Q9
      have A_0 := AH.out.cells 0 _ rfl
      have A_1 := AH.out.cells 1 _ rfl
      have Q9 := Lib.hid (BH.out.later b2)
      clear BH
      have BH := Q9
      clear Q9
      have B_0 := BH.out.cells 0 _ rfl
      have B_1 := BH.out.cells 1 _ rfl
      have Q9 := Lib.hid (CH.out.later b2)
      clear CH
      have CH := Q9
      clear Q9
      have C_0 := CH.out.cells 0 _ rfl
      have C_1 := CH.out.cells 1 _ rfl
      have Q9 := Lib.hid (DH.out.later b2)
      clear DH
      have DH := Q9
      clear Q9
      have D_0 := DH.out.cells 0 _ rfl
      have D_1 := DH.out.cells 1 _ rfl
      have Q9 := Lib.hid (chainX w WB.out b2)
      clear WB
      have WB := Q9
      clear Q9
      clear b2
      go_wp2_with fail
      have tok := True.intro
      go_region_held3 (fun w' => w'.cell? ⟨w2.heap.size, 0, none⟩ = some (.int .i64 ae) ∧ w'.cell? ⟨w2.heap.size, 1, none⟩ = some (.int .i64 va) ∧ w'.cell? ⟨w2.heap.size + 1, 0, none⟩ = some (.int .i64 be) ∧ w'.cell? ⟨w2.heap.size + 1, 1, none⟩ = some (.int .i64 vb)) (go_keep)
        ((first
          | (go_at_call 12; clear tok; refine (AB.out _).mono ?_; rintro e w9 ⟨rfl, b2⟩; have b9 := b2; (try replace b9 := undrewX b9); clear b2; have Q9 := Lib.hid (AH.out.later b9); clear AH; have AH := Q9; clear Q9; have A_0 := AH.out.cells 0 _ rfl; have A_1 := AH.out.cells 1 _ rfl; have Q9 := Lib.hid (BH.out.later b9); clear BH; have BH := Q9; clear Q9; have B_0 := BH.out.cells 0 _ rfl; have B_1 := BH.out.cells 1 _ rfl; have Q9 := Lib.hid (CH.out.later b9); clear CH; have CH := Q9; clear Q9; have C_0 := CH.out.cells 0 _ rfl; have C_1 := CH.out.cells 1 _ rfl; have Q9 := Lib.hid (DH.out.later b9); clear DH; have DH := Q9; clear Q9; have D_0 := DH.out.cells 0 _ rfl; have D_1 := DH.out.cells 1 _ rfl; have Q9 := Lib.hid (chainX w WB.out b9); clear WB; have WB := Q9; clear Q9; clear b9)
          | (go_at_call 12; refine (BA.out _).mono ?_; rintro e w9 ⟨rfl, b2⟩; have b9 := b2; (try replace b9 := undrewX b9); clear b2; have Q9 := Lib.hid (AH.out.later b9); clear AH; have AH := Q9; clear Q9; have A_0 := AH.out.cells 0 _ rfl; have A_1 := AH.out.cells 1 _ rfl; have Q9 := Lib.hid (BH.out.later b9); clear BH; have BH := Q9; clear Q9; have B_0 := BH.out.cells 0 _ rfl; have B_1 := BH.out.cells 1 _ rfl; have Q9 := Lib.hid (CH.out.later b9); clear CH; have CH := Q9; clear Q9; have C_0 := CH.out.cells 0 _ rfl; have C_1 := CH.out.cells 1 _ rfl; have Q9 := Lib.hid (DH.out.later b9); clear DH; have DH := Q9; clear Q9; have D_0 := DH.out.cells 0 _ rfl; have D_1 := DH.out.cells 1 _ rfl; have Q9 := Lib.hid (chainX w WB.out b9); clear WB; have WB := Q9; clear Q9; clear b9)))
      all_goals
        go_wp2
        go_ret
        exact ⟨rfl, WB.out⟩
  · cases bc
    · skip
      by_cases e1 : ae = be
      · by_cases e2 : va = vb
        · have z := IR e1 e2
          exact absurd z (by decide)
        · have z : ba = false := by have z := TO (fun h => e2 h.2); revert z; cases ba <;> simp
          subst z
          clear TR IR TO
          subst e1
          go_wp2_with fail
          refine (AB.out _).mono ?_
          rintro e w9 ⟨rfl, b2⟩
          have Q9 := Lib.hid (AH.out.later b2)
          clear AH
          have AH := Q9
          clear Q9
          have A_0 := AH.out.cells 0 _ rfl
          have A_1 := AH.out.cells 1 _ rfl
          have Q9 := Lib.hid (BH.out.later b2)
          clear BH
          have BH := Q9
          clear Q9
          have B_0 := BH.out.cells 0 _ rfl
          have B_1 := BH.out.cells 1 _ rfl
          have Q9 := Lib.hid (CH.out.later b2)
          clear CH
          have CH := Q9
          clear Q9
          have C_0 := CH.out.cells 0 _ rfl
          have C_1 := CH.out.cells 1 _ rfl
          have Q9 := Lib.hid (DH.out.later b2)
          clear DH
          have DH := Q9
          clear Q9
          have D_0 := DH.out.cells 0 _ rfl
          have D_1 := DH.out.cells 1 _ rfl
          have Q9 := Lib.hid (chainX w WB.out b2)
          clear WB
          have WB := Q9
          clear Q9
          clear b2
          go_wp2_with fail
          refine (BC.out _).mono ?_
          rintro e w9 ⟨rfl, b2⟩
          have Q9 := Lib.hid (AH.out.later b2)
          clear AH
          have AH := Q9
          clear Q9
          have A_0 := AH.out.cells 0 _ rfl
          have A_1 := AH.out.cells 1 _ rfl
          have Q9 := Lib.hid (BH.out.later b2)
          clear BH
          have BH := Q9
          clear Q9
          have B_0 := BH.out.cells 0 _ rfl
          have B_1 := BH.out.cells 1 _ rfl
          have Q9 := Lib.hid (CH.out.later b2)
          clear CH
          have CH := Q9
          clear Q9
          have C_0 := CH.out.cells 0 _ rfl
          have C_1 := CH.out.cells 1 _ rfl
          have Q9 := Lib.hid (DH.out.later b2)
          clear DH
          have DH := Q9
          clear Q9
          have D_0 := DH.out.cells 0 _ rfl
          have D_1 := DH.out.cells 1 _ rfl
          have Q9 := Lib.hid (chainX w WB.out b2)
          clear WB
          have WB := Q9
          clear Q9
          clear b2
          go_wp2_with fail
          have tok := True.intro
          go_region_held3 (fun w' => w'.cell? ⟨w2.heap.size, 0, none⟩ = some (.int .i64 ae) ∧ w'.cell? ⟨w2.heap.size, 1, none⟩ = some (.int .i64 va) ∧ w'.cell? ⟨w2.heap.size + 1, 0, none⟩ = some (.int .i64 ae) ∧ w'.cell? ⟨w2.heap.size + 1, 1, none⟩ = some (.int .i64 vb)) (go_keep)
            ((first
              | (go_at_call 12; clear tok; refine (AB.out _).mono ?_; rintro e w9 ⟨rfl, b2⟩; have b9 := b2; (try replace b9 := undrewX b9); clear b2; have Q9 := Lib.hid (AH.out.later b9); clear AH; have AH := Q9; clear Q9; have A_0 := AH.out.cells 0 _ rfl; have A_1 := AH.out.cells 1 _ rfl; have Q9 := Lib.hid (BH.out.later b9); clear BH; have BH := Q9; clear Q9; have B_0 := BH.out.cells 0 _ rfl; have B_1 := BH.out.cells 1 _ rfl; have Q9 := Lib.hid (CH.out.later b9); clear CH; have CH := Q9; clear Q9; have C_0 := CH.out.cells 0 _ rfl; have C_1 := CH.out.cells 1 _ rfl; have Q9 := Lib.hid (DH.out.later b9); clear DH; have DH := Q9; clear Q9; have D_0 := DH.out.cells 0 _ rfl; have D_1 := DH.out.cells 1 _ rfl; have Q9 := Lib.hid (chainX w WB.out b9); clear WB; have WB := Q9; clear Q9; clear b9)
              | (go_at_call 12; refine (BA.out _).mono ?_; rintro e w9 ⟨rfl, b2⟩; have b9 := b2; (try replace b9 := undrewX b9); clear b2; have Q9 := Lib.hid (AH.out.later b9); clear AH; have AH := Q9; clear Q9; have A_0 := AH.out.cells 0 _ rfl; have A_1 := AH.out.cells 1 _ rfl; have Q9 := Lib.hid (BH.out.later b9); clear BH; have BH := Q9; clear Q9; have B_0 := BH.out.cells 0 _ rfl; have B_1 := BH.out.cells 1 _ rfl; have Q9 := Lib.hid (CH.out.later b9); clear CH; have CH := Q9; clear Q9; have C_0 := CH.out.cells 0 _ rfl; have C_1 := CH.out.cells 1 _ rfl; have Q9 := Lib.hid (DH.out.later b9); clear DH; have DH := Q9; clear Q9; have D_0 := DH.out.cells 0 _ rfl; have D_1 := DH.out.cells 1 _ rfl; have Q9 := Lib.hid (chainX w WB.out b9); clear WB; have WB := Q9; clear Q9; clear b9)))
          all_goals
            go_wp2
            go_ret
            exact ⟨rfl, WB.out⟩
      · have z : ba = false := by have z := TO (fun h => e1 h.1); revert z; cases ba <;> simp
        subst z
        clear TR IR TO
        skip
        go_wp2_with fail
        refine (AB.out _).mono ?_
        rintro e w9 ⟨rfl, b2⟩
        have Q9 := Lib.hid (AH.out.later b2)
        clear AH
        have AH := Q9
        clear Q9
        have A_0 := AH.out.cells 0 _ rfl
        have A_1 := AH.out.cells 1 _ rfl
        have Q9 := Lib.hid (BH.out.later b2)
        clear BH
        have BH := Q9
        clear Q9
        have B_0 := BH.out.cells 0 _ rfl
        have B_1 := BH.out.cells 1 _ rfl
        have Q9 := Lib.hid (CH.out.later b2)
        clear CH
        have CH := Q9
        clear Q9
        have C_0 := CH.out.cells 0 _ rfl
        have C_1 := CH.out.cells 1 _ rfl
        have Q9 := Lib.hid (DH.out.later b2)
        clear DH
        have DH := Q9
        clear Q9
        have D_0 := DH.out.cells 0 _ rfl
        have D_1 := DH.out.cells 1 _ rfl
        have Q9 := Lib.hid (chainX w WB.out b2)
        clear WB
        have WB := Q9
        clear Q9
        clear b2
        go_wp2_with fail
        refine (BC.out _).mono ?_
        rintro e w9 ⟨rfl, b2⟩
        have Q9 := Lib.hid (AH.out.later b2)
        clear AH
        have AH := Q9
        clear Q9
        have A_0 := AH.out.cells 0 _ rfl
        have A_1 := AH.out.cells 1 _ rfl
        have Q9 := Lib.hid (BH.out.later b2)
        clear BH
        have BH := Q9
        clear Q9
        have B_0 := BH.out.cells 0 _ rfl
        have B_1 := BH.out.cells 1 _ rfl
        have Q9 := Lib.hid (CH.out.later b2)
        clear CH
        have CH := Q9
        clear Q9
        have C_0 := CH.out.cells 0 _ rfl
        have C_1 := CH.out.cells 1 _ rfl
        have Q9 := Lib.hid (DH.out.later b2)
        clear DH
        have DH := Q9
        clear Q9
        have D_0 := DH.out.cells 0 _ rfl
        have D_1 := DH.out.cells 1 _ rfl
        have Q9 := Lib.hid (chainX w WB.out b2)
        clear WB
        have WB := Q9
        clear Q9
        clear b2
        go_wp2_with fail
        have tok := True.intro
        go_region_held3 (fun w' => w'.cell? ⟨w2.heap.size, 0, none⟩ = some (.int .i64 ae) ∧ w'.cell? ⟨w2.heap.size, 1, none⟩ = some (.int .i64 va) ∧ w'.cell? ⟨w2.heap.size + 1, 0, none⟩ = some (.int .i64 be) ∧ w'.cell? ⟨w2.heap.size + 1, 1, none⟩ = some (.int .i64 vb)) (go_keep)
          ((first
            | (go_at_call 12; clear tok; refine (AB.out _).mono ?_; rintro e w9 ⟨rfl, b2⟩; have b9 := b2; (try replace b9 := undrewX b9); clear b2; have Q9 := Lib.hid (AH.out.later b9); clear AH; have AH := Q9; clear Q9; have A_0 := AH.out.cells 0 _ rfl; have A_1 := AH.out.cells 1 _ rfl; have Q9 := Lib.hid (BH.out.later b9); clear BH; have BH := Q9; clear Q9; have B_0 := BH.out.cells 0 _ rfl; have B_1 := BH.out.cells 1 _ rfl; have Q9 := Lib.hid (CH.out.later b9); clear CH; have CH := Q9; clear Q9; have C_0 := CH.out.cells 0 _ rfl; have C_1 := CH.out.cells 1 _ rfl; have Q9 := Lib.hid (DH.out.later b9); clear DH; have DH := Q9; clear Q9; have D_0 := DH.out.cells 0 _ rfl; have D_1 := DH.out.cells 1 _ rfl; have Q9 := Lib.hid (chainX w WB.out b9); clear WB; have WB := Q9; clear Q9; clear b9)
            | (go_at_call 12; refine (BA.out _).mono ?_; rintro e w9 ⟨rfl, b2⟩; have b9 := b2; (try replace b9 := undrewX b9); clear b2; have Q9 := Lib.hid (AH.out.later b9); clear AH; have AH := Q9; clear Q9; have A_0 := AH.out.cells 0 _ rfl; have A_1 := AH.out.cells 1 _ rfl; have Q9 := Lib.hid (BH.out.later b9); clear BH; have BH := Q9; clear Q9; have B_0 := BH.out.cells 0 _ rfl; have B_1 := BH.out.cells 1 _ rfl; have Q9 := Lib.hid (CH.out.later b9); clear CH; have CH := Q9; clear Q9; have C_0 := CH.out.cells 0 _ rfl; have C_1 := CH.out.cells 1 _ rfl; have Q9 := Lib.hid (DH.out.later b9); clear DH; have DH := Q9; clear Q9; have D_0 := DH.out.cells 0 _ rfl; have D_1 := DH.out.cells 1 _ rfl; have Q9 := Lib.hid (chainX w WB.out b9); clear WB; have WB := Q9; clear Q9; clear b9)))
        all_goals
          go_wp2
          go_ret
          exact ⟨rfl, WB.out⟩
    · have t := TR rfl rfl
      subst t
      by_cases e1 : ae = be
      · by_cases e2 : va = vb
        · have z := IR e1 e2
          exact absurd z (by decide)
        · have z : ba = false := by have z := TO (fun h => e2 h.2); revert z; cases ba <;> simp
          subst z
          clear TR IR TO
          subst e1
          go_wp2_with fail
          refine (AB.out _).mono ?_
          rintro e w9 ⟨rfl, b2⟩
          have Q9 := Lib.hid (AH.out.later b2)
          clear AH
          have AH := Q9
          clear Q9
          have A_0 := AH.out.cells 0 _ rfl
          have A_1 := AH.out.cells 1 _ rfl
          have Q9 := Lib.hid (BH.out.later b2)
          clear BH
          have BH := Q9
          clear Q9
          have B_0 := BH.out.cells 0 _ rfl
          have B_1 := BH.out.cells 1 _ rfl
          have Q9 := Lib.hid (CH.out.later b2)
          clear CH
          have CH := Q9
          clear Q9
          have C_0 := CH.out.cells 0 _ rfl
          have C_1 := CH.out.cells 1 _ rfl
          have Q9 := Lib.hid (DH.out.later b2)
          clear DH
          have DH := Q9
          clear Q9
          have D_0 := DH.out.cells 0 _ rfl
          have D_1 := DH.out.cells 1 _ rfl
          have Q9 := Lib.hid (chainX w WB.out b2)
          clear WB
          have WB := Q9
          clear Q9
          clear b2
          go_wp2_with fail
          refine (BC.out _).mono ?_
          rintro e w9 ⟨rfl, b2⟩
          have Q9 := Lib.hid (AH.out.later b2)
          clear AH
          have AH := Q9
          clear Q9
          have A_0 := AH.out.cells 0 _ rfl
          have A_1 := AH.out.cells 1 _ rfl
          have Q9 := Lib.hid (BH.out.later b2)
          clear BH
          have BH := Q9
          clear Q9
          have B_0 := BH.out.cells 0 _ rfl
          have B_1 := BH.out.cells 1 _ rfl
          have Q9 := Lib.hid (CH.out.later b2)
          clear CH
          have CH := Q9
          clear Q9
          have C_0 := CH.out.cells 0 _ rfl
          have C_1 := CH.out.cells 1 _ rfl
          have Q9 := Lib.hid (DH.out.later b2)
          clear DH
          have DH := Q9
          clear Q9
          have D_0 := DH.out.cells 0 _ rfl
          have D_1 := DH.out.cells 1 _ rfl
          have Q9 := Lib.hid (chainX w WB.out b2)
          clear WB
          have WB := Q9
          clear Q9
          clear b2
          go_wp2_with fail
          refine (AC.out _).mono ?_
          rintro e w9 ⟨rfl, b2⟩
          have Q9 := Lib.hid (AH.out.later b2)
          clear AH
          have AH := Q9
          clear Q9
          have A_0 := AH.out.cells 0 _ rfl
          have A_1 := AH.out.cells 1 _ rfl
          have Q9 := Lib.hid (BH.out.later b2)
          clear BH
          have BH := Q9
          clear Q9
          have B_0 := BH.out.cells 0 _ rfl
          have B_1 := BH.out.cells 1 _ rfl
          have Q9 := Lib.hid (CH.out.later b2)
          clear CH
          have CH := Q9
          clear Q9
          have C_0 := CH.out.cells 0 _ rfl
          have C_1 := CH.out.cells 1 _ rfl
          have Q9 := Lib.hid (DH.out.later b2)
          clear DH
          have DH := Q9
          clear Q9
          have D_0 := DH.out.cells 0 _ rfl
          have D_1 := DH.out.cells 1 _ rfl
          have Q9 := Lib.hid (chainX w WB.out b2)
          clear WB
          have WB := Q9
          clear Q9
          clear b2
          go_wp2_with fail
          have tok := True.intro
          go_region_held3 (fun w' => w'.cell? ⟨w2.heap.size, 0, none⟩ = some (.int .i64 ae) ∧ w'.cell? ⟨w2.heap.size, 1, none⟩ = some (.int .i64 va) ∧ w'.cell? ⟨w2.heap.size + 1, 0, none⟩ = some (.int .i64 ae) ∧ w'.cell? ⟨w2.heap.size + 1, 1, none⟩ = some (.int .i64 vb)) (go_keep)
            ((first
              | (go_at_call 12; clear tok; refine (AB.out _).mono ?_; rintro e w9 ⟨rfl, b2⟩; have b9 := b2; (try replace b9 := undrewX b9); clear b2; have Q9 := Lib.hid (AH.out.later b9); clear AH; have AH := Q9; clear Q9; have A_0 := AH.out.cells 0 _ rfl; have A_1 := AH.out.cells 1 _ rfl; have Q9 := Lib.hid (BH.out.later b9); clear BH; have BH := Q9; clear Q9; have B_0 := BH.out.cells 0 _ rfl; have B_1 := BH.out.cells 1 _ rfl; have Q9 := Lib.hid (CH.out.later b9); clear CH; have CH := Q9; clear Q9; have C_0 := CH.out.cells 0 _ rfl; have C_1 := CH.out.cells 1 _ rfl; have Q9 := Lib.hid (DH.out.later b9); clear DH; have DH := Q9; clear Q9; have D_0 := DH.out.cells 0 _ rfl; have D_1 := DH.out.cells 1 _ rfl; have Q9 := Lib.hid (chainX w WB.out b9); clear WB; have WB := Q9; clear Q9; clear b9)
              | (go_at_call 12; refine (BA.out _).mono ?_; rintro e w9 ⟨rfl, b2⟩; have b9 := b2; (try replace b9 := undrewX b9); clear b2; have Q9 := Lib.hid (AH.out.later b9); clear AH; have AH := Q9; clear Q9; have A_0 := AH.out.cells 0 _ rfl; have A_1 := AH.out.cells 1 _ rfl; have Q9 := Lib.hid (BH.out.later b9); clear BH; have BH := Q9; clear Q9; have B_0 := BH.out.cells 0 _ rfl; have B_1 := BH.out.cells 1 _ rfl; have Q9 := Lib.hid (CH.out.later b9); clear CH; have CH := Q9; clear Q9; have C_0 := CH.out.cells 0 _ rfl; have C_1 := CH.out.cells 1 _ rfl; have Q9 := Lib.hid (DH.out.later b9); clear DH; have DH := Q9; clear Q9; have D_0 := DH.out.cells 0 _ rfl; have D_1 := DH.out.cells 1 _ rfl; have Q9 := Lib.hid (chainX w WB.out b9); clear WB; have WB := Q9; clear Q9; clear b9)))
          all_goals
            go_wp2
            go_ret
            exact ⟨rfl, WB.out⟩
      · have z : ba = false := by have z := TO (fun h => e1 h.1); revert z; cases ba <;> simp
        subst z
        clear TR IR TO
        skip
        go_wp2_with fail
        refine (AB.out _).mono ?_
        rintro e w9 ⟨rfl, b2⟩
        have Q9 := Lib.hid (AH.out.later b2)
        clear AH
        have AH := Q9
        clear Q9
        have A_0 := AH.out.cells 0 _ rfl
        have A_1 := AH.out.cells 1 _ rfl
        have Q9 := Lib.hid (BH.out.later b2)
        clear BH
        have BH := Q9
        clear Q9
        have B_0 := BH.out.cells 0 _ rfl
        have B_1 := BH.out.cells 1 _ rfl
        have Q9 := Lib.hid (CH.out.later b2)
        clear CH
        have CH := Q9
        clear Q9
        have C_0 := CH.out.cells 0 _ rfl
        have C_1 := CH.out.cells 1 _ rfl
        have Q9 := Lib.hid (DH.out.later b2)
        clear DH
        have DH := Q9
        clear Q9
        have D_0 := DH.out.cells 0 _ rfl
        have D_1 := DH.out.cells 1 _ rfl
        have Q9 := Lib.hid (chainX w WB.out b2)
        clear WB
        have WB := Q9
        clear Q9
        clear b2
        go_wp2_with fail
        refine (BC.out _).mono ?_
        rintro e w9 ⟨rfl, b2⟩
        have Q9 := Lib.hid (AH.out.later b2)
        clear AH
        have AH := Q9
        clear Q9
        have A_0 := AH.out.cells 0 _ rfl
        have A_1 := AH.out.cells 1 _ rfl
        have Q9 := Lib.hid (BH.out.later b2)
        clear BH
        have BH := Q9
        clear Q9
        have B_0 := BH.out.cells 0 _ rfl
        have B_1 := BH.out.cells 1 _ rfl
        have Q9 := Lib.hid (CH.out.later b2)
        clear CH
        have CH := Q9
        clear Q9
        have C_0 := CH.out.cells 0 _ rfl
        have C_1 := CH.out.cells 1 _ rfl
        have Q9 := Lib.hid (DH.out.later b2)
        clear DH
        have DH := Q9
        clear Q9
        have D_0 := DH.out.cells 0 _ rfl
        have D_1 := DH.out.cells 1 _ rfl
        have Q9 := Lib.hid (chainX w WB.out b2)
        clear WB
        have WB := Q9
        clear Q9
        clear b2
        go_wp2_with fail
        refine (AC.out _).mono ?_
        rintro e w9 ⟨rfl, b2⟩
        have Q9 := Lib.hid (AH.out.later b2)
        clear AH
        have AH := Q9
        clear Q9
        have A_0 := AH.out.cells 0 _ rfl
        have A_1 := AH.out.cells 1 _ rfl
        have Q9 := Lib.hid (BH.out.later b2)
        clear BH
        have BH := Q9
        clear Q9
        have B_0 := BH.out.cells 0 _ rfl
        have B_1 := BH.out.cells 1 _ rfl
        have Q9 := Lib.hid (CH.out.later b2)
        clear CH
        have CH := Q9
        clear Q9
        have C_0 := CH.out.cells 0 _ rfl
        have C_1 := CH.out.cells 1 _ rfl
        have Q9 := Lib.hid (DH.out.later b2)
        clear DH
        have DH := Q9
        clear Q9
        have D_0 := DH.out.cells 0 _ rfl
        have D_1 := DH.out.cells 1 _ rfl
        have Q9 := Lib.hid (chainX w WB.out b2)
        clear WB
        have WB := Q9
        clear Q9
        clear b2
        go_wp2_with fail
        have tok := True.intro
        go_region_held3 (fun w' => w'.cell? ⟨w2.heap.size, 0, none⟩ = some (.int .i64 ae) ∧ w'.cell? ⟨w2.heap.size, 1, none⟩ = some (.int .i64 va) ∧ w'.cell? ⟨w2.heap.size + 1, 0, none⟩ = some (.int .i64 be) ∧ w'.cell? ⟨w2.heap.size + 1, 1, none⟩ = some (.int .i64 vb)) (go_keep)
          ((first
            | (go_at_call 12; clear tok; refine (AB.out _).mono ?_; rintro e w9 ⟨rfl, b2⟩; have b9 := b2; (try replace b9 := undrewX b9); clear b2; have Q9 := Lib.hid (AH.out.later b9); clear AH; have AH := Q9; clear Q9; have A_0 := AH.out.cells 0 _ rfl; have A_1 := AH.out.cells 1 _ rfl; have Q9 := Lib.hid (BH.out.later b9); clear BH; have BH := Q9; clear Q9; have B_0 := BH.out.cells 0 _ rfl; have B_1 := BH.out.cells 1 _ rfl; have Q9 := Lib.hid (CH.out.later b9); clear CH; have CH := Q9; clear Q9; have C_0 := CH.out.cells 0 _ rfl; have C_1 := CH.out.cells 1 _ rfl; have Q9 := Lib.hid (DH.out.later b9); clear DH; have DH := Q9; clear Q9; have D_0 := DH.out.cells 0 _ rfl; have D_1 := DH.out.cells 1 _ rfl; have Q9 := Lib.hid (chainX w WB.out b9); clear WB; have WB := Q9; clear Q9; clear b9)
            | (go_at_call 12; refine (BA.out _).mono ?_; rintro e w9 ⟨rfl, b2⟩; have b9 := b2; (try replace b9 := undrewX b9); clear b2; have Q9 := Lib.hid (AH.out.later b9); clear AH; have AH := Q9; clear Q9; have A_0 := AH.out.cells 0 _ rfl; have A_1 := AH.out.cells 1 _ rfl; have Q9 := Lib.hid (BH.out.later b9); clear BH; have BH := Q9; clear Q9; have B_0 := BH.out.cells 0 _ rfl; have B_1 := BH.out.cells 1 _ rfl; have Q9 := Lib.hid (CH.out.later b9); clear CH; have CH := Q9; clear Q9; have C_0 := CH.out.cells 0 _ rfl; have C_1 := CH.out.cells 1 _ rfl; have Q9 := Lib.hid (DH.out.later b9); clear DH; have DH := Q9; clear Q9; have D_0 := DH.out.cells 0 _ rfl; have D_1 := DH.out.cells 1 _ rfl; have Q9 := Lib.hid (chainX w WB.out b9); clear WB; have WB := Q9; clear Q9; clear b9)))
        all_goals
          go_wp2
          go_ret
          exact ⟨rfl, WB.out⟩
theorem lawVersR (a1 : Option Addr) (n1 c1 : Nat) (z1 : List Int) (a2 : Option Addr) (n2 c2 : Nat) (z2 : List Int) (w : World) (h1 : IsRow .u8 w a1 n1 c1 z1) (h2 : IsRow .u8 w a2 n2 c2 z2) :
    Calls Try.prog 3 #[.slice a1 n1 c1, .slice a2 n2 c2] w fun e w' => e = .returned (.bool true) ∧ Below w.heap.size w w' :=
  lawVers a1 n1 c1 _ a2 n2 c2 _ w h1.byts h2.byts
end Go.Proofs.Ythbhefgnbomboaa.Rd
