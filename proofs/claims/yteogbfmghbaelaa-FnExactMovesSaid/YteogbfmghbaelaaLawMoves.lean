/-
  The exact law of Moves: the program answers as the model, and the tables are left as they were. No condition.
-/
import Derived.Test.YteogbfmghbaelaaMovT
import Derived.Deep.RegionHeld3
namespace Go.Proofs.Yteogbfmghbaelaa.Rd
open Go.RowKit Go.ChangeShapes Go.WideShapes Go.Proofs.Yteogbfmghbaelaa.GfI Go.Proofs.Yteogbfmghbaelaa.GfS
open Go.Proofs.Yteogbfmghbaelaa.Sg (BxN)
open Go.Proofs.Yteogbfmghbaelaa.Tm (IffB zF)
open Go.Proofs.Yteogbfmghbaelaa.MixC (Words)
set_option linter.unusedVariables false
set_option linter.unusedSimpArgs false

set_option maxRecDepth 100000 in
set_option maxHeartbeats 4000000 in
theorem fnFnExactMoves (a0 : Option Addr) (cap0 : Nat) (d0 : List (List Int)) (a1 : Option Addr) (cap1 : Nat) (d1 : List (List Int)) (r0 r1 : Int) (w : World) (h0 : d0.length ≤ 9223372036854775807 ∧ Rows false 0 w a0 d0) (h1 : d1.length ≤ 9223372036854775807 ∧ Rows false 0 w a1 d1) (hS : Rdb.sz d0 ≤ 1048576 → Rdb.sz d1 ≤ 1048576 → ∀ (e0 : Option Addr) (e1 : Option Addr) w' (k0 : Rows true 0 w' e0 d0) (k1 : Rows true 0 w' e1 d1), Calls Try.prog 30 #[.slice e0 d0.length d0.length, .slice e1 d1.length d1.length] w' (RetW (.tuple #[.int .i64 r0, .int .i64 r1]) w')) (hI : Rdb.sz d0 ≤ 1048576 → Rdb.sz d1 ≤ 1048576 → ∀ (e0 : Option Addr) (e1 : Option Addr) w' (k0 : Rows true 0 w' e0 d0) (k1 : Rows true 0 w' e1 d1), Calls Try.prog 32 #[.slice e0 d0.length d0.length, .slice e1 d1.length d1.length] w' (RetW (.tuple #[.int .i64 r0, .int .i64 r1]) w')) :
    Calls Try.prog 8 #[.slice a0 d0.length cap0, .slice a1 d1.length cap1] w (RetW (.bool true) w) := by
  obtain ⟨g0, h0⟩ := h0
  obtain ⟨g1, h1⟩ := h1
  have BH0 := Lib.hid (Below.refl w.heap.size w)
  have SZ0 := Lib.hid (fun (lf : Int) (p0 : 0 ≤ lf) (p1 : lf ≤ 2097152) w' (b : Below w.heap.size w w') => szInt64SS a0 cap0 d0 lf p0 p1 w' g0 (h0.below b))
  have CP0 := Lib.hid (fun (z : Rdb.sz d0 ≤ 2097152) w' (b : Below w.heap.size w w') => toInt64SS a0 cap0 d0 w' z (h0.below b))
  have EQ0 := Lib.hid (fun (z : Rdb.sz d0 ≤ 2097152) (p q : Option Addr) w' (k1 : Rows true 0 w' p d0) (k2 : Rows true 0 w' q d0) => eqInt64SS p q d0.length d0.length d0 w' z k1 k2)
  have SZ1 := Lib.hid (fun (lf : Int) (p0 : 0 ≤ lf) (p1 : lf ≤ 2097152) w' (b : Below w.heap.size w w') => szInt64SS a1 cap1 d1 lf p0 p1 w' g1 (h1.below b))
  have CP1 := Lib.hid (fun (z : Rdb.sz d1 ≤ 2097152) w' (b : Below w.heap.size w w') => toInt64SS a1 cap1 d1 w' z (h1.below b))
  have EQ1 := Lib.hid (fun (z : Rdb.sz d1 ≤ 2097152) (p q : Option Addr) w' (k1 : Rows true 0 w' p d1) (k2 : Rows true 0 w' q d1) => eqInt64SS p q d1.length d1.length d1 w' z k1 k2)
  have HS := Lib.hid hS
  have HI := Lib.hid hI
  clear hS hI
  clear  h0 h1
  generalize hs0 : Rdb.sz d0 = s0 at *
  clear hs0
  generalize hs1 : Rdb.sz d1 = s1 at *
  clear hs1
  by_cases q0 : (s0 : Int) ≤ 1048576
  · skip
    by_cases q1 : (s0 : Int) + (s1 : Int) ≤ 1048576
    · skip
      go_enter Try.func8, Try.ntmps8
      have V0 := SZ0.out (1048576) (by omega) (by omega) _ BH0.out
      unfold SzB at V0
      rw [show szI (1048576) s0 = 1048576 - (s0 : Int) from szI_yes (by omega)] at V0
      have VH0 := Lib.hid V0
      clear V0
      go_wp2_with fail
      refine (VH0.out).mono ?_
      rintro e w1 ⟨rfl, b1⟩
      have BH1 := Lib.hid (chainX w BH0.out b1)
      have V1 := SZ1.out (1048576 - (s0 : Int)) (by omega) (by omega) _ BH1.out
      unfold SzB at V1
      rw [show szI (1048576 - (s0 : Int)) s1 = 1048576 - (s0 : Int) - (s1 : Int) from szI_yes (by omega)] at V1
      have VH1 := Lib.hid V1
      clear V1
      go_wp2_with fail
      refine (VH1.out).mono ?_
      rintro e w2 ⟨rfl, b2⟩
      have BH2 := Lib.hid (chainX w BH1.out b2)
      have CPx := True.intro
      go_wp2_with fail
      refine (CP0.out (by omega) _ BH2.out).mono ?_
      rintro e w3 ⟨qs0, rfl, rs0, -, -, -, b3⟩
      have BH3 := Lib.hid (chainX w BH2.out b3)
      have RRs0_3 := Lib.hid (Rows.weak rs0 (Nat.zero_le _) id)
      clear rs0
      go_wp2_with fail
      refine (CP1.out (by omega) _ BH3.out).mono ?_
      rintro e w4 ⟨qs1, rfl, rs1, -, -, -, b4⟩
      have RRs0_4 := Lib.hid (Rows.below RRs0_3.out b4)
      have BH4 := Lib.hid (chainX w BH3.out b4)
      clear RRs0_3
      have RRs1_4 := Lib.hid (Rows.weak rs1 (Nat.zero_le _) id)
      clear rs1
      have ANS := Lib.hid (HS.out (by omega) (by omega) (some ⟨qs0, 0, none⟩) (some ⟨qs1, 0, none⟩) _ RRs0_4.out RRs1_4.out)
      go_wp2_with fail
      refine (ANS.out).mono ?_
      rintro e w5 ⟨rfl, b5⟩
      have RRs0_5 := Lib.hid (Rows.below RRs0_4.out b5)
      have RRs1_5 := Lib.hid (Rows.below RRs1_4.out b5)
      have BH5 := Lib.hid (chainX w BH4.out b5)
      clear RRs0_4 RRs1_4
      clear ANS
      go_wp2_with fail
      refine (CP0.out (by omega) _ BH5.out).mono ?_
      rintro e w6 ⟨qi0, rfl, ri0, -, -, -, b6⟩
      have BH6 := Lib.hid (chainX w BH5.out b6)
      have RRi0_6 := Lib.hid (Rows.weak ri0 (Nat.zero_le _) id)
      clear ri0
      go_wp2_with fail
      refine (CP1.out (by omega) _ BH6.out).mono ?_
      rintro e w7 ⟨qi1, rfl, ri1, -, -, -, b7⟩
      have RRi0_7 := Lib.hid (Rows.below RRi0_6.out b7)
      have BH7 := Lib.hid (chainX w BH6.out b7)
      clear RRi0_6
      have RRi1_7 := Lib.hid (Rows.weak ri1 (Nat.zero_le _) id)
      clear ri1
      have ANS := Lib.hid (HI.out (by omega) (by omega) (some ⟨qi0, 0, none⟩) (some ⟨qi1, 0, none⟩) _ RRi0_7.out RRi1_7.out)
      go_wp2_with fail
      refine (ANS.out).mono ?_
      rintro e w8 ⟨rfl, b8⟩
      have RRi0_8 := Lib.hid (Rows.below RRi0_7.out b8)
      have RRi1_8 := Lib.hid (Rows.below RRi1_7.out b8)
      have BH8 := Lib.hid (chainX w BH7.out b8)
      clear RRi0_7 RRi1_7
      clear ANS
      go_wp2_with fail
      refine (CP0.out (by omega) _ BH8.out).mono ?_
      rintro e w9 ⟨qe0, rfl, re0, -, -, -, b9⟩
      have RRi0_9 := Lib.hid (Rows.below RRi0_8.out b9)
      have RRi1_9 := Lib.hid (Rows.below RRi1_8.out b9)
      have BH9 := Lib.hid (chainX w BH8.out b9)
      clear RRi0_8 RRi1_8
      have RRe0_9 := Lib.hid (Rows.weak re0 (Nat.zero_le _) id)
      clear re0
      have ANS := Lib.hid (EQ0.out (by omega) (some ⟨qi0, 0, none⟩) (some ⟨qe0, 0, none⟩) _ RRi0_9.out RRe0_9.out)
      go_wp2_with fail
      refine (ANS.out).mono ?_
      rintro e w10 ⟨rfl, b10⟩
      have RRi0_10 := Lib.hid (Rows.below RRi0_9.out b10)
      have RRi1_10 := Lib.hid (Rows.below RRi1_9.out b10)
      have RRe0_10 := Lib.hid (Rows.below RRe0_9.out b10)
      have BH10 := Lib.hid (chainX w BH9.out b10)
      clear RRi0_9 RRi1_9 RRe0_9
      clear ANS
      go_wp2_with fail
      refine (CP1.out (by omega) _ BH10.out).mono ?_
      rintro e w11 ⟨qe1, rfl, re1, -, -, -, b11⟩
      have RRi0_11 := Lib.hid (Rows.below RRi0_10.out b11)
      have RRi1_11 := Lib.hid (Rows.below RRi1_10.out b11)
      have BH11 := Lib.hid (chainX w BH10.out b11)
      clear RRi0_10 RRi1_10
      have RRe1_11 := Lib.hid (Rows.weak re1 (Nat.zero_le _) id)
      clear re1
      have ANS := Lib.hid (EQ1.out (by omega) (some ⟨qi1, 0, none⟩) (some ⟨qe1, 0, none⟩) _ RRi1_11.out RRe1_11.out)
      go_wp2_with fail
      refine (ANS.out).mono ?_
      rintro e w12 ⟨rfl, b12⟩
      have RRi0_12 := Lib.hid (Rows.below RRi0_11.out b12)
      have RRi1_12 := Lib.hid (Rows.below RRi1_11.out b12)
      have RRe1_12 := Lib.hid (Rows.below RRe1_11.out b12)
      have BH12 := Lib.hid (chainX w BH11.out b12)
      clear RRi0_11 RRi1_11 RRe1_11
      clear ANS
      all_goals
        go_wp2
        go_ret
        exact ⟨rfl, BH12.out⟩
    · skip
      go_enter Try.func8, Try.ntmps8
      have V0 := SZ0.out (1048576) (by omega) (by omega) _ BH0.out
      unfold SzB at V0
      rw [show szI (1048576) s0 = 1048576 - (s0 : Int) from szI_yes (by omega)] at V0
      have VH0 := Lib.hid V0
      clear V0
      go_wp2_with fail
      refine (VH0.out).mono ?_
      rintro e w1 ⟨rfl, b1⟩
      have BH1 := Lib.hid (chainX w BH0.out b1)
      have V1 := SZ1.out (1048576 - (s0 : Int)) (by omega) (by omega) _ BH1.out
      unfold SzB at V1
      rw [show szI (1048576 - (s0 : Int)) s1 = -1 from szI_no (by omega)] at V1
      have VH1 := Lib.hid V1
      clear V1
      go_wp2_with fail
      refine (VH1.out).mono ?_
      rintro e w2 ⟨rfl, b2⟩
      have BH2 := Lib.hid (chainX w BH1.out b2)
      go_wp2
      go_ret
      exact ⟨rfl, BH2.out⟩
  · skip
    go_enter Try.func8, Try.ntmps8
    have V0 := SZ0.out (1048576) (by omega) (by omega) _ BH0.out
    unfold SzB at V0
    rw [show szI (1048576) s0 = -1 from szI_no (by omega)] at V0
    have VH0 := Lib.hid V0
    clear V0
    go_wp2_with fail
    refine (VH0.out).mono ?_
    rintro e w1 ⟨rfl, b1⟩
    have BH1 := Lib.hid (chainX w BH0.out b1)
    go_wp2
    go_ret
    exact ⟨rfl, BH1.out⟩
theorem lawMoves (a0 : Option Addr) (c0 : Nat) (d0 : List (List Int)) (a1 : Option Addr) (c1 : Nat) (d1 : List (List Int)) (w : World) (h0 : d0.length ≤ 9223372036854775807 ∧ Rows false 0 w a0 d0) (h1 : d1.length ≤ 9223372036854775807 ∧ Rows false 0 w a1 d1) :
    Calls Try.prog 8 #[.slice a0 d0.length c0, .slice a1 d1.length c1] w fun e w' => e = .returned (.bool true) ∧ Below w.heap.size w w' := by
  obtain ⟨r0, r1, hv⟩ := mov_ex d0 d1
  exact fnFnExactMoves a0 c0 d0 a1 c1 d1 r0 r1 w h0 h1 (fun z0 z1 e0 e1 w' k0 k1 => specMoves e0 e1 _ _ d0 d1 r0 r1 w' (by omega) (by omega) k0 k1 hv) (fun z0 z1 e0 e1 w' k0 k1 => implMoves e0 e1 _ _ d0 d1 r0 r1 w' (by omega) (by omega) k0 k1 hv)
end Go.Proofs.Yteogbfmghbaelaa.Rd
