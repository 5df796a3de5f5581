/-
  The exact law of PgOf: the program answers as the model, whatever the pool and the name. No condition.
-/
import Derived.Test.YtpmmcoggpijgmaaDoorPgO
namespace Go.Proofs.YtpmmcoggpijgmaaDoor.Po
open Go.RowKit Go.Lib Go.Proofs.YtpmmcoggpijgmaaDoor.Nam Go.Proofs.YtpmmcoggpijgmaaDoor.GfI Go.Proofs.YtpmmcoggpijgmaaDoor.GfS
open Go.Proofs.YtpmmcoggpijgmaaDoor.Rd (RetW chainX undrewX DPg DPool Rdb mk_Pg shape_Pool)
open Go.Proofs.YtpmmcoggpijgmaaDoor.Sg (BxN)
set_option linter.unusedVariables false
set_option linter.unusedSimpArgs false

set_option maxRecDepth 100000 in
set_option maxHeartbeats 4000000 in
theorem fnPgOf (i k m n g r : Int) (s : ByteArray) (x y : Int) (b : Bool) (wx : (Lit.int .i64 x).wf = true) (wy : (Lit.int .i64 y).wf = true) (w : World)
    (hS : ∀ w', Calls Tryd.prog 4 #[pval i k m n g r, .string s] w' (RetW (.tuple #[.agg #[.int .i64 x, .int .i64 y], .bool b]) w'))
    (hI : ∀ w', Below w.heap.size w w' → Calls Tryd.prog 6 #[pval i k m n g r, .string s] w' (RetW (.tuple #[.agg #[.int .i64 x, .int .i64 y], .bool b]) w')) :
    Calls Tryd.prog 3 #[pval i k m n g r, .string s] w (RetW (.bool true) w) := by
  have BH := Lib.hid (lay1 w (.cells #[.int .i64 i, .int .i64 k, .int .i64 m, .int .i64 n, .int .i64 g, .int .i64 r] 25))
  have PH := Lib.hid (BxN.new w #[.int .i64 i, .int .i64 k, .int .i64 m, .int .i64 n, .int .i64 g, .int .i64 r] 25)
  by_cases q : 1048576 < s.size
  · go_enter Tryd.func3, Tryd.ntmps3
    go_wp2
    go_ret
    exact ⟨rfl, BH.out⟩
  · have q1 : ¬ (1048576 : Int) < (s.size : Int) := by omega
    have HS := Lib.hid hS; have HI := Lib.hid hI
    have T := Lib.hid (toPool i k m n g r)
    have EQ := Lib.hid (fun w' => Rd.eqPg (cs := [.int .i64 x, .int .i64 y]) (ds := [.int .i64 x, .int .i64 y]) ⟨x, y⟩ w' (by show (0 : Nat) ≤ _; omega) (mk_Pg (fr := true) (lo := 0) (w := w') (d := ⟨x, y⟩) wx wy) (mk_Pg (fr := true) (lo := 0) (w := w') (d := ⟨x, y⟩) wx wy))
    clear hS hI wx wy q
    have bb : (b != b) = false := by simp
    go_enter Tryd.func3, Tryd.ntmps3
    go_wp2_with fail
    refine (T.out _).mono ?_
    rintro e w2 ⟨rfl, b2⟩
    have PH := Lib.hid (PH.out.later b2)
    have P_0 := PH.out.cells 0 _ rfl
    have P_1 := PH.out.cells 1 _ rfl
    have P_2 := PH.out.cells 2 _ rfl
    have P_3 := PH.out.cells 3 _ rfl
    have P_4 := PH.out.cells 4 _ rfl
    have P_5 := PH.out.cells 5 _ rfl
    have BH := Lib.hid (chainX w BH.out b2)
    clear b2
    go_wp2_with fail
    refine (HS.out _).mono ?_
    rintro e w2 ⟨rfl, b2⟩
    have PH := Lib.hid (PH.out.later b2)
    have P_0 := PH.out.cells 0 _ rfl
    have P_1 := PH.out.cells 1 _ rfl
    have P_2 := PH.out.cells 2 _ rfl
    have P_3 := PH.out.cells 3 _ rfl
    have P_4 := PH.out.cells 4 _ rfl
    have P_5 := PH.out.cells 5 _ rfl
    have BH := Lib.hid (chainX w BH.out b2)
    clear b2
    have LY := lay1 w2 (.cells #[.int .i64 x, .int .i64 y] 27)
    have YN := BxN.new w2 #[.int .i64 x, .int .i64 y] 27
    have PH := Lib.hid (PH.out.later LY)
    have P_0 := PH.out.cells 0 _ rfl
    have P_1 := PH.out.cells 1 _ rfl
    have P_2 := PH.out.cells 2 _ rfl
    have P_3 := PH.out.cells 3 _ rfl
    have P_4 := PH.out.cells 4 _ rfl
    have P_5 := PH.out.cells 5 _ rfl
    have BH := Lib.hid (chainX w BH.out LY)
    clear LY
    have YH := Lib.hid YN
    clear YN
    have Y_0 := YH.out.cells 0 _ rfl
    have Y_1 := YH.out.cells 1 _ rfl
    go_wp2_with fail
    refine (T.out _).mono ?_
    rintro e w2 ⟨rfl, b2⟩
    have PH := Lib.hid (PH.out.later b2)
    have P_0 := PH.out.cells 0 _ rfl
    have P_1 := PH.out.cells 1 _ rfl
    have P_2 := PH.out.cells 2 _ rfl
    have P_3 := PH.out.cells 3 _ rfl
    have P_4 := PH.out.cells 4 _ rfl
    have P_5 := PH.out.cells 5 _ rfl
    have YH := Lib.hid (YH.out.later b2)
    have Y_0 := YH.out.cells 0 _ rfl
    have Y_1 := YH.out.cells 1 _ rfl
    have BH := Lib.hid (chainX w BH.out b2)
    clear b2
    go_wp2_with fail
    refine (HI.out _ BH.out).mono ?_
    rintro e w2 ⟨rfl, b2⟩
    have PH := Lib.hid (PH.out.later b2)
    have P_0 := PH.out.cells 0 _ rfl
    have P_1 := PH.out.cells 1 _ rfl
    have P_2 := PH.out.cells 2 _ rfl
    have P_3 := PH.out.cells 3 _ rfl
    have P_4 := PH.out.cells 4 _ rfl
    have P_5 := PH.out.cells 5 _ rfl
    have YH := Lib.hid (YH.out.later b2)
    have Y_0 := YH.out.cells 0 _ rfl
    have Y_1 := YH.out.cells 1 _ rfl
    have BH := Lib.hid (chainX w BH.out b2)
    clear b2
    have LY := lay1 w2 (.cells #[.int .i64 x, .int .i64 y] 27)
    have YN := BxN.new w2 #[.int .i64 x, .int .i64 y] 27
    have PH := Lib.hid (PH.out.later LY)
    have P_0 := PH.out.cells 0 _ rfl
    have P_1 := PH.out.cells 1 _ rfl
    have P_2 := PH.out.cells 2 _ rfl
    have P_3 := PH.out.cells 3 _ rfl
    have P_4 := PH.out.cells 4 _ rfl
    have P_5 := PH.out.cells 5 _ rfl
    have YH := Lib.hid (YH.out.later LY)
    have Y_0 := YH.out.cells 0 _ rfl
    have Y_1 := YH.out.cells 1 _ rfl
    have BH := Lib.hid (chainX w BH.out LY)
    clear LY
    have ZH := Lib.hid YN
    clear YN
    have Z_0 := ZH.out.cells 0 _ rfl
    have Z_1 := ZH.out.cells 1 _ rfl
    go_wp2_with fail
    refine (EQ.out _).mono ?_
    rintro e w2 ⟨rfl, b2⟩
    have PH := Lib.hid (PH.out.later b2)
    have P_0 := PH.out.cells 0 _ rfl
    have P_1 := PH.out.cells 1 _ rfl
    have P_2 := PH.out.cells 2 _ rfl
    have P_3 := PH.out.cells 3 _ rfl
    have P_4 := PH.out.cells 4 _ rfl
    have P_5 := PH.out.cells 5 _ rfl
    have YH := Lib.hid (YH.out.later b2)
    have Y_0 := YH.out.cells 0 _ rfl
    have Y_1 := YH.out.cells 1 _ rfl
    have ZH := Lib.hid (ZH.out.later b2)
    have Z_0 := ZH.out.cells 0 _ rfl
    have Z_1 := ZH.out.cells 1 _ rfl
    have BH := Lib.hid (chainX w BH.out b2)
    clear b2
    go_wp2
    go_ret
    exact ⟨rfl, BH.out⟩
theorem wf_small {v : Int} (h0 : 0 ≤ v) (h1 : v ≤ 1000) : (Lit.int .i64 v).wf = true := by
  simp only [Lit.wf, IntKind.min, IntKind.max, IntKind.signed, IntKind.bits, Bool.and_eq_true, decide_eq_true_eq, if_true]; omega
theorem lawPgOf (cs : List Value) (d : DPool) (s : ByteArray) (w : World) (h : Rdb.rd false 0 w cs d) (hs : s.size ≤ maxLen) (hT : Tabs w) :
    Calls Tryd.prog 3 #[.agg cs.toArray, .string s] w fun e w' => e = .returned (.bool true) ∧ Below w.heap.size w w' := by
  obtain ⟨rfl, -⟩ := shape_Pool h
  clear h
  have hz : s.size ≤ 9223372036854775807 := by unfold maxLen at hs; omega
  show Calls _ _ #[pval d.id d.code.k d.code.m d.min d.pgs d.rule, .string s] w _
  generalize d.id = i; generalize d.code.k = k; generalize d.code.m = m; generalize d.min = n; generalize d.pgs = g; generalize d.rule = r
  cases h1 : okP i k m n g r
  · exact fnPgOf i k m n g r s 0 0 false rfl rfl w (fun w' => specPgOf_pool i k m n g r s w' h1) (fun w' b => implPgOf_pool i k m n g r s w' hz (Utf8Tabs_below hT b) h1)
  · cases h2 : nameB s
    · exact fnPgOf i k m n g r s 0 0 false rfl rfl w (fun w' => specPgOf_name i k m n g r s w' h1 h2) (fun w' b => implPgOf_name i k m n g r s w' hz (Utf8Tabs_below hT b) h1 h2)
    · have O := okP_out h1
      have M0 := Int.emod_nonneg (hsh s) (show g ≠ 0 by omega)
      have M1 := Int.emod_lt_of_pos (hsh s) (show 0 < g by omega)
      exact fnPgOf i k m n g r s i (hsh s % g) true (wf_small (by omega) (by omega)) (wf_small M0 (by omega)) w (fun w' => specPgOf_ok i k m n g r s w' h1 h2) (fun w' b => implPgOf_ok i k m n g r s w' hz (Utf8Tabs_below hT b) h1 h2)
end Go.Proofs.YtpmmcoggpijgmaaDoor.Po
