/-
  Rules: RuleOk in the program and in the model.
-/
import Derived.Test.YtgfpngjfhmiphaaTrule
namespace Go.Proofs.Ytgfpngjfhmiphaa.Tm
open Go.RowKit Go.Proofs.Ytgfpngjfhmiphaa.GfI Go.Proofs.Ytgfpngjfhmiphaa.GfS Go.Proofs.Ytgfpngjfhmiphaa.MixC
open Go.Proofs.Ytgfpngjfhmiphaa.It (lay chain)
open Go.Proofs.Ytgfpngjfhmiphaa.Bk (Bks tval bval)
open Go.Proofs.Ytgfpngjfhmiphaa.Sg (BxN)
set_option linter.unusedVariables false
set_option linter.unusedSimpArgs false


theorem kd_root {T : TD} (O : T.Ok) {r : Int} (h : T.kd r = 3) : r < 0 := by
  rcases T.kd_cases r with ⟨_, _, _, e⟩ | ⟨_, j, hj, e1, e⟩ | ⟨_, _, e⟩
  · omega
  · have := (O.bkt.each j hj).2.1; omega
  · omega
/-- The rule fits a valid tree, as the model asks it. -/
def ruleB (T : TD) (i r k : Int) : Bool := inB i 1 4 && (decide (r < 0) && (decide (T.kd r = 3) && inB k 0 2))
theorem ruleB_iff {T : TD} (O : T.Ok) {i r k : Int} : ruleB T i r k = true ↔ RuleIn T i r k := by
  unfold ruleB
  simp only [Bool.and_eq_true, decide_eq_true_eq]
  constructor
  · rintro ⟨a, b, c, d⟩; exact ⟨O, of_decide_eq_true a, of_decide_eq_true d, c⟩
  · intro h; exact ⟨decide_eq_true h.id, kd_root O h.root, h.root, decide_eq_true h.kind⟩
set_option maxRecDepth 100000 in
theorem l08OK (T : TD) (A : TA) (i r k : Int) (d : Bool) (w : World) (Z : T.Sz) (h : TIn w T A) :
    Calls Try.prog 70 #[A.val T, rval i r k d] w (Ret (.bool (ruleB T i r k)) w) := by
  have LH := Lib.hid (chain (lay w (.cells #[.slice A.da T.dn A.dc, .slice A.ba T.bn A.bc] 33)) (lay _ (.cells #[.int .i64 i, .int .i64 r, .int .i64 k, .bool d] 52)))
  have X := (BxN.new (w.alloc (.cells #[.slice A.da T.dn A.dc, .slice A.ba T.bn A.bc] 33)) #[.int .i64 i, .int .i64 r, .int .i64 k, .bool d] 52)
  rw [World.size_alloc] at X
  have X := Lib.hid X
  have KD := Lib.hid (fun w' (b : Below w.heap.size w w') => l06Kind T A r w' Z (h.below b))
  have IA := fun w' => l00In i 1 4 w'
  have IB := fun w' => l00In k 0 2 w'
  clear h Z
  obtain ⟨da, dc, ba, bc, I, C⟩ := A
  dsimp only at KD LH X ⊢
  unfold ruleB
  generalize T.kd r = kr at *
  cases hi : inB i 1 4
  · rw [hi] at IA
    have IA := Lib.hid IA
    clear hi IB
    go_enter Try.func70, Try.ntmps70
    go_wp2_with fail
    refine (IA.out _).mono ?_
    rintro e w2 ⟨rfl, rfl⟩
    go_wp2
    go_ret
    exact ⟨rfl, LH.out⟩
  · rw [hi] at IA
    have IA := Lib.hid IA
    clear hi
    by_cases hr : r < 0
    · have e1 : decide (r < 0) = true := decide_eq_true hr
      rw [e1]
      by_cases h3 : kr = 3
      · subst h3
        have IB := Lib.hid IB
        generalize inB k 0 2 = kb at *
        go_enter Try.func70, Try.ntmps70
        go_wp2_with fail
        refine (IA.out _).mono ?_
        rintro e w2 ⟨rfl, rfl⟩
        go_wp2_with fail
        refine (KD.out _ LH.out).mono ?_
        rintro e w3 ⟨rfl, b3⟩
        have B3 := Lib.hid (chain LH.out b3)
        have X3 := X.out.later b3
        have x0 := X3.cells 0 _ rfl
        have x1 := X3.cells 1 _ rfl
        have x2 := X3.cells 2 _ rfl
        clear X3 b3
        go_wp2_with fail
        refine (IB.out _).mono ?_
        rintro e w4 ⟨rfl, rfl⟩
        go_wp2
        go_ret
        exact ⟨by simp, B3.out⟩
      · have h3' : (kr == 3) = false := by simpa using h3
        have e2 : decide (kr = 3) = false := decide_eq_false h3
        rw [e2]
        clear h3 e2 e1 IB
        go_enter Try.func70, Try.ntmps70
        go_wp2_with fail
        refine (IA.out _).mono ?_
        rintro e w2 ⟨rfl, rfl⟩
        go_wp2_with fail
        refine (KD.out _ LH.out).mono ?_
        rintro e w3 ⟨rfl, b3⟩
        have B3 := Lib.hid (chain LH.out b3)
        clear b3
        go_wp2
        go_ret
        exact ⟨by simp, B3.out⟩
    · have e1 : decide (r < 0) = false := decide_eq_false hr
      rw [e1]
      clear e1 IB
      go_enter Try.func70, Try.ntmps70
      go_wp2_with fail
      refine (IA.out _).mono ?_
      rintro e w2 ⟨rfl, rfl⟩
      go_wp2
      go_ret
      exact ⟨by simp, LH.out⟩
set_option maxRecDepth 100000 in
theorem toRule (i r k : Int) (d : Bool) (w : World) : Calls Try.prog 28 #[.agg #[.int .i64 i, .int .i64 r, .int .i64 k, .bool d]] w (Ret (rval i r k d) w) := by
  go_enter Try.func28, Try.ntmps28
  go_wp2
  exact bodyPost_ret (v := rval i r k d) (by simp [results, Try.results28, go_sem]) rfl ⟨rfl, chain (chain (lay _ _) (lay _ _)) (lay _ _)⟩
end Go.Proofs.Ytgfpngjfhmiphaa.Tm
