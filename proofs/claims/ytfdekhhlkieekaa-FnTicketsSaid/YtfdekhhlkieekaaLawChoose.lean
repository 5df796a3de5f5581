/-
  The exact law of ChooseOne: the program's answer is the model's, and the items are left as they were.
-/
import Derived.Test.YtfdekhhlkieekaaChoose2
import Derived.Test.YtfdekhhlkieekaaLawItemsOk
namespace Go.Proofs.Ytfdekhhlkieekaa.Ch
open Go.RowKit Go.Proofs.Ytfdekhhlkieekaa.It Go.Proofs.Ytfdekhhlkieekaa.Rc
set_option linter.unusedVariables false

def coA (n : Nat) (f g : Nat → Int) (seed try' : Int) : Int := if okL n f g = true then chA n f g seed try' else 0
def coB (n : Nat) (f g : Nat → Int) (seed try' : Int) : Int := if okL n f g = true then chB n f g seed try' else 1
theorem okL_all {n : Nat} {f g : Nat → Int} (h : okL n f g = true) : ∀ i, i < n → okI (f i) (g i) = true := (of_decide_eq_true h).2.1

set_option maxRecDepth 100000 in
theorem implChooseOne (a : Option Addr) (cap n : Nat) (f g : Nat → Int) (seed try' : Int) (w : World) (hl : n ≤ 2097152) (ha : Recs w a n f g) (hwf : ∀ i, i < n → (Lit.int .i64 (f i)).wf = true) :
    Calls Try.prog 15 #[.slice a n cap, .int .i64 seed, .int .i64 try'] w (Two (coA n f g seed try') (coB n f g seed try') w) := by
  have O := implItemsOk a cap n f g w hl ha hwf
  cases o : okL n f g
  · have E1 : coA n f g seed try' = 0 := by unfold coA; rw [if_neg (by rw [o]; simp)]
    have E2 : coB n f g seed try' = 1 := by unfold coB; rw [if_neg (by rw [o]; simp)]
    rw [E1, E2]
    rw [o] at O
    have O := Lib.hid O
    clear E1 E2 o ha hwf
    go_enter Try.func15, Try.ntmps15
    go_wp2_with fail
    refine O.out.mono ?_
    rintro e w1 ⟨rfl, b1⟩
    go_wp2
    go_ret2
    exact ⟨rfl, b1⟩
  · have E1 : coA n f g seed try' = chA n f g seed try' := by unfold coA; rw [if_pos o]
    have E2 : coB n f g seed try' = chB n f g seed try' := by unfold coB; rw [if_pos o]
    rw [E1, E2]
    have C := Lib.hid (fun w' (b : Below w.heap.size w w') => implChoose1 a cap n f g seed try' w' hl (ha.below b) (okL_all o))
    rw [o] at O
    have O := Lib.hid O
    clear E1 E2 o ha hwf
    generalize chA n f g seed try' = x at *
    generalize chB n f g seed try' = y at *
    go_enter Try.func15, Try.ntmps15
    go_wp2_with fail
    refine O.out.mono ?_
    rintro e w1 ⟨rfl, b1⟩
    have B1 := Lib.hid b1
    clear b1
    go_wp2_with fail
    refine (C.out _ B1.out).mono ?_
    rintro e w2 ⟨rfl, b2⟩
    have B2 := Lib.hid (chain B1.out b2)
    clear b2
    go_wp2
    go_ret2
    exact ⟨rfl, B2.out⟩

end Go.Proofs.Ytfdekhhlkieekaa.Ch
