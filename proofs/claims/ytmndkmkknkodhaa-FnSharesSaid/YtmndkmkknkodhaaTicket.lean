/-
  The ticket of one unit of an item: the hash of four words, in the program and in the model; and the exact law of TicketOf.
-/
import Derived.Test.YtmndkmkknkodhaaMix
import Derived.Test.YtmndkmkknkodhaaGfSpec
namespace Go.Proofs.Ytmndkmkknkodhaa.Tk
open Go.RowKit Go.Proofs.Ytmndkmkknkodhaa.MixC
set_option linter.unusedVariables false

/-- The number of a ticket. -/
def tk (id unit seed try' : Int) : Int := ((Mx.mix [seed, try', id, unit] : Nat) : Int)
theorem tk_lt (id unit seed try' : Int) : 0 ≤ tk id unit seed try' ∧ tk id unit seed try' ≤ 4294967295 := by
  unfold tk; have := Mx.mix_lt [seed, try', id, unit]; omega
/-- A number, and memory that was there is as it was. -/
def IntB (n : Int) (w : World) (e : Ending) (w' : World) : Prop := e = .returned (.int .i64 n) ∧ Below w.heap.size w w'
theorem nums4 (w : World) (a b c d : Int) : Nums (w.alloc (.cells #[.int .i64 a, .int .i64 b, .int .i64 c, .int .i64 d] 2)) w.heap.size 0 [a, b, c, d] := by
  intro i hi
  rw [Nat.zero_add, World.cell?_alloc_new]
  have h4 : i = 0 ∨ i = 1 ∨ i = 2 ∨ i = 3 := by simp at hi; omega
  rcases h4 with rfl | rfl | rfl | rfl <;> rfl
theorem implMix4 (bl cap : Nat) (a b c d : Int) (w : World) (hc : Nums w bl 0 [a, b, c, d]) :
    Calls Try.prog 71 #[.slice (some ⟨bl, 0, none⟩) 4 cap] w fun e w' => e = .returned (.int .i64 ((Mx.mix [a, b, c, d] : Nat) : Int)) ∧ w = w' :=
  implMix bl 0 cap [a, b, c, d] w (by simp) hc
theorem specMix4 (bl cap : Nat) (a b c d : Int) (w : World) (hc : Nums w bl 0 [a, b, c, d]) :
    Calls Try.prog 133 #[.slice (some ⟨bl, 0, none⟩) 4 cap] w fun e w' => e = .returned (.int .i64 ((Mx.mix [a, b, c, d] : Nat) : Int)) ∧ w = w' :=
  l01Mix bl 0 cap [a, b, c, d] w (by simp) hc

theorem implTicket (id unit seed try' : Int) (w : World) :
    Calls Try.prog 26 #[.int .i64 id, .int .i64 unit, .int .i64 seed, .int .i64 try'] w (IntB (tk id unit seed try') w) := by
  have N := Lib.hid (nums4 w seed try' id unit)
  go_enter Try.func26, Try.ntmps26
  go_wp2_with fail
  refine (implMix4 _ _ _ _ _ _ _ N.out).mono ?_
  rintro e w1 ⟨rfl, rfl⟩
  go_wp2
  go_ret
  exact ⟨rfl, (Below.refl _ _).alloc (Nat.le_refl _) _⟩
theorem l07Ticket (id unit seed try' : Int) (w : World) :
    Calls Try.prog 111 #[.int .i64 id, .int .i64 unit, .int .i64 seed, .int .i64 try'] w (IntB (tk id unit seed try') w) := by
  have N := Lib.hid (nums4 w seed try' id unit)
  go_enter Try.func111, Try.ntmps111
  go_wp2_with fail
  refine (specMix4 _ _ _ _ _ _ _ N.out).mono ?_
  rintro e w1 ⟨rfl, rfl⟩
  go_wp2
  go_ret
  exact ⟨rfl, (Below.refl _ _).alloc (Nat.le_refl _) _⟩
theorem specTicket (id unit seed try' : Int) (w : World) :
    Calls Try.prog 58 #[.int .i64 id, .int .i64 unit, .int .i64 seed, .int .i64 try'] w (IntB (tk id unit seed try') w) := by
  go_enter Try.func58, Try.ntmps58
  go_wp2_with fail
  refine (l07Ticket _ _ _ _ _).mono ?_
  rintro e w1 ⟨rfl, b1⟩
  go_wp2
  go_ret
  exact ⟨rfl, b1⟩
theorem fnTicket (id unit seed try' : Int) (w : World) (w1 : (Lit.int .i64 id).wf = true) (w2 : (Lit.int .i64 unit).wf = true) (w3 : (Lit.int .i64 seed).wf = true) (w4 : (Lit.int .i64 try').wf = true) :
    Calls Try.prog 11 #[.int .i64 id, .int .i64 unit, .int .i64 seed, .int .i64 try'] w fun e w' => e = .returned (.bool true) ∧ Below w.heap.size w w' := by
  clear w1 w2 w3 w4
  go_enter Try.func11, Try.ntmps11
  go_wp2_with fail
  refine (specTicket _ _ _ _ _).mono ?_
  rintro e w1 ⟨rfl, b1⟩
  go_wp2_with fail
  refine (implTicket _ _ _ _ _).mono ?_
  rintro e w2 ⟨rfl, b2⟩
  generalize tk id unit seed try' = n
  go_wp2
  go_ret
  exact ⟨rfl, b1.trans (b2.mono b1.size)⟩
end Go.Proofs.Ytmndkmkknkodhaa.Tk
