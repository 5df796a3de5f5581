/-
  The ticket of one unit of an item: the hash of four words, in the program and in the model; and the exact law of TicketOf.
-/
import Derived.Test.YtgfpngjfhmiphaaMix
import Derived.Test.YtgfpngjfhmiphaaGfSpec
namespace Go.Proofs.Ytgfpngjfhmiphaa.Tk
open Go.RowKit Go.Proofs.Ytgfpngjfhmiphaa.MixC
set_option linter.unusedVariables false

/-- The number of a ticket. -/
def tk (id unit seed try' : Int) : Int := ((Mx.mix [seed, try', id, unit] : Nat) : Int)
theorem tk_lt (id unit seed try' : Int) : 0 ≤ tk id unit seed try' ∧ tk id unit seed try' ≤ 4294967295 := by
  unfold tk; have := Mx.mix_lt [seed, try', id, unit]; omega
/-- A number, and memory that was there is as it was. -/
def IntB (n : Int) (w : World) (e : Ending) (w' : World) : Prop := e = .returned (.int .i64 n) ∧ Below w.heap.size w w'
theorem nums4 (w : World) (a b c d : Int) : Nums (w.alloc (.cells #[.int .i64 a, .int .i64 b, .int .i64 c, .int .i64 d] 2)) w.heap.size 0 [a, b, c, d] := by
  intro i hi
  rw [Nat.zero_add, World.cell?_alloc_new]
  have h4 : i = 0 ∨ i = 1 ∨ i = 2 ∨ i = 3 := by simp at hi; omega
  rcases h4 with rfl | rfl | rfl | rfl <;> rfl
theorem implMix4 (bl cap : Nat) (a b c d : Int) (w : World) (hc : Nums w bl 0 [a, b, c, d]) :
    Calls Try.prog 165 #[.slice (some ⟨bl, 0, none⟩) 4 cap] w fun e w' => e = .returned (.int .i64 ((Mx.mix [a, b, c, d] : Nat) : Int)) ∧ w = w' :=
  implMix bl 0 cap [a, b, c, d] w (by simp) hc
theorem specMix4 (bl cap : Nat) (a b c d : Int) (w : World) (hc : Nums w bl 0 [a, b, c, d]) :
    Calls Try.prog 164 #[.slice (some ⟨bl, 0, none⟩) 4 cap] w fun e w' => e = .returned (.int .i64 ((Mx.mix [a, b, c, d] : Nat) : Int)) ∧ w = w' :=
  l01Mix bl 0 cap [a, b, c, d] w (by simp) hc

theorem implTicket (id unit seed try' : Int) (w : World) :
    Calls Try.prog 159 #[.int .i64 id, .int .i64 unit, .int .i64 seed, .int .i64 try'] w (IntB (tk id unit seed try') w) := by
  have N := Lib.hid (nums4 w seed try' id unit)
  go_enter Try.func159, Try.ntmps159
  go_wp2_with fail
  refine (implMix4 _ _ _ _ _ _ _ N.out).mono ?_
  rintro e w1 ⟨rfl, rfl⟩
  go_wp2
  go_ret
  exact ⟨rfl, (Below.refl _ _).alloc (Nat.le_refl _) _⟩
theorem l07Ticket (id unit seed try' : Int) (w : World) :
    Calls Try.prog 158 #[.int .i64 id, .int .i64 unit, .int .i64 seed, .int .i64 try'] w (IntB (tk id unit seed try') w) := by
  have N := Lib.hid (nums4 w seed try' id unit)
  go_enter Try.func158, Try.ntmps158
  go_wp2_with fail
  refine (specMix4 _ _ _ _ _ _ _ N.out).mono ?_
  rintro e w1 ⟨rfl, rfl⟩
  go_wp2
  go_ret
  exact ⟨rfl, (Below.refl _ _).alloc (Nat.le_refl _) _⟩
end Go.Proofs.Ytgfpngjfhmiphaa.Tk
