/-
  DomainOf: the program's answer and the model's.
-/
import Derived.Test.YteogbfmghbaelaaTabv
namespace Go.Proofs.Yteogbfmghbaelaa.Tm
open Go.RowKit Go.Proofs.Yteogbfmghbaelaa.GfI Go.Proofs.Yteogbfmghbaelaa.GfS Go.Proofs.Yteogbfmghbaelaa.MixC
open Go.Proofs.Yteogbfmghbaelaa.It (lay chain)
open Go.Proofs.Yteogbfmghbaelaa.Bk (Bks tval bval)
open Go.Proofs.Yteogbfmghbaelaa.Sg (BxN)
set_option linter.unusedVariables false
set_option linter.unusedSimpArgs false

/-- The domain of kind g of node x in a valid tree. -/
def DomV (T : TD) (g x : Int) : Value := if T.kd x = 0 then (if g = 0 then .tuple #[.int .i64 x, .int .i64 0] else AbvV (abv T 5 x g)) else ErrV 3
def DomAns (ok : Bool) (T : TD) (g x : Int) : Value := if ok = true then (if inB g 0 2 = true then DomV T g x else ErrV 2) else ErrV 1
theorem DomV_two (T : TD) (g x : Int) : ∃ r0 r1, DomV T g x = .tuple #[.int .i64 r0, .int .i64 r1] := by
  unfold DomV ErrV AbvV
  split
  · split
    · exact ⟨_, _, rfl⟩
    · exact ⟨_, _, rfl⟩
  · exact ⟨_, _, rfl⟩
theorem DomAns_two (ok : Bool) (T : TD) (g x : Int) : ∃ r0 r1, DomAns ok T g x = .tuple #[.int .i64 r0, .int .i64 r1] := by
  unfold DomAns
  split
  · split
    · exact DomV_two T g x
    · exact ⟨_, _, rfl⟩
  · exact ⟨_, _, rfl⟩
theorem Whole.kind {T : TD} {mb p q : Nat} {w : World} (h : Whole T mb p q w) (x : Int) : Calls Try.prog 132 #[thg T p q T.dn T.bn x] w (Same (.int .i64 (T.kd x)) w) :=
  kindOf T p q x w (fun j hj => by obtain ⟨s, u, lo, hi, X, _⟩ := h.br j hj; exact X.cells 2 _ rfl)

theorem isDomainKind (n : Int) (w : World) : Calls Try.prog 165 #[.int .i64 n] w fun e w' => e = .returned (.bool (inB n 0 2)) ∧ w = w' := by
  go_enter Try.func165, Try.ntmps165
  go_wp2_with fail
  refine (Wi.isWithin n 0 2 (by omega) _).mono ?_
  rintro e w1 ⟨rfl, rfl⟩
  go_wp2
  go_ret
  exact ⟨rfl, rfl⟩

/-- The domain as the model reckons it: 0 of none. -/
def dom8 (T : TD) (g x : Int) : Int := if g = 0 then x else abv T 5 x g
theorem ixI_kd {T : TD} (O : T.Ok) (x : Int) : ixI T.df x T.dn < 0 ↔ T.kd x ≠ 0 := by
  unfold ixI TD.kd
  cases h : ix T.df x T.dn with
  | some i => simp
  | none =>
    dsimp only
    cases r : ix T.bf x T.bn with
    | some j => have := (O.bkt.each j (ix_some r).1).2.2.1; simp; omega
    | none => simp
end Go.Proofs.Yteogbfmghbaelaa.Tm
