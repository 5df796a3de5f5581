/-
  DomainOf: the program's answer and the model's.
-/
import Derived.Test.YtigaoimnhebegaaTabv
namespace Go.Proofs.Ytigaoimnhebegaa.Tm
open Go.RowKit Go.Proofs.Ytigaoimnhebegaa.GfI Go.Proofs.Ytigaoimnhebegaa.GfS Go.Proofs.Ytigaoimnhebegaa.MixC
open Go.Proofs.Ytigaoimnhebegaa.It (lay chain)
open Go.Proofs.Ytigaoimnhebegaa.Bk (Bks tval bval)
open Go.Proofs.Ytigaoimnhebegaa.Sg (BxN)
set_option linter.unusedVariables false
set_option linter.unusedSimpArgs false

/-- The domain of kind g of node x in a valid tree. -/
def DomV (T : TD) (g x : Int) : Value := if T.kd x = 0 then (if g = 0 then .tuple #[.int .i64 x, .int .i64 0] else AbvV (abv T 5 x g)) else ErrV 3
def DomAns (ok : Bool) (T : TD) (g x : Int) : Value := if ok = true then (if inB g 0 2 = true then DomV T g x else ErrV 2) else ErrV 1
theorem DomV_two (T : TD) (g x : Int) : ∃ r0 r1, DomV T g x = .tuple #[.int .i64 r0, .int .i64 r1] := by
  unfold DomV ErrV AbvV
  split
  · split
    · exact ⟨_, _, rfl⟩
    · exact ⟨_, _, rfl⟩
  · exact ⟨_, _, rfl⟩
theorem DomAns_two (ok : Bool) (T : TD) (g x : Int) : ∃ r0 r1, DomAns ok T g x = .tuple #[.int .i64 r0, .int .i64 r1] := by
  unfold DomAns
  split
  · split
    · exact DomV_two T g x
    · exact ⟨_, _, rfl⟩
  · exact ⟨_, _, rfl⟩
theorem Whole.kind {T : TD} {mb p q : Nat} {w : World} (h : Whole T mb p q w) (x : Int) : Calls Try.prog 179 #[thg T p q T.dn T.bn x] w (Same (.int .i64 (T.kd x)) w) :=
  kindOf T p q x w (fun j hj => by obtain ⟨s, u, lo, hi, X, _⟩ := h.br j hj; exact X.cells 2 _ rfl)

set_option maxRecDepth 100000 in
theorem domainOf (T : TD) (mb p q : Nat) (g x : Int) (w : World) (h : Whole T mb p q w) (hx : (Lit.int .i64 x).wf = true) :
    Calls Try.prog 137 #[.map (some mb), .int .i64 g, .int .i64 x] w (Same (DomV T g x) w) := by
  have L := h.look x hx
  have K := Lib.hid (h.kind x)
  have AB := Lib.hid (above T mb p q x g w h hx)
  clear h
  unfold DomV
  generalize thg T p q T.dn T.bn x = v at *
  generalize T.kd x = k at *
  unfold AbvV at *
  generalize abv T 5 x g = r at *
  generalize (if r = 0 then (3 : Int) else 0) = c at *
  by_cases hk : k = 0
  · subst hk
    rw [if_pos rfl]
    by_cases hg : g = 0
    · subst hg
      rw [if_pos rfl]
      go_enter Try.func137, Try.ntmps137
      go_wp2_with fail
      refine K.out.mono ?_
      rintro e w1 ⟨rfl, rfl⟩
      go_wp2
      go_ret2
      exact ⟨rfl, rfl⟩
    · rw [if_neg hg]
      have g' : (g == 0) = false := by simpa using hg
      clear hg
      go_enter Try.func137, Try.ntmps137
      go_wp2_with fail
      refine K.out.mono ?_
      rintro e w1 ⟨rfl, rfl⟩
      go_wp2_with fail
      refine AB.out.mono ?_
      rintro e w2 ⟨rfl, rfl⟩
      go_wp2
      go_ret2
      exact ⟨rfl, rfl⟩
  · rw [if_neg hk]
    have k' : (k != 0) = true := by simpa using hk
    clear hk
    go_enter Try.func137, Try.ntmps137
    go_wp2_with fail
    refine K.out.mono ?_
    rintro e w1 ⟨rfl, rfl⟩
    go_wp2
    go_ret2
    exact ⟨rfl, rfl⟩

theorem isDomainKind (n : Int) (w : World) : Calls Try.prog 178 #[.int .i64 n] w fun e w' => e = .returned (.bool (inB n 0 2)) ∧ w = w' := by
  go_enter Try.func178, Try.ntmps178
  go_wp2_with fail
  refine (Wi.isWithin n 0 2 (by omega) _).mono ?_
  rintro e w1 ⟨rfl, rfl⟩
  go_wp2
  go_ret
  exact ⟨rfl, rfl⟩

/-- The domain as the model reckons it: 0 of none. -/
def dom8 (T : TD) (g x : Int) : Int := if g = 0 then x else abv T 5 x g
set_option maxRecDepth 100000 in
theorem l08Domain (T : TD) (A : TA) (g x : Int) (w : World) (Z : T.Sz) (O : T.Ok) (h : TIn w T A) :
    Calls Try.prog 63 #[A.val T, .int .i64 g, .int .i64 x] w (IntB (dom8 T g x) w) := by
  have LH := Lib.hid (lay w (.cells #[.slice A.da T.dn A.dc, .slice A.ba T.bn A.bc] 33))
  have AB := Lib.hid (l06Above T Z O g 5 x A _ (by have := kd_ge O.bkt x; omega) (h.below LH.out))
  clear h Z
  obtain ⟨da, dc, ba, bc, I, C⟩ := A
  dsimp only at LH AB ⊢
  unfold dom8
  generalize abv T 5 x g = r at *
  by_cases hg : g = 0
  · subst hg
    rw [if_pos rfl]
    go_enter Try.func63, Try.ntmps63
    go_wp2
    go_ret
    exact ⟨rfl, LH.out⟩
  · rw [if_neg hg]
    have g' : (g == 0) = false := by simpa using hg
    clear hg
    go_enter Try.func63, Try.ntmps63
    go_wp2_with fail
    refine AB.out.mono ?_
    rintro e w1 ⟨rfl, b1⟩
    have B1 := Lib.hid (chain LH.out b1)
    clear b1
    go_wp2
    go_ret
    exact ⟨rfl, B1.out⟩
theorem ixI_kd {T : TD} (O : T.Ok) (x : Int) : ixI T.df x T.dn < 0 ↔ T.kd x ≠ 0 := by
  unfold ixI TD.kd
  cases h : ix T.df x T.dn with
  | some i => simp
  | none =>
    dsimp only
    cases r : ix T.bf x T.bn with
    | some j => have := (O.bkt.each j (ix_some r).1).2.2.1; simp; omega
    | none => simp
end Go.Proofs.Ytigaoimnhebegaa.Tm
