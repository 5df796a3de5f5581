/-
  The bucket of a kind above a thing: as data, in the model, in the program.
-/
import Derived.Test.YteogbfmghbaelaaLawTree
namespace Go.Proofs.Yteogbfmghbaelaa.Tm
open Go.RowKit Go.Proofs.Yteogbfmghbaelaa.GfI Go.Proofs.Yteogbfmghbaelaa.GfS Go.Proofs.Yteogbfmghbaelaa.MixC
open Go.Proofs.Yteogbfmghbaelaa.It (lay chain)
open Go.Proofs.Yteogbfmghbaelaa.Rc (Recs)
open Go.Proofs.Yteogbfmghbaelaa.Bk (Bks tval bval)
open Go.Proofs.Yteogbfmghbaelaa.Sg (BxN)
set_option linter.unusedVariables false
set_option linter.unusedSimpArgs false

/-- The first of n lists that has x. -/
def parN (L : Nat → List Int) (x : Int) : Nat → Option Nat
  | 0 => none
  | n + 1 => match parN L x n with
    | some j => some j
    | none => if x ∈ L n then some n else none
theorem parN_none {L : Nat → List Int} {x : Int} : ∀ {n : Nat}, parN L x n = none ↔ ∀ j, j < n → x ∉ L j
  | 0 => by simp [parN]
  | n + 1 => by
    unfold parN
    have IH := @parN_none L x n
    cases h : parN L x n with
    | some i =>
      simp only [reduceCtorEq, false_iff]
      intro H
      have := IH.2 (fun j hj => H j (by omega))
      rw [h] at this; cases this
    | none =>
      have h0 := IH.1 h
      dsimp only
      split
      · rename_i e
        simp only [reduceCtorEq, false_iff]
        intro H; exact H n (by omega) e
      · rename_i e
        simp only [true_iff]
        intro j hj
        by_cases q : j = n
        · subst q; exact e
        · exact h0 j (by omega)
theorem parN_some {L : Nat → List Int} {x : Int} : ∀ {n i : Nat}, parN L x n = some i → i < n ∧ x ∈ L i ∧ ∀ j, j < i → x ∉ L j
  | 0, i, h => by simp [parN] at h
  | n + 1, i, h => by
    unfold parN at h
    cases q : parN L x n with
    | some k =>
      rw [q] at h
      obtain rfl : k = i := by simpa using h
      obtain ⟨a, b, c⟩ := parN_some q
      exact ⟨by omega, b, c⟩
    | none =>
      rw [q] at h
      dsimp only at h
      split at h
      · rename_i e
        obtain rfl : n = i := by simpa using h
        exact ⟨by omega, e, parN_none.1 q⟩
      · cases h
theorem parN_hit {L : Nat → List Int} {x : Int} {n i : Nat} (hi : i < n) (hx : x ∈ L i) (h : ∀ j, j < i → x ∉ L j) : parN L x n = some i := by
  cases q : parN L x n with
  | none => exact absurd hx (parN_none.1 q i hi)
  | some k =>
    obtain ⟨a, b, c⟩ := parN_some q
    rcases Nat.lt_trichotomy i k with e | e | e
    · exact absurd hx (c i e)
    · rw [e]
    · exact absurd b (h k e)
/-- The bucket above a thing. -/
def TD.par (T : TD) (x : Int) : Option Nat := parN T.L x T.bn
theorem Up.par {T : TD} {U : Int → Option Nat} (h : Up T T.bn 0 U) : U = T.par := by
  funext x
  cases q : T.par x with
  | none =>
    cases r : U x with
    | none => rfl
    | some j => obtain ⟨a, b⟩ := h.so x j r; exact absurd b (parN_none.1 q j a)
  | some j =>
    obtain ⟨a, b, _⟩ := parN_some q
    exact (h.iff x j).2 ⟨a, b⟩
/-- The bucket of kind g above x, 0 of none; f bounds the steps. -/
def abv (T : TD) : Nat → Int → Int → Int
  | 0, _, _ => 0
  | f + 1, x, g => match T.par x with
    | none => 0
    | some j => if T.bg j = g then T.bf j else abv T f (T.bf j) g
theorem kd_up {T : TD} (O : T.Ok) {x : Int} {j : Nat} (hj : j < T.bn) (hx : x ∈ T.L j) : 0 ≤ T.kd x ∧ T.kd x < T.bg j ∧ T.bg j ≤ 3 ∧ T.kd (T.bf j) = T.bg j := by
  obtain ⟨i, hi⟩ := List.mem_iff_getElem?.1 hx
  have h := (O.fit j hj i x hi).1
  have h1 := (O.bkt.each j hj).2.2.1
  have h2 := (O.bkt.each j hj).2.2.2.1
  exact ⟨by omega, by omega, h2, TD.kd_bkt O.dev O.bkt hj⟩

end Go.Proofs.Yteogbfmghbaelaa.Tm

/-
  The bucket of a kind above a thing: in the program.
-/
namespace Go.Proofs.Yteogbfmghbaelaa.Tm
open Go.RowKit Go.Proofs.Yteogbfmghbaelaa.GfI Go.Proofs.Yteogbfmghbaelaa.GfS Go.Proofs.Yteogbfmghbaelaa.MixC
open Go.Proofs.Yteogbfmghbaelaa.It (lay chain)
open Go.Proofs.Yteogbfmghbaelaa.Rc (Recs)
open Go.Proofs.Yteogbfmghbaelaa.Bk (Bks tval bval)
open Go.Proofs.Yteogbfmghbaelaa.Sg (BxN)
set_option linter.unusedVariables false
set_option linter.unusedSimpArgs false

/-- All parts of a valid tree, as the program holds them. -/
structure Whole (T : TD) (mb p q : Nat) (w : World) : Prop where
  ok : T.Ok
  map : Pm.Fun Try.prog 2 w mb (T.dn + T.bn) (thg T p q T.dn T.bn)
  lf : ∀ i, i < T.dn → BxN w (p + 2 * i) [upv q (T.par (T.df i)), .int .i64 (T.df i), .int .i64 (T.dg i)]
  br : ∀ j, j < T.bn → ∃ s u lo hi, BxN w (q + 2 * j) [upv q (T.par (T.bf j)), .int .i64 (T.bf j), .int .i64 (T.bg j), s, u] ∧ Rw w lo hi u (things T p q (T.L j))
theorem Prt.whole {T : TD} {I : Nat → Option Addr} {C : Nat → Nat} {N0 mb p q base : Nat} {U : Int → Option Nat} {S : Nat → Value} {w : World} (O : T.Ok) (hU : Up T T.bn 0 U) (h : Prt T I C N0 mb p q T.bn 0 base U S w) : Whole T mb p q w := by
  have e := hU.par
  subst e
  exact ⟨O, h.map, h.lf, fun j hj => ⟨_, _, _, _, h.br j hj, h.row j hj⟩⟩
theorem Whole.look2 {T : TD} {mb p q : Nat} {w : World} (h : Whole T mb p q w) (x : Int) (hx : (Lit.int .i64 x).wf = true) :
    (Instr.lookup 98 (.map (some mb)) (.int .i64 x) true).run Try.prog w = .ok (.tuple #[thg T p q T.dn T.bn x, .bool (!Pm.isNil (thg T p q T.dn T.bn x))]) w :=
  h.map.look2 keyed64 Try.underlying98 Try.underlying2 (by kernel_rfl) x hx
theorem Whole.look {T : TD} {mb p q : Nat} {w : World} (h : Whole T mb p q w) (x : Int) (hx : (Lit.int .i64 x).wf = true) :
    (Instr.lookup 98 (.map (some mb)) (.int .i64 x) false).run Try.prog w = .ok (thg T p q T.dn T.bn x) w :=
  h.map.look keyed64 Try.underlying98 Try.underlying2 (by kernel_rfl) x hx
theorem Whole.later {T : TD} {mb p q : Nat} {w w' : World} (h : Whole T mb p q w) (b : Below w.heap.size w w') : Whole T mb p q w' :=
  ⟨h.ok, h.map.later b, fun i hi => (h.lf i hi).later b, fun j hj => by
    obtain ⟨s, u, lo, hi, x, r⟩ := h.br j hj
    exact ⟨s, u, lo, hi, x.later b, r.grown (r := none) ⟨b.os, b.tape, b.output, b.size, fun c hc _ => b.block c hc⟩ (fun c hc => by cases hc)⟩⟩
/-- The bucket above, or none: what follows. -/
theorem abv_none {T : TD} {f : Nat} {x g : Int} (h : T.par x = none) : abv T (f + 1) x g = 0 := by unfold abv; rw [h]
theorem abv_some {T : TD} {f : Nat} {x g : Int} {j : Nat} (h : T.par x = some j) : abv T (f + 1) x g = if T.bg j = g then T.bf j else abv T f (T.bf j) g := by
  conv => lhs; unfold abv
  rw [h]
/-- A bucket that was found, or an error. -/
def AbvV (n : Int) : Value := .tuple #[.int .i64 n, .int .i64 (if n = 0 then 3 else 0)]
/-- How far a bucket's pointer is from the top. -/
def msr (v : Value) (w : World) : Nat := match v with
  | .pointer (some a) => match w.cell? ⟨a.block, 2, none⟩ with
    | some (.int _ n) => (4 - n).toNat
    | _ => 0
  | _ => 0

def upa (q : Nat) : Option Nat → Option Addr
  | none => none
  | some j => some ⟨q + 2 * j, 0, none⟩
theorem upv_eq (q : Nat) (o : Option Nat) : upv q o = .pointer (upa q o) := by cases o <;> rfl
theorem abv_fit {T : TD} {f : Nat} {x : Int} (O : T.Ok) (h : 3 - T.kd x < f) : ∃ f', f = f' + 1 := by
  cases f with
  | zero =>
    exfalso
    have : T.kd x ≤ 3 := by
      rcases T.kd_cases x with ⟨_, _, _, e⟩ | ⟨_, j, hj, _, e⟩ | ⟨_, _, e⟩
      · omega
      · have := (O.bkt.each j hj).2.2.2.1; omega
      · omega
    omega
  | succ f => exact ⟨f, rfl⟩
end Go.Proofs.Yteogbfmghbaelaa.Tm

/-
  AboveOf and DomainOf: the program's answers and the model's.
-/
namespace Go.Proofs.Yteogbfmghbaelaa.Tm
open Go.RowKit Go.Proofs.Yteogbfmghbaelaa.GfI Go.Proofs.Yteogbfmghbaelaa.GfS Go.Proofs.Yteogbfmghbaelaa.MixC
open Go.Proofs.Yteogbfmghbaelaa.It (lay chain)
open Go.Proofs.Yteogbfmghbaelaa.Bk (Bks tval bval)
open Go.Proofs.Yteogbfmghbaelaa.Sg (BxN)
set_option linter.unusedVariables false
set_option linter.unusedSimpArgs false

def ErrV (n : Int) : Value := .tuple #[.int .i64 0, .int .i64 n]
def AboveAns (ok : Bool) (T : TD) (x g : Int) : Value := if ok = true then (if inB g 1 3 = true then AbvV (abv T 5 x g) else ErrV 2) else ErrV 1
theorem kd_ge {T : TD} (B : T.BktOk) (x : Int) : -1 ≤ T.kd x := by
  rcases T.kd_cases x with ⟨_, _, _, e⟩ | ⟨_, j, hj, _, e⟩ | ⟨_, _, e⟩
  · omega
  · have := (B.each j hj).2.2.1; omega
  · omega
theorem abv_or (T : TD) (B : T.BktOk) (g : Int) : ∀ (f : Nat) (x : Int), abv T f x g = 0 ∨ abv T f x g < 0
  | 0, x => .inl rfl
  | f + 1, x => by
    cases h : T.par x with
    | none => exact .inl (abv_none h)
    | some j =>
      rw [abv_some h]
      split
      · exact .inr (by have := (B.each j (parN_some h).1).2.1; omega)
      · exact abv_or T B g f _

theorem AboveAns_two (ok : Bool) (T : TD) (x g : Int) : ∃ r0 r1, AboveAns ok T x g = .tuple #[.int .i64 r0, .int .i64 r1] := by
  unfold AboveAns ErrV AbvV
  split
  · split
    · exact ⟨_, _, rfl⟩
    · exact ⟨_, _, rfl⟩
  · exact ⟨_, _, rfl⟩
end Go.Proofs.Yteogbfmghbaelaa.Tm
