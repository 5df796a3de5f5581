/-
  nodesOk: the devices listed as excluded.
-/
import Derived.Test.YtigaoimnhebegaaTapt
namespace Go.Proofs.Ytigaoimnhebegaa.Tm
open Go.RowKit Go.Proofs.Ytigaoimnhebegaa.GfI Go.Proofs.Ytigaoimnhebegaa.GfS Go.Proofs.Ytigaoimnhebegaa.MixC
open Go.Maps
open Go.Proofs.Ytigaoimnhebegaa.It (lay chain)
open Go.Proofs.Ytigaoimnhebegaa.Bk (Bks tval bval)
open Go.Proofs.Ytigaoimnhebegaa.Sg (BxN)
open Go.Proofs.Ytigaoimnhebegaa.Rc (ownsMap_later wpList_lookup_bool plainElem_bool_inv keys zeroB)
set_option linter.unusedVariables false
set_option linter.unusedSimpArgs false

set_option maxRecDepth 100000
theorem isNode (x : Int) (w : World) : Calls Try.prog 135 #[.int .i64 x] w fun e w' => e = .returned (.bool (inB x 0 15)) ∧ w = w' := by
  have W := Lib.hid (Wi.isWithin x 0 15 (by omega))
  generalize inB x 0 15 = ib at *
  go_enter Try.func135, Try.ntmps135
  go_wp2_with fail
  refine (W.out _).mono ?_
  rintro e w1 ⟨rfl, rfl⟩
  go_wp2
  go_ret
  exact ⟨rfl, rfl⟩
theorem nodeFn (x : Int) (w : World) : Calls Try.prog 134 #[.int .i64 x] w fun e w' => e = .returned (.bool (!inB x 0 15)) ∧ w = w' := by
  have W := Lib.hid (isNode x)
  generalize inB x 0 15 = ib at *
  go_enter Try.func134, Try.ntmps134
  go_wp2_with fail
  refine (W.out _).mono ?_
  rintro e w1 ⟨rfl, rfl⟩
  go_wp2
  go_ret
  exact ⟨rfl, rfl⟩
/-- The first number that is not within, or none. -/
def IdxN (z : Nat → Int) (n : Nat) (w : World) (e : Ending) (w' : World) : Prop := ∃ i : Int, e = .returned (.int .i64 i) ∧ w = w' ∧ ((0 ≤ i ∧ ¬ InN z n) ∨ (i = -1 ∧ InN z n))
set_option maxRecDepth 100000 in
theorem indexNode (a : Option Addr) (cap : Nat) (z : List Int) (w : World) (hz : z.length ≤ 2097152) (h : Words w a z) :
    Calls Try.prog 180 #[.slice a z.length cap, .func (.func 134) #[] #[]] w (IdxN (zF z) z.length w) := by
  obtain ⟨n, hn⟩ : ∃ n, n = z.length := ⟨_, rfl⟩
  have HN := Lib.hid hn
  rw [← hn] at hz ⊢
  clear hn
  go_enter Try.func180, Try.ntmps180
  go_wp2
  go_loop [8] (fun i => ∃ k : Nat, k ≤ n ∧ i = .int .i64 k ∧ InN (zF z) k) (fun i => n - (intOf i).toNat)
  case atStart => exact ⟨0, by omega, rfl, fun i hi => by omega⟩
  case round =>
    obtain ⟨k, hk, rfl, R⟩ := hrel
    have HR := Lib.hid R
    clear R
    by_cases hlt : k < n
    · have hkz : k < z.length := by rw [← HN.out]; exact hlt
      obtain ⟨b1, o1, rfl, hB, hc⟩ := h.resolve_left (by intro e; rw [e] at hkz; simp at hkz)
      have c0 := hc k hkz
      have z0 : zF z k = z.getD k 0 := rfl
      rw [← z0] at c0
      have F := nodeFn (zF z k)
      clear hc z0 h
      cases hb : inB (zF z k) 0 15
      · rw [hb] at F
        have F := Lib.hid F
        have P := Lib.hid (show ¬ InN (zF z) n from fun h => by have := h k hlt; rw [hb] at this; cases this)
        clear hb HR
        generalize zF z k = x at *
        go_wp2_with fail
        refine (F.out _).mono ?_
        rintro e w1 ⟨rfl, rfl⟩
        go_wp2
        go_ret
        exact ⟨_, rfl, rfl, .inl ⟨by omega, P.out⟩⟩
      · rw [hb] at F
        have F := Lib.hid F
        have P := Lib.hid (HR.out.step hb)
        clear hb HR
        generalize zF z k = x at *
        go_wp2_with fail
        refine (F.out _).mono ?_
        rintro e w1 ⟨rfl, rfl⟩
        go_wp2
        go_round
        case rel => exact ⟨k + 1, by omega, by go_num, P.out⟩
        case measure => simp [intOf]; omega
    · obtain rfl : k = n := by omega
      clear h
      go_wp2
      go_ret
      exact ⟨_, rfl, rfl, .inr ⟨rfl, HR.out⟩⟩
def IffT (P : Prop) (w : World) (e : Ending) (w' : World) : Prop := ∃ b, e = .returned (.bool b) ∧ (b = true ↔ P) ∧ w = w'
set_option maxRecDepth 100000 in
theorem containsNode (a : Option Addr) (cap : Nat) (z : List Int) (w : World) (hz : z.length ≤ 2097152) (h : Words w a z) :
    Calls Try.prog 133 #[.slice a z.length cap, .func (.func 134) #[] #[]] w (IffT (¬ InN (zF z) z.length) w) := by
  have I := Lib.hid (indexNode a cap z w hz h)
  clear h
  go_enter Try.func133, Try.ntmps133
  go_wp2_with fail
  refine I.out.mono ?_
  rintro e w1 ⟨i, rfl, rfl, ⟨h0, N⟩ | ⟨rfl, Y⟩⟩
  · have h' : decide (0 ≤ i) = true := decide_eq_true h0
    have N := Lib.hid N
    go_wp2
    go_ret
    exact ⟨true, rfl, by simp [N.out], rfl⟩
  · have Y := Lib.hid Y
    go_wp2
    go_ret
    exact ⟨false, rfl, by simp [Y.out], rfl⟩
set_option maxRecDepth 100000 in
theorem nodesOk (a : Option Addr) (cap : Nat) (z : List Int) (w : World) (hz : z.length ≤ 2097152) (h : Words w a z) :
    Calls Try.prog 66 #[.slice a z.length cap] w (IffB (OutP z) w) := by
  have R := Lib.hid (isRising a cap z w hz h)
  have C := Lib.hid (fun w' (b : Below w.heap.size w w') => containsNode a cap z w' hz (h.below b))
  clear h
  go_enter Try.func66, Try.ntmps66
  go_wp2_with fail
  refine R.out.mono ?_
  rintro e w1 ⟨b, rfl, hb, b1⟩
  have B1 := Lib.hid b1
  clear b1
  cases b
  · have N := Lib.hid (show ¬ OutP z from fun p => by cases (hb.2 p.1))
    clear hb
    go_wp2
    go_ret
    exact IffB.no N.out B1.out
  · have Y := Lib.hid (hb.1 rfl)
    clear hb
    go_wp2_with fail
    refine (C.out _ B1.out).mono ?_
    rintro e w2 ⟨c, rfl, hc, rfl⟩
    cases c
    · have G := Lib.hid (show OutP z from ⟨Y.out, Classical.byContradiction fun n => by cases (hc.2 n)⟩)
      clear hc
      go_wp2
      go_ret
      exact IffB.yes G.out B1.out
    · have N := Lib.hid (show ¬ OutP z from fun p => hc.1 rfl p.2)
      clear hc
      go_wp2
      go_ret
      exact IffB.no N.out B1.out
end Go.Proofs.Ytigaoimnhebegaa.Tm
