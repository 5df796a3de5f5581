/-
  l00Rises with any upper bound.
-/
import Derived.Test.YtdieekgihdikdaaRdI
import Derived.Test.YtdieekgihdikdaaMatRes2
import Derived.Test.YtdieekgihdikdaaLst
import Derived.Test.YtdieekgihdikdaaWithin
import Derived.Laws.AppendOwnNone
import Derived.IntWalk
import Derived.BigQuiet
import Derived.Deep.QuietTactic
namespace Go.Proofs.Ytdieekgihdikdaa.Ac
open Go.RowKit Go.Proofs.Ytdieekgihdikdaa.GfI Go.Proofs.Ytdieekgihdikdaa.GfS Go.Proofs.Ytdieekgihdikdaa.MixC
open Go.Proofs.Ytdieekgihdikdaa.Gf2 (Ib OwnS wpList_append_int)
open Go.Proofs.Ytdieekgihdikdaa.Rd (lay chain)
set_option linter.unusedVariables false
set_option linter.unusedSimpArgs false

/-- The first k numbers are within, and rise. -/
def InH (hb : Int) (z : Nat → Int) (n : Nat) : Prop := ∀ i, i < n → inB (z i) 0 hb = true
theorem InH.step {hb : Int} {z : Nat → Int} {k : Nat} (h : InH hb z k) (d : inB (z k) 0 hb = true) : InH hb z (k + 1) := fun i hi => if e : i = k then by rw [e]; exact d else h i (by omega)
def RsH (hb : Int) (z : Nat → Int) (k : Nat) : Prop := InH hb z k ∧ RisN z k
/-- A rising list from 0 to hb. -/
def OutH (hb : Int) (z : List Int) : Prop := RisN (zF z) z.length ∧ InH hb (zF z) z.length
set_option maxRecDepth 100000 in
set_option maxHeartbeats 2000000 in
theorem risesH (hb : Int) (a : Option Addr) (cap : Nat) (z : List Int) (w : World) (hz : z.length ≤ 2097152) (h : Words w a z) :
    Calls Try.prog 46 #[.slice a z.length cap, .int .i64 0, .int .i64 hb] w (IffB (OutH hb z) w) := by
  obtain ⟨n, hn⟩ : ∃ n, n = z.length := ⟨_, rfl⟩
  have HN := Lib.hid hn
  rw [← hn] at hz ⊢
  clear hn
  go_enter Try.func46, Try.ntmps46
  go_wp2
  go_loopw [7] (fun i wr => ∃ k : Nat, k ≤ n ∧ i = .int .i64 k ∧ RsH hb (zF z) k ∧ Below w.heap.size w wr) (fun i _ => n - (intOf i).toNat)
  case atStart => exact ⟨0, by omega, rfl, ⟨fun i hi => by omega, fun i hi => by omega⟩, Below.refl _ _⟩
  case round =>
    obtain ⟨k, hk, rfl, R, hw⟩ := hrel
    have HR := Lib.hid R
    have BA := Lib.hid hw
    clear R
    by_cases hlt : k < n
    · have hkz : k < z.length := by rw [← HN.out]; exact hlt
      obtain ⟨b, off, rfl, hB, hc⟩ := (h.below hw).resolve_left (by intro e; rw [e] at hkz; simp at hkz)
      have c0 := hc k hkz
      have W1 := fun w' => (l00In (zF z k) 0 hb w').mono (fun e v q => show e = .returned (.bool (inB (zF z k) 0 hb)) ∧ v = w' from ⟨q.1, q.2.symm⟩)
      have HC := Lib.hid hc
      have NO := Lib.hid (show ¬ RsH hb (zF z) (k + 1) → ¬ OutH hb z from fun r p => r ⟨fun i hi => p.2 i (by omega), fun i hi => p.1 i (by omega)⟩)
      clear hc hw h
      rcases k with _ | k
      · rw [show z.getD 0 0 = zF z 0 from rfl, Nat.add_zero] at c0
        have YS := Lib.hid (fun (e : inB (zF z 0) 0 hb = true) => show RsH hb (zF z) (0 + 1) from ⟨fun i hi => by rw [show i = 0 by omega]; exact e, fun i hi => by omega⟩)
        have N1 := Lib.hid (fun (e : inB (zF z 0) 0 hb = false) => NO.out (fun r => by have := r.1 0 (by omega); rw [e] at this; cases this))
        clear HC NO HR
        generalize zF z 0 = x at *
        cases I1 : inB x 0 hb
        · have G := Lib.hid (N1.out I1)
          rw [I1] at W1
          have W1 := Lib.hid W1
          clear I1 N1 YS
          go_wp2
          go_quiet (((go_at_call 47; first | (with_reducible exact Calls.quiet_of_same (W1.out _)))))
          go_wp2
          go_ret
          exact IffB.no G.out (below_drewN BA.out _)
        · have G := Lib.hid (YS.out I1)
          rw [I1] at W1
          have W1 := Lib.hid W1
          clear I1 N1 YS
          go_wp2
          go_quiet (((go_at_call 47; first | (with_reducible exact Calls.quiet_of_same (W1.out _)))))
          go_wp2
          go_roundw
          case rel => exact ⟨0 + 1, by omega, by go_num, G.out, below_drewN BA.out _⟩
          case measure => simp [intOf]; omega
      · have e0 := HC.out k (by omega)
        rw [show z.getD (k + 1) 0 = zF z (k + 1) from rfl] at c0
        rw [show z.getD k 0 = zF z k from rfl] at e0
        have YS := Lib.hid (fun (e : inB (zF z (k + 1)) 0 hb = true) (d : zF z k < zF z (k + 1)) => show RsH hb (zF z) (k + 1 + 1) from ⟨HR.out.1.step e, HR.out.2.step d⟩)
        have N1 := Lib.hid (fun (e : inB (zF z (k + 1)) 0 hb = false) => NO.out (fun r => by have := r.1 (k + 1) (by omega); rw [e] at this; cases this))
        have N2 := Lib.hid (fun (e : zF z (k + 1) ≤ zF z k) => NO.out (fun r => by have := r.2 k (by omega); omega))
        clear HC NO HR
        have j0 : (0 : Int) ≤ (k : Int) + 1 := by omega
        have j1 : (k : Int) + 1 < (n : Int) := by omega
        have j2 : decide ((0 : Int) < (k : Int) + 1) = true := decide_eq_true (by omega)
        have j3 : (0 : Int) ≤ (k : Int) := by omega
        have j4 : (k : Int) < (n : Int) := by omega
        have j6 : ((k : Int) + 1).toNat = k + 1 := by omega
        have j7 : (0 : Int) ≤ (k : Int) + 1 - 1 := by omega
        have j8 : (k : Int) + 1 - 1 < (n : Int) := by omega
        have j9 : ((k : Int) + 1 - 1).toNat = k := by omega
        have WJ2 : IntKind.i64.wrap (k : Int) = (k : Int) := by rw [IntKind.wrap_i64]; omega
        have WJ : IntKind.i64.wrap ((k : Int) + 1 - 1) = (k : Int) := by rw [IntKind.wrap_i64]; omega
        generalize zF z (k + 1) = x at *
        generalize zF z k = p at *
        cases I1 : inB x 0 hb
        · have G := Lib.hid (N1.out I1)
          rw [I1] at W1
          have W1 := Lib.hid W1
          clear I1 N1 YS N2
          go_wp2
          go_quiet (((go_at_call 47; first | (with_reducible exact Calls.quiet_of_same (W1.out _)))))
          go_wp2
          go_ret
          exact IffB.no G.out (below_drewN BA.out _)
        · by_cases hr : x ≤ p
          · have G := Lib.hid (N2.out hr)
            have jr : decide (x ≤ p) = true := decide_eq_true hr
            rw [I1] at W1
            have W1 := Lib.hid W1
            clear I1 N1 YS N2
            go_wp2
            go_quiet (((go_at_call 47; first | (with_reducible exact Calls.quiet_of_same (W1.out _)))))
            go_wp2
            go_ret
            exact IffB.no G.out (below_drewN BA.out _)
          · have G := Lib.hid (YS.out I1 (by omega))
            have jr : decide (x ≤ p) = false := decide_eq_false hr
            rw [I1] at W1
            have W1 := Lib.hid W1
            clear I1 N1 YS N2
            go_wp2
            go_quiet (((go_at_call 47; first | (with_reducible exact Calls.quiet_of_same (W1.out _)))))
            go_wp2
            go_roundw
            case rel => exact ⟨k + 1 + 1, by omega, by go_num, G.out, below_drewN BA.out _⟩
            case measure => simp [intOf]; omega
    · obtain rfl : k = n := by omega
      have G := Lib.hid (show OutH hb z from ⟨by rw [← HN.out]; exact HR.out.2, by rw [← HN.out]; exact HR.out.1⟩)
      clear hw h
      go_wp2
      go_ret
      exact IffB.yes G.out BA.out
end Go.Proofs.Ytdieekgihdikdaa.Ac
