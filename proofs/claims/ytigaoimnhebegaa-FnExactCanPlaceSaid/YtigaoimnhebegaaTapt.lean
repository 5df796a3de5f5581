/-
  Apart: whether the devices of places are in different domains; the program's function.
-/
import Derived.Test.YtigaoimnhebegaaTdom
import Derived.Test.YtigaoimnhebegaaItemsOk
namespace Go.Proofs.Ytigaoimnhebegaa.Tm
open Go.RowKit Go.Proofs.Ytigaoimnhebegaa.GfI Go.Proofs.Ytigaoimnhebegaa.GfS Go.Proofs.Ytigaoimnhebegaa.MixC
open Go.Maps
open Go.Proofs.Ytigaoimnhebegaa.It (lay chain)
open Go.Proofs.Ytigaoimnhebegaa.Bk (Bks tval bval)
open Go.Proofs.Ytigaoimnhebegaa.Sg (BxN)
open Go.Proofs.Ytigaoimnhebegaa.Rc (ownsMap_later wpList_lookup_bool plainElem_bool_inv keys zeroB)
set_option linter.unusedVariables false
set_option linter.unusedSimpArgs false

/-- A device that is there, in a domain. -/
def gdom (T : TD) (g x : Int) : Prop := T.kd x = 0 ∧ (g = 0 ∨ dom8 T g x ≠ 0)
/-- The first k places: devices in domains, or holes; no two in one. -/
def ApN (T : TD) (g : Int) (z : Nat → Int) (k : Nat) : Prop := ∀ i, i < k → z i ≠ -1 → gdom T g (z i) ∧ ∀ j, j < i → z j ≠ -1 → dom8 T g (z j) ≠ dom8 T g (z i)
theorem ApN.zero (T : TD) (g : Int) (z : Nat → Int) : ApN T g z 0 := fun i hi => absurd hi (Nat.not_lt_zero _)
theorem ApN.hole {T : TD} {g : Int} {z : Nat → Int} {k : Nat} (h : ApN T g z k) (e : z k = -1) : ApN T g z (k + 1) := fun i hi hn => by
  by_cases q : i = k
  · rw [q] at hn; exact absurd e hn
  · exact h i (by omega) hn
theorem ApN.step {T : TD} {g : Int} {z : Nat → Int} {k : Nat} (h : ApN T g z k) (d : gdom T g (z k)) (o : ∀ j, j < k → z j ≠ -1 → dom8 T g (z j) ≠ dom8 T g (z k)) : ApN T g z (k + 1) := fun i hi hn => by
  by_cases q : i = k
  · rw [q]; exact ⟨d, o⟩
  · exact h i (by omega) hn
def dA (T : TD) (g x : Int) : Int := if T.kd x = 0 then dom8 T g x else 0
theorem DomV_no {T : TD} {g x : Int} (h : ¬ gdom T g x) : DomV T g x = .tuple #[.int .i64 (dA T g x), .int .i64 3] := by
  unfold DomV dA dom8 AbvV
  by_cases hk : T.kd x = 0
  · rw [if_pos hk, if_pos hk]
    by_cases hg : g = 0
    · exact absurd ⟨hk, .inl hg⟩ h
    · rw [if_neg hg, if_neg hg]
      have : abv T 5 x g = 0 := Classical.byContradiction fun n => h ⟨hk, .inr (by unfold dom8; rw [if_neg hg]; exact n)⟩
      rw [if_pos this]
  · rw [if_neg hk, if_neg hk]; rfl
theorem DomV_yes {T : TD} {g x : Int} (h : gdom T g x) : DomV T g x = .tuple #[.int .i64 (dom8 T g x), .int .i64 0] := by
  obtain ⟨hk, hd⟩ := h
  unfold DomV dom8 AbvV
  rw [if_pos hk]
  by_cases hg : g = 0
  · rw [if_pos hg, if_pos hg]
  · rw [if_neg hg, if_neg hg]
    have : abv T 5 x g ≠ 0 := by rcases hd with e | e; · exact absurd e hg
                                 · unfold dom8 at e; rwa [if_neg hg] at e
    rw [if_neg this]
theorem abv_low (T : TD) (B : T.BktOk) (g : Int) : ∀ (f : Nat) (x : Int), -12 ≤ abv T f x g ∧ abv T f x g ≤ 0
  | 0, x => by unfold abv; omega
  | f + 1, x => by
    cases h : T.par x with
    | none => rw [abv_none h]; omega
    | some j =>
      rw [abv_some h]
      split
      · have := B.each j (parN_some h).1; omega
      · exact abv_low T B g f _
theorem dom8_wf {T : TD} (O : T.Ok) {g x : Int} (h : T.kd x = 0) : -12 ≤ dom8 T g x ∧ dom8 T g x ≤ 15 := by
  unfold dom8
  split
  · rcases T.kd_cases x with ⟨i, hi, e, _⟩ | ⟨_, j, hj, _, e⟩ | ⟨_, _, e⟩
    · have := O.dev.each i hi; omega
    · have := (O.bkt.each j hj).2.2.1; omega
    · omega
  · have := abv_low T O.bkt g 5 x; omega
/-- The map of the domains met in the first k places. -/
def MetH (T : TD) (g : Int) (z : Nat → Int) : Nat → DataW Unit
  | 0 => .map []
  | k + 1 => if z k = -1 then MetH T g z k else (MetH T g z k).put (.int .i64 (dom8 T g (z k))) (.lit (.bool true))
theorem metH_isMap (T : TD) (g : Int) (z : Nat → Int) : ∀ k, IsMap (MetH T g z k)
  | 0 => isMap_empty
  | k + 1 => by
    unfold MetH
    split
    · exact metH_isMap T g z k
    · exact (metH_isMap T g z k).put _ _
theorem metH_hole {T : TD} {g : Int} {z : Nat → Int} {k : Nat} (h : z k = -1) : MetH T g z (k + 1) = MetH T g z k := by
  conv => lhs; unfold MetH
  rw [if_pos h]
theorem metH_put {T : TD} {g : Int} {z : Nat → Int} {k : Nat} (h : z k ≠ -1) : MetH T g z (k + 1) = (MetH T g z k).put (.int .i64 (dom8 T g (z k))) (.lit (.bool true)) := by
  conv => lhs; unfold MetH
  rw [if_neg h]
theorem metH_at (T : TD) (g : Int) (z : Nat → Int) (x : Int) : ∀ k, (MetH T g z k).atKey (.int .i64 x) (.lit (.bool false)) = .lit (.bool (decide (∃ j, j < k ∧ z j ≠ -1 ∧ dom8 T g (z j) = x)))
  | 0 => by
    rw [decide_eq_false (by rintro ⟨j, hj, _⟩; omega)]; rfl
  | k + 1 => by
    by_cases hz : z k = -1
    · rw [metH_hole hz, metH_at T g z x k]
      congr 2
      rw [Bool.eq_iff_iff, decide_eq_true_iff, decide_eq_true_iff]
      constructor
      · rintro ⟨j, hj, h⟩; exact ⟨j, by omega, h⟩
      · rintro ⟨j, hj, h, e⟩
        by_cases q : j = k
        · rw [q] at h; exact absurd hz h
        · exact ⟨j, by omega, h, e⟩
    · rw [metH_put hz]
      by_cases e : dom8 T g (z k) = x
      · rw [decide_eq_true ⟨k, by omega, hz, e⟩, e, atKey_put_same (metH_isMap T g z k) (by trivial)]
      · rw [atKey_put_other (by intro h; cases h; exact e rfl), metH_at T g z x k]
        congr 2
        rw [Bool.eq_iff_iff, decide_eq_true_iff, decide_eq_true_iff]
        constructor
        · rintro ⟨j, hj, h⟩; exact ⟨j, by omega, h⟩
        · rintro ⟨j, hj, h, e'⟩
          by_cases q : j = k
          · rw [q] at e'; exact absurd e' e
          · exact ⟨j, by omega, h, e'⟩
theorem isPlaceCount (n : Int) (w : World) : Calls Try.prog 156 #[.int .i64 n] w fun e w' => e = .returned (.bool (inB n 0 7)) ∧ w = w' := by
  go_enter Try.func156, Try.ntmps156
  go_wp2_with fail
  refine (Wi.isWithin n 0 7 (by omega) _).mono ?_
  rintro e w1 ⟨rfl, rfl⟩
  go_wp2
  go_ret
  exact ⟨rfl, rfl⟩
def zF (z : List Int) (i : Nat) : Int := z.getD i 0
/-- What Apart says. -/
def AptP (T : TD) (g : Int) (z : List Int) : Prop := T.Ok ∧ inB g 0 2 = true ∧ z.length ≤ 7 ∧ ApN T g (zF z) z.length

end Go.Proofs.Ytigaoimnhebegaa.Tm

/-
  Lists of devices that are out: the program's check and the model's; whether a number stands in a list.
-/
namespace Go.Proofs.Ytigaoimnhebegaa.Tm
open Go.RowKit Go.Proofs.Ytigaoimnhebegaa.GfI Go.Proofs.Ytigaoimnhebegaa.GfS Go.Proofs.Ytigaoimnhebegaa.MixC
open Go.Proofs.Ytigaoimnhebegaa.It (lay chain)
set_option linter.unusedVariables false
set_option linter.unusedSimpArgs false

def RisN (z : Nat → Int) (n : Nat) : Prop := ∀ i, i + 1 < n → z i < z (i + 1)
theorem RisN.step {z : Nat → Int} {k : Nat} (h : RisN z (k + 1)) (d : z k < z (k + 1)) : RisN z (k + 1 + 1) := fun i hi => if e : i = k then by rw [e]; exact d else h i (by omega)
def InN (z : Nat → Int) (n : Nat) : Prop := ∀ i, i < n → inB (z i) 0 15 = true
theorem InN.step {z : Nat → Int} {k : Nat} (h : InN z k) (d : inB (z k) 0 15 = true) : InN z (k + 1) := fun i hi => if e : i = k then by rw [e]; exact d else h i (by omega)
/-- A list that may list devices that are out. -/
def OutP (z : List Int) : Prop := RisN (zF z) z.length ∧ InN (zF z) z.length

set_option maxRecDepth 100000 in
theorem isRising (a : Option Addr) (cap : Nat) (z : List Int) (w : World) (hz : z.length ≤ 2097152) (h : Words w a z) :
    Calls Try.prog 132 #[.slice a z.length cap] w (IffB (RisN (zF z) z.length) w) := by
  obtain ⟨n, hn⟩ : ∃ n, n = z.length := ⟨_, rfl⟩
  have HN := Lib.hid hn
  rw [← hn] at hz ⊢
  clear hn
  go_enter Try.func132, Try.ntmps132
  go_wp2
  go_loopw [3] (fun i wr => ∃ k q : Nat, (k + 1 ≤ n ∨ k = 0) ∧ i = .int .i64 (k + 1 : Nat) ∧ RisN (zF z) (k + 1) ∧ wr = w.drewN q) (fun i _ => n + 1 - (intOf i).toNat)
  case atStart => exact ⟨0, 0, by omega, rfl, fun i hi => by omega, rfl⟩
  case round =>
    obtain ⟨k, q, hkn, rfl, R, hw⟩ := hrel
    have HR := Lib.hid R
    have BW := Lib.hid (show Below w.heap.size w wr by rw [hw]; exact below_drewN (Below.refl _ _) q)
    have HW := Lib.hid hw
    clear R hw
    by_cases hlt : k + 1 < n
    · have hkz : k + 1 < z.length := by rw [← HN.out]; exact hlt
      obtain ⟨b1, o1, rfl, hB, hc⟩ := (h.below BW.out).resolve_left (by intro e; rw [e] at hkz; simp at hkz)
      have c0 := hc (k + 1) hkz
      have c1 := hc k (by omega)
      have z0 : zF z (k + 1) = z.getD (k + 1) 0 := rfl
      have z1 : zF z k = z.getD k 0 := rfl
      rw [← z0] at c0
      rw [← z1] at c1
      have j0 : (0 : Int) ≤ (k : Int) := by omega
      have j1 : (k : Int) < (n : Int) := by omega
      have WK : IntKind.i64.wrap (((k + 1 : Nat) : Int) - 1) = (k : Int) := by rw [IntKind.wrap_i64]; omega
      have k0 : (0 : Int) ≤ ((k + 1 : Nat) : Int) := by omega
      have k1 : ((k + 1 : Nat) : Int) < (n : Int) := by omega
      clear hc z0 z1
      by_cases hq : zF z k < zF z (k + 1)
      · have P := Lib.hid (HR.out.step hq)
        generalize zF z (k + 1) = y at *
        generalize zF z k = x at *
        clear HR h
        go_wp2
        go_quiet (fail)
        go_wp2
        go_roundw
        case rel => exact ⟨k + 1, q + nq, by omega, by go_num, P.out, by rw [HW.out, World.drewN_drewN]⟩
        case measure => simp [intOf]; omega
      · have P := Lib.hid (show ¬ RisN (zF z) n from fun h => hq (h k hlt))
        generalize zF z (k + 1) = y at *
        generalize zF z k = x at *
        clear HR h
        go_wp2
        go_quiet (fail)
        go_wp2
        go_ret
        exact IffB.no P.out (below_drewN BW.out _)
    · have P := Lib.hid (show RisN (zF z) n from fun i hi => HR.out i (by omega))
      clear HR h
      go_wp2
      go_ret
      exact IffB.yes P.out BW.out
/-- The first number that is not within, or none. -/
def IdxR (z : Nat → Int) (n : Nat) (w : World) (e : Ending) (w' : World) : Prop := ∃ i : Int, e = .returned (.int .i64 i) ∧ w = w' ∧ ((0 ≤ i ∧ ¬ InN z n) ∨ (i = -1 ∧ InN z n))
def IffS (P : Prop) (w : World) (e : Ending) (w' : World) : Prop := ∃ b, e = .returned (.bool b) ∧ (b = true ↔ P) ∧ w = w'
/-- The first k numbers are within, and rise. -/
def RsK (z : Nat → Int) (k : Nat) : Prop := InN z k ∧ RisN z k
set_option maxRecDepth 100000 in
set_option maxHeartbeats 2000000 in
theorem l00Rises (a : Option Addr) (cap : Nat) (z : List Int) (w : World) (hz : z.length ≤ 2097152) (h : Words w a z) :
    Calls Try.prog 61 #[.slice a z.length cap, .int .i64 0, .int .i64 15] w (IffB (OutP z) w) := by
  obtain ⟨n, hn⟩ : ∃ n, n = z.length := ⟨_, rfl⟩
  have HN := Lib.hid hn
  rw [← hn] at hz ⊢
  clear hn
  go_enter Try.func61, Try.ntmps61
  go_wp2
  go_loopw [7] (fun i wr => ∃ k : Nat, k ≤ n ∧ i = .int .i64 k ∧ RsK (zF z) k ∧ Below w.heap.size w wr) (fun i _ => n - (intOf i).toNat)
  case atStart => exact ⟨0, by omega, rfl, ⟨fun i hi => by omega, fun i hi => by omega⟩, Below.refl _ _⟩
  case round =>
    obtain ⟨k, hk, rfl, R, hw⟩ := hrel
    have HR := Lib.hid R
    have BA := Lib.hid hw
    clear R
    by_cases hlt : k < n
    · have hkz : k < z.length := by rw [← HN.out]; exact hlt
      obtain ⟨b, off, rfl, hB, hc⟩ := (h.below hw).resolve_left (by intro e; rw [e] at hkz; simp at hkz)
      have c0 := hc k hkz
      have W1 := fun w' => (l00In (zF z k) 0 15 w').mono (fun e v q => show e = .returned (.bool (inB (zF z k) 0 15)) ∧ v = w' from ⟨q.1, q.2.symm⟩)
      have HC := Lib.hid hc
      have NO := Lib.hid (show ¬ RsK (zF z) (k + 1) → ¬ OutP z from fun r p => r ⟨fun i hi => p.2 i (by omega), fun i hi => p.1 i (by omega)⟩)
      clear hc hw h
      rcases k with _ | k
      · rw [show z.getD 0 0 = zF z 0 from rfl, Nat.add_zero] at c0
        have YS := Lib.hid (fun (e : inB (zF z 0) 0 15 = true) => show RsK (zF z) (0 + 1) from ⟨fun i hi => by rw [show i = 0 by omega]; exact e, fun i hi => by omega⟩)
        have N1 := Lib.hid (fun (e : inB (zF z 0) 0 15 = false) => NO.out (fun r => by have := r.1 0 (by omega); rw [e] at this; cases this))
        clear HC NO HR
        generalize zF z 0 = x at *
        cases I1 : inB x 0 15
        · have G := Lib.hid (N1.out I1)
          rw [I1] at W1
          have W1 := Lib.hid W1
          clear I1 N1 YS
          go_wp2
          go_quiet (((go_at_call 104; first | (with_reducible exact Calls.quiet_of_same (W1.out _)))))
          go_wp2
          go_ret
          exact IffB.no G.out (below_drewN BA.out _)
        · have G := Lib.hid (YS.out I1)
          rw [I1] at W1
          have W1 := Lib.hid W1
          clear I1 N1 YS
          go_wp2
          go_quiet (((go_at_call 104; first | (with_reducible exact Calls.quiet_of_same (W1.out _)))))
          go_wp2
          go_roundw
          case rel => exact ⟨0 + 1, by omega, by go_num, G.out, below_drewN BA.out _⟩
          case measure => simp [intOf]; omega
      · have e0 := HC.out k (by omega)
        rw [show z.getD (k + 1) 0 = zF z (k + 1) from rfl] at c0
        rw [show z.getD k 0 = zF z k from rfl] at e0
        have YS := Lib.hid (fun (e : inB (zF z (k + 1)) 0 15 = true) (d : zF z k < zF z (k + 1)) => show RsK (zF z) (k + 1 + 1) from ⟨HR.out.1.step e, HR.out.2.step d⟩)
        have N1 := Lib.hid (fun (e : inB (zF z (k + 1)) 0 15 = false) => NO.out (fun r => by have := r.1 (k + 1) (by omega); rw [e] at this; cases this))
        have N2 := Lib.hid (fun (e : zF z (k + 1) ≤ zF z k) => NO.out (fun r => by have := r.2 k (by omega); omega))
        clear HC NO HR
        have j0 : (0 : Int) ≤ (k : Int) + 1 := by omega
        have j1 : (k : Int) + 1 < (n : Int) := by omega
        have j2 : decide ((0 : Int) < (k : Int) + 1) = true := decide_eq_true (by omega)
        have j3 : (0 : Int) ≤ (k : Int) := by omega
        have j4 : (k : Int) < (n : Int) := by omega
        have j6 : ((k : Int) + 1).toNat = k + 1 := by omega
        have j7 : (0 : Int) ≤ (k : Int) + 1 - 1 := by omega
        have j8 : (k : Int) + 1 - 1 < (n : Int) := by omega
        have j9 : ((k : Int) + 1 - 1).toNat = k := by omega
        have WJ2 : IntKind.i64.wrap (k : Int) = (k : Int) := by rw [IntKind.wrap_i64]; omega
        have WJ : IntKind.i64.wrap ((k : Int) + 1 - 1) = (k : Int) := by rw [IntKind.wrap_i64]; omega
        generalize zF z (k + 1) = x at *
        generalize zF z k = p at *
        cases I1 : inB x 0 15
        · have G := Lib.hid (N1.out I1)
          rw [I1] at W1
          have W1 := Lib.hid W1
          clear I1 N1 YS N2
          go_wp2
          go_quiet (((go_at_call 104; first | (with_reducible exact Calls.quiet_of_same (W1.out _)))))
          go_wp2
          go_ret
          exact IffB.no G.out (below_drewN BA.out _)
        · by_cases hr : x ≤ p
          · have G := Lib.hid (N2.out hr)
            have jr : decide (x ≤ p) = true := decide_eq_true hr
            rw [I1] at W1
            have W1 := Lib.hid W1
            clear I1 N1 YS N2
            go_wp2
            go_quiet (((go_at_call 104; first | (with_reducible exact Calls.quiet_of_same (W1.out _)))))
            go_wp2
            go_ret
            exact IffB.no G.out (below_drewN BA.out _)
          · have G := Lib.hid (YS.out I1 (by omega))
            have jr : decide (x ≤ p) = false := decide_eq_false hr
            rw [I1] at W1
            have W1 := Lib.hid W1
            clear I1 N1 YS N2
            go_wp2
            go_quiet (((go_at_call 104; first | (with_reducible exact Calls.quiet_of_same (W1.out _)))))
            go_wp2
            go_roundw
            case rel => exact ⟨k + 1 + 1, by omega, by go_num, G.out, below_drewN BA.out _⟩
            case measure => simp [intOf]; omega
    · obtain rfl : k = n := by omega
      have G := Lib.hid (show OutP z from ⟨by rw [← HN.out]; exact HR.out.2, by rw [← HN.out]; exact HR.out.1⟩)
      clear hw h
      go_wp2
      go_ret
      exact IffB.yes G.out BA.out
/-- Whether a number stands in a list, by the library. -/
def IdxH (x : Int) (z : List Int) (w : World) (e : Ending) (w' : World) : Prop := ∃ i : Int, e = .returned (.int .i64 i) ∧ w = w' ∧ ((0 ≤ i ∧ x ∈ z) ∨ (i = -1 ∧ x ∉ z))
set_option maxRecDepth 100000 in
theorem slicesIndex (a : Option Addr) (cap : Nat) (z : List Int) (x : Int) (w : World) (hz : z.length ≤ 2097152) (h : Words w a z) :
    Calls Try.prog 114 #[.slice a z.length cap, .int .i64 x] w (IdxH x z w) := by
  obtain ⟨n, hn⟩ : ∃ n, n = z.length := ⟨_, rfl⟩
  have HN := Lib.hid hn
  rw [← hn] at hz ⊢
  clear hn
  go_enter Try.func114, Try.ntmps114
  go_wp2
  go_loop [8] (fun i => ∃ k : Nat, k ≤ n ∧ i = .int .i64 k ∧ x ∉ z.take k) (fun i => n - (intOf i).toNat)
  case atStart => exact ⟨0, by omega, rfl, by simp⟩
  case round =>
    obtain ⟨k, hk, rfl, N⟩ := hrel
    have NH := Lib.hid N
    clear N
    by_cases hlt : k < n
    · have hkz : k < z.length := by rw [← HN.out]; exact hlt
      obtain ⟨b, off, rfl, hB, hcc⟩ := h.resolve_left (by intro e; rw [e] at hkz; simp at hkz)
      have c0 := hcc k hkz
      have HK := Lib.hid hkz
      clear hcc h
      by_cases q : z.getD k 0 = x
      · have R := Lib.hid (show x ∈ z from by rw [← q]; exact getD_mem HK.out)
        generalize z.getD k 0 = y at *
        subst q
        go_wp2
        go_ret
        exact ⟨_, rfl, rfl, .inl ⟨by omega, R.out⟩⟩
      · have N2 := Lib.hid (mem_take_succ HK.out NH.out q)
        generalize z.getD k 0 = y at *
        have q' : (x == y) = false := by simpa using fun e => q e.symm
        clear q
        go_wp2
        go_round
        case rel => exact ⟨k + 1, by omega, by go_num, N2.out⟩
        case measure => simp [intOf]; omega
    · obtain rfl : k = n := by omega
      have R := Lib.hid (show x ∉ z from by have := NH.out; rw [HN.out, List.take_length] at this; exact this)
      clear h
      go_wp2
      go_ret
      exact ⟨_, rfl, rfl, .inr ⟨rfl, R.out⟩⟩
set_option maxRecDepth 100000 in
theorem slicesContains (a : Option Addr) (cap : Nat) (z : List Int) (x : Int) (w : World) (hz : z.length ≤ 2097152) (h : Words w a z) :
    Calls Try.prog 138 #[.slice a z.length cap, .int .i64 x] w (HasB x z w) := by
  have I := Lib.hid (slicesIndex a cap z x w hz h)
  clear h
  go_enter Try.func138, Try.ntmps138
  go_wp2_with fail
  refine I.out.mono ?_
  rintro e w1 ⟨i, rfl, rfl, ⟨h0, N⟩ | ⟨rfl, Y⟩⟩
  · have h' : decide (0 ≤ i) = true := decide_eq_true h0
    have N := Lib.hid N
    go_wp2
    go_ret
    exact ⟨by rw [decide_eq_true N.out]; rfl, rfl⟩
  · have Y := Lib.hid Y
    go_wp2
    go_ret
    exact ⟨by rw [decide_eq_false Y.out]; rfl, rfl⟩
end Go.Proofs.Ytigaoimnhebegaa.Tm
