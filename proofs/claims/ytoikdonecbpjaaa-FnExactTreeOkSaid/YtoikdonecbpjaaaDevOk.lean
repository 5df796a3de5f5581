/-
  Whether devices and buckets are valid: the program's functions.
-/
import Derived.Test.YtoikdonecbpjaaaTmath
import Derived.Test.YtoikdonecbpjaaaBkts
import Derived.Test.YtoikdonecbpjaaaWithin
namespace Go.Proofs.Ytoikdonecbpjaaa.Tm
open Go.RowKit Go.Proofs.Ytoikdonecbpjaaa.GfI Go.Proofs.Ytoikdonecbpjaaa.GfS
open Go.Proofs.Ytoikdonecbpjaaa.It (lay chain)
open Go.Proofs.Ytoikdonecbpjaaa.Rc (Recs)
open Go.Proofs.Ytoikdonecbpjaaa.Bk (Bks)
set_option linter.unusedVariables false

/-- A Bool that tells whether P, and memory that was there is as it was. -/
def IffB (P : Prop) (w : World) (e : Ending) (w' : World) : Prop := ∃ b, e = .returned (.bool b) ∧ (b = true ↔ P) ∧ Below w.heap.size w w'
theorem IffB.yes {P : Prop} {w w' : World} (h : P) (b : Below w.heap.size w w') : IffB P w (.returned (.bool true)) w' := ⟨true, rfl, by simp [h], b⟩
theorem IffB.no {P : Prop} {w w' : World} (h : ¬ P) (b : Below w.heap.size w w') : IffB P w (.returned (.bool false)) w' := ⟨false, rfl, by simp [h], b⟩

theorem isWeight (n : Int) (w : World) : Calls Try.prog 85 #[.int .i64 n] w fun e w' => e = .returned (.bool (inB n 0 8)) ∧ w = w' := by
  go_enter Try.func85, Try.ntmps85
  go_wp2_with fail
  refine (Wi.isWithin n 0 8 (by omega) _).mono ?_
  rintro e w1 ⟨rfl, rfl⟩
  go_wp2
  go_ret
  exact ⟨rfl, rfl⟩
theorem isBucketKind (n : Int) (w : World) : Calls Try.prog 71 #[.int .i64 n] w fun e w' => e = .returned (.bool (inB n 1 3)) ∧ w = w' := by
  go_enter Try.func71, Try.ntmps71
  go_wp2_with fail
  refine (Wi.isWithin n 1 3 (by omega) _).mono ?_
  rintro e w1 ⟨rfl, rfl⟩
  go_wp2
  go_ret
  exact ⟨rfl, rfl⟩

/-- The first k devices are in order; z is the last one's number. -/
structure DevK (T : TD) (k : Nat) (z : Int) : Prop where
  each : ∀ i, i < k → 0 ≤ T.df i ∧ T.df i ≤ 15 ∧ 0 ≤ T.dg i ∧ T.dg i ≤ 8
  rise : ∀ i, i + 1 < k → T.df i < T.df (i + 1)
  last : z = if k = 0 then -1 else T.df (k - 1)
theorem DevK.start (T : TD) : DevK T 0 (-1) := ⟨fun i hi => by omega, fun i hi => by omega, rfl⟩
theorem DevK.step {T : TD} {k : Nat} {z : Int} (h : DevK T k z) (h1 : z < T.df k) (h2 : T.df k < 16) (h3 : inB (T.dg k) 0 8 = true) : DevK T (k + 1) (T.df k) := by
  have h3 : 0 ≤ T.dg k ∧ T.dg k ≤ 8 := of_decide_eq_true h3
  have hz := h.last
  have h0 : 0 ≤ T.df k := by
    split at hz
    · omega
    · have := (h.each (k - 1) (by omega)).1; omega
  refine ⟨fun i hi => ?_, fun i hi => ?_, by simp⟩
  · by_cases e : i = k
    · subst e; exact ⟨h0, by omega, h3.1, h3.2⟩
    · exact h.each i (by omega)
  · by_cases e : i + 1 = k
    · rw [if_neg (by omega)] at hz
      rw [e, show i = k - 1 from by omega]; omega
    · exact h.rise i (by omega)
theorem DevK.done {T : TD} {z : Int} (h : DevK T T.dn z) : T.DevOk := ⟨rise_le (fun i hi => ⟨(h.each i hi).1, (h.each i hi).2.1⟩) h.rise, h.each, h.rise⟩
theorem DevK.bad1 {T : TD} {k : Nat} {z : Int} (h : DevK T k z) (hk : k < T.dn) (h1 : T.df k ≤ z) : ¬ T.DevOk := by
  intro d
  have hz := h.last
  split at hz
  · have := (d.each k hk).1; omega
  · have := d.rise (k - 1) (by omega); rw [show k - 1 + 1 = k from by omega] at this; omega

set_option maxRecDepth 100000 in
set_option maxHeartbeats 1000000 in
theorem devicesOk (T : TD) (a : Option Addr) (cap : Nat) (w : World) (hl : T.dn ≤ 2097152) (ha : Recs w a T.dn T.df T.dg) :
    Calls Try.prog 103 #[.slice a T.dn cap] w (IffB T.DevOk w) := by
  obtain ⟨n, hn⟩ : ∃ n, n = T.dn := ⟨_, rfl⟩
  rw [← hn] at hl ha ⊢
  have HN := Lib.hid hn
  clear hn
  go_enter Try.func103, Try.ntmps103
  go_wp2
  go_loopw [3, 8] (fun l i wr => ∃ k : Nat, ∃ z : Int, k ≤ n ∧ i = .int .i64 k ∧ l = .int .i64 z ∧ DevK T k z ∧ Below w.heap.size w wr) (fun _ i _ => n - (intOf i).toNat)
  case atStart => exact ⟨0, -1, by omega, rfl, rfl, DevK.start T, Below.refl _ _⟩
  case round =>
    obtain ⟨k, z, hk, rfl, rfl, D, hw⟩ := hrel
    have HW := Lib.hid hw
    by_cases hlt : k < n
    · have ha1 := ha.below hw
      obtain ⟨b, off, rfl, hB, hcc⟩ := ha1.resolve_left (by omega)
      obtain ⟨c0, c1⟩ := hcc k hlt
      have DH := Lib.hid D
      have HK : Hid (k < T.dn) := by show k < T.dn; rw [← HN.out]; exact hlt
      have F1 := Lib.hid (fun (e : T.df k ≤ z) => DH.out.bad1 HK.out e)
      have F2 := Lib.hid (show 16 ≤ T.df k → ¬ T.DevOk from fun e d => by have := (d.each k HK.out).2.1; omega)
      have F3 := Lib.hid (show inB (T.dg k) 0 8 = false → ¬ T.DevOk from fun e d => by have := d.each k HK.out; rw [inB_yes this.2.2.1 this.2.2.2] at e; cases e)
      have F4 := Lib.hid (show z < T.df k → T.df k < 16 → inB (T.dg k) 0 8 = true → DevK T (k + 1) (T.df k) from fun h1 h2 h3 => DH.out.step h1 h2 h3)
      have BA := Lib.hid (show ∀ x, Below w.heap.size w (wr.alloc x) from fun x => HW.out.alloc HW.out.size x)
      clear hcc ha ha1 hw D
      generalize T.df k = x at *
      generalize T.dg k = y at *
      by_cases h1 : x ≤ z
      · have G := Lib.hid (F1.out h1)
        go_wp2
        go_ret
        exact IffB.no G.out (BA.out _)
      · by_cases h2 : 16 ≤ x
        · have G := Lib.hid (F2.out h2)
          go_wp2
          go_ret
          exact IffB.no G.out (BA.out _)
        · cases I : inB y 0 8
          · have G := Lib.hid (F3.out I)
            have W := fun w' => isWeight y w'
            rw [I] at W
            have W := Lib.hid W
            clear I
            go_wp2_with fail
            refine (W.out _).mono ?_
            rintro e w2 ⟨rfl, rfl⟩
            go_wp2
            go_ret
            exact IffB.no G.out (BA.out _)
          · have G := Lib.hid (F4.out (by omega) (by omega) I)
            have W := fun w' => isWeight y w'
            rw [I] at W
            have W := Lib.hid W
            clear I
            go_wp2_with fail
            refine (W.out _).mono ?_
            rintro e w2 ⟨rfl, rfl⟩
            go_wp2
            go_roundw
            case rel => exact ⟨k + 1, x, by omega, by go_num, rfl, G.out, BA.out _⟩
            case measure => simp [intOf]; omega
    · obtain rfl : k = n := by omega
      have G : Hid T.DevOk := by show T.DevOk; rw [HN.out] at D; exact D.done
      clear D hw
      go_wp2
      go_ret
      exact IffB.yes G.out HW.out

/-- The first k buckets are in order; z is the last one's number. -/
structure BktK (T : TD) (k : Nat) (z : Int) : Prop where
  each : ∀ i, i < k → -12 ≤ T.bf i ∧ T.bf i ≤ -1 ∧ 1 ≤ T.bg i ∧ T.bg i ≤ 3 ∧ (T.L i).length ≤ 8
  fall : ∀ i, i + 1 < k → T.bf (i + 1) < T.bf i
  last : z = if k = 0 then 0 else T.bf (k - 1)
theorem BktK.start (T : TD) : BktK T 0 0 := ⟨fun i hi => by omega, fun i hi => by omega, rfl⟩
theorem BktK.step {T : TD} {k : Nat} {z : Int} (h : BktK T k z) (h1 : T.bf k < z) (h2 : -12 ≤ T.bf k) (h3 : inB (T.bg k) 1 3 = true) (h4 : (T.L k).length ≤ 8) : BktK T (k + 1) (T.bf k) := by
  have h3 : 1 ≤ T.bg k ∧ T.bg k ≤ 3 := of_decide_eq_true h3
  have hz := h.last
  have h0 : T.bf k ≤ -1 := by
    split at hz
    · omega
    · have := (h.each (k - 1) (by omega)).2.1; omega
  refine ⟨fun i hi => ?_, fun i hi => ?_, by simp⟩
  · by_cases e : i = k
    · subst e; exact ⟨h2, h0, h3.1, h3.2, h4⟩
    · exact h.each i (by omega)
  · by_cases e : i + 1 = k
    · rw [if_neg (by omega)] at hz
      rw [e, show i = k - 1 from by omega]; omega
    · exact h.fall i (by omega)
theorem BktK.done {T : TD} {z : Int} (h : BktK T T.bn z) : T.BktOk := ⟨fall_le (fun i hi => ⟨(h.each i hi).1, (h.each i hi).2.1⟩) h.fall, h.each, h.fall⟩
theorem BktK.bad1 {T : TD} {k : Nat} {z : Int} (h : BktK T k z) (hk : k < T.bn) (h1 : z ≤ T.bf k) : ¬ T.BktOk := by
  intro d
  have hz := h.last
  split at hz
  · have := (d.each k hk).2.1; omega
  · have := d.fall (k - 1) (by omega); rw [show k - 1 + 1 = k from by omega] at this; omega

set_option maxRecDepth 100000 in
set_option maxHeartbeats 1000000 in
theorem bucketsOk (T : TD) (a : Option Addr) (cap : Nat) (I : Nat → Option Addr) (C : Nat → Nat) (w : World) (hl : T.bn ≤ 2097152) (hL : ∀ i, i < T.bn → (T.L i).length ≤ 2097152) (ha : Bks w a T.bn T.bf T.bg I T.L C) :
    Calls Try.prog 104 #[.slice a T.bn cap] w (IffB T.BktOk w) := by
  obtain ⟨n, hn⟩ : ∃ n, n = T.bn := ⟨_, rfl⟩
  rw [← hn] at hl hL ha ⊢
  have HN := Lib.hid hn
  clear hn
  go_enter Try.func104, Try.ntmps104
  go_wp2
  go_loopw [3, 8] (fun l i wr => ∃ k : Nat, ∃ z : Int, k ≤ n ∧ i = .int .i64 k ∧ l = .int .i64 z ∧ BktK T k z ∧ Below w.heap.size w wr) (fun _ i _ => n - (intOf i).toNat)
  case atStart => exact ⟨0, 0, by omega, rfl, rfl, BktK.start T, Below.refl _ _⟩
  case round =>
    obtain ⟨k, z, hk, rfl, rfl, D, hw⟩ := hrel
    have HW := Lib.hid hw
    by_cases hlt : k < n
    · have ha1 := ha.below hw
      obtain ⟨b, off, rfl, hB, hcc⟩ := ha1.resolve_left (by omega)
      obtain ⟨c0, c1, c2, -⟩ := hcc k hlt
      have z0 := hL k hlt
      have DH := Lib.hid D
      have HK : Hid (k < T.bn) := by show k < T.bn; rw [← HN.out]; exact hlt
      have F1 := Lib.hid (show z ≤ T.bf k → ¬ T.BktOk from fun e => DH.out.bad1 HK.out e)
      have F2 := Lib.hid (show T.bf k < -12 → ¬ T.BktOk from fun e d => by have := (d.each k HK.out).1; omega)
      have F3 := Lib.hid (show inB (T.bg k) 1 3 = false → ¬ T.BktOk from fun e d => by have := d.each k HK.out; rw [inB_yes this.2.2.1 this.2.2.2.1] at e; cases e)
      have F5 := Lib.hid (show 8 < (T.L k).length → ¬ T.BktOk from fun e d => by have := (d.each k HK.out).2.2.2.2; omega)
      have F4 := Lib.hid (show T.bf k < z → -12 ≤ T.bf k → inB (T.bg k) 1 3 = true → (T.L k).length ≤ 8 → BktK T (k + 1) (T.bf k) from fun h1 h2 h3 h4 => DH.out.step h1 h2 h3 h4)
      have BA := Lib.hid (show ∀ x, Below w.heap.size w (wr.alloc x) from fun x => HW.out.alloc HW.out.size x)
      clear hcc ha ha1 hw D hL
      generalize T.bf k = x at *
      generalize T.bg k = y at *
      generalize (T.L k).length = m at *
      generalize I k = ik at *
      generalize C k = ck at *
      by_cases h1 : z ≤ x
      · have G := Lib.hid (F1.out h1)
        go_wp2
        go_ret
        exact IffB.no G.out (BA.out _)
      · by_cases h2 : x < -12
        · have G := Lib.hid (F2.out h2)
          go_wp2
          go_ret
          exact IffB.no G.out (BA.out _)
        · cases I : inB y 1 3
          · have G := Lib.hid (F3.out I)
            have W := fun w' => isBucketKind y w'
            rw [I] at W
            have W := Lib.hid W
            clear I
            go_wp2_with fail
            refine (W.out _).mono ?_
            rintro e w2 ⟨rfl, rfl⟩
            go_wp2
            go_ret
            exact IffB.no G.out (BA.out _)
          · by_cases h5 : 8 < m
            · have G := Lib.hid (F5.out h5)
              have W := fun w' => isBucketKind y w'
              rw [I] at W
              have W := Lib.hid W
              clear I
              go_wp2_with fail
              refine (W.out _).mono ?_
              rintro e w2 ⟨rfl, rfl⟩
              go_wp2
              go_ret
              exact IffB.no G.out (BA.out _)
            · have G := Lib.hid (F4.out (by omega) (by omega) I (by omega))
              have W := fun w' => isBucketKind y w'
              rw [I] at W
              have W := Lib.hid W
              clear I
              go_wp2_with fail
              refine (W.out _).mono ?_
              rintro e w2 ⟨rfl, rfl⟩
              go_wp2
              go_roundw
              case rel => exact ⟨k + 1, x, by omega, by go_num, rfl, G.out, BA.out _⟩
              case measure => simp [intOf]; omega
    · obtain rfl : k = n := by omega
      have G : Hid T.BktOk := by show T.BktOk; rw [HN.out] at D; exact D.done
      clear D hw
      go_wp2
      go_ret
      exact IffB.yes G.out HW.out
end Go.Proofs.Ytoikdonecbpjaaa.Tm
