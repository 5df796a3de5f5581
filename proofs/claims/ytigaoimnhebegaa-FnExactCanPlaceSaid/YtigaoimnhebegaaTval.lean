/-
  Trees as plain data: devices (numbers and weights), buckets (numbers, kinds, lists of numbers); which are valid. No program.
-/
import Derived.Test.YtigaoimnhebegaaBkts
import Derived.Test.YtigaoimnhebegaaWithin
import Derived.Test.YtigaoimnhebegaaTre
import Derived.IntWalk
import Derived.Test.YtigaoimnhebegaaMatRes2
import Derived.Deep.RegionHeld3
namespace Go.Proofs.Ytigaoimnhebegaa.Tm
set_option linter.unusedVariables false

/-- The first place of x. -/
def ix (f : Nat → Int) (x : Int) : Nat → Option Nat
  | 0 => none
  | n + 1 => match ix f x n with
    | some i => some i
    | none => if f n = x then some n else none
theorem ix_none {f : Nat → Int} {x : Int} : ∀ {n : Nat}, ix f x n = none ↔ ∀ j, j < n → f j ≠ x
  | 0 => by simp [ix]
  | n + 1 => by
    unfold ix
    have IH := @ix_none f x n
    cases h : ix f x n with
    | some i =>
      simp only [reduceCtorEq, false_iff]
      intro H
      have := IH.2 (fun j hj => H j (by omega))
      rw [h] at this; cases this
    | none =>
      have h0 := IH.1 h
      dsimp only
      split
      · rename_i e
        simp only [reduceCtorEq, false_iff]
        intro H; exact H n (by omega) e
      · rename_i e
        simp only [true_iff]
        intro j hj
        by_cases q : j = n
        · subst q; exact e
        · exact h0 j (by omega)
theorem ix_some {f : Nat → Int} {x : Int} : ∀ {n i : Nat}, ix f x n = some i → i < n ∧ f i = x ∧ ∀ j, j < i → f j ≠ x
  | 0, i, h => by simp [ix] at h
  | n + 1, i, h => by
    unfold ix at h
    cases q : ix f x n with
    | some k =>
      rw [q] at h
      obtain rfl : k = i := by simpa using h
      obtain ⟨a, b, c⟩ := ix_some q
      exact ⟨by omega, b, c⟩
    | none =>
      rw [q] at h
      dsimp only at h
      split at h
      · rename_i e
        obtain rfl : n = i := by simpa using h
        exact ⟨by omega, e, ix_none.1 q⟩
      · cases h
theorem ix_mono {f : Nat → Int} {x : Int} {n m i : Nat} (h : ix f x n = some i) (hm : n ≤ m) : ix f x m = some i := by
  obtain ⟨d, rfl⟩ : ∃ d, m = n + d := ⟨m - n, by omega⟩
  clear hm
  induction d with
  | zero => exact h
  | succ d ih => show ix f x (n + d + 1) = _; unfold ix; rw [ih]
theorem ix_at {f : Nat → Int} {n i : Nat} (hi : i < n) (inj : ∀ j, j < i → f j ≠ f i) : ix f (f i) n = some i := by
  have h1 : ix f (f i) (i + 1) = some i := by
    unfold ix
    rw [ix_none.2 inj]
    simp
  exact ix_mono h1 (by omega)
/-- The place as a number, -1 of none. -/
def ixI (f : Nat → Int) (x : Int) (n : Nat) : Int := match ix f x n with
  | some i => (i : Int)
  | none => -1

/-- The data of a tree. -/
structure TD where
  dn : Nat
  df : Nat → Int
  dg : Nat → Int
  bn : Nat
  bf : Nat → Int
  bg : Nat → Int
  L : Nat → List Int
variable (T : TD)
/-- What kind of thing x is: 0 a device, 1 to 3 a bucket, -1 nothing. -/
def TD.kd (x : Int) : Int := match ix T.df x T.dn with
  | some _ => 0
  | none => match ix T.bf x T.bn with
    | some j => T.bg j
    | none => -1
structure TD.DevOk : Prop where
  n : T.dn ≤ 16
  each : ∀ i, i < T.dn → 0 ≤ T.df i ∧ T.df i ≤ 15 ∧ 0 ≤ T.dg i ∧ T.dg i ≤ 8
  rise : ∀ i, i + 1 < T.dn → T.df i < T.df (i + 1)
structure TD.BktOk : Prop where
  n : T.bn ≤ 12
  each : ∀ i, i < T.bn → -12 ≤ T.bf i ∧ T.bf i ≤ -1 ∧ 1 ≤ T.bg i ∧ T.bg i ≤ 3 ∧ (T.L i).length ≤ 8
  fall : ∀ i, i + 1 < T.bn → T.bf (i + 1) < T.bf i
/-- An item of a bucket of kind g that may be there; f is the bucket's first item. -/
def mayBe (g k f : Int) : Prop := (k = g - 1 ∨ g = 3 ∧ k = 1) ∧ k = f
def TD.Fit1 (j : Nat) : Prop := ∀ (i : Nat) (x : Int), (T.L j)[i]? = some x → mayBe (T.bg j) (T.kd x) (T.kd ((T.L j).getD 0 0))
/-- Nothing stands in two buckets, or twice in one. -/
structure TD.Once : Prop where
  one : ∀ j, j < T.bn → (T.L j).Nodup
  two : ∀ j k, j < k → k < T.bn → ∀ x, x ∈ T.L j → x ∈ T.L k → False
structure TD.Ok : Prop where
  dev : T.DevOk
  bkt : T.BktOk
  once : T.Once
  fit : ∀ j, j < T.bn → T.Fit1 j
variable {T : TD}
theorem TD.DevOk.lt (h : T.DevOk) {i : Nat} : ∀ {j : Nat}, i < j → j < T.dn → T.df i < T.df j
  | 0, hij, _ => by omega
  | j + 1, hij, hj => by
    have h1 := h.rise j hj
    by_cases e : i = j
    · subst e; exact h1
    · have := h.lt (i := i) (j := j) (by omega) (by omega); omega
theorem TD.BktOk.lt (h : T.BktOk) {i : Nat} : ∀ {j : Nat}, i < j → j < T.bn → T.bf j < T.bf i
  | 0, hij, _ => by omega
  | j + 1, hij, hj => by
    have h1 := h.fall j hj
    by_cases e : i = j
    · subst e; exact h1
    · have := h.lt (i := i) (j := j) (by omega) (by omega); omega
/-- Rising numbers from 0 to 15 are 16 at most. -/
theorem rise_le {f : Nat → Int} {n : Nat} (h0 : ∀ i, i < n → 0 ≤ f i ∧ f i ≤ 15) (hr : ∀ i, i + 1 < n → f i < f (i + 1)) : n ≤ 16 := by
  have key : ∀ i, i < n → (i : Int) ≤ f i := by
    intro i
    induction i with
    | zero => intro hi; exact (h0 0 hi).1
    | succ i ih => intro hi; have := ih (by omega); have := hr i hi; omega
  rcases Nat.eq_zero_or_pos n with e | e
  · omega
  · have := key (n - 1) (by omega); have := (h0 (n - 1) (by omega)).2; omega
theorem fall_le {f : Nat → Int} {n : Nat} (h0 : ∀ i, i < n → -12 ≤ f i ∧ f i ≤ -1) (hr : ∀ i, i + 1 < n → f (i + 1) < f i) : n ≤ 12 := by
  have key : ∀ i : Nat, i < n → f i ≤ -1 - (i : Int) := by
    intro i
    induction i with
    | zero => intro hi; have := (h0 0 hi).2; omega
    | succ i ih => intro hi; have := ih (by omega); have := hr i hi; omega
  rcases Nat.eq_zero_or_pos n with e | e
  · omega
  · have := key (n - 1) (by omega); have := (h0 (n - 1) (by omega)).1; omega
theorem TD.kd_dev (h : T.DevOk) {i : Nat} (hi : i < T.dn) : T.kd (T.df i) = 0 := by
  unfold TD.kd
  rw [ix_at hi (fun j hj e => by have := h.lt hj hi; omega)]
theorem TD.kd_bkt (h : T.DevOk) (g : T.BktOk) {j : Nat} (hj : j < T.bn) : T.kd (T.bf j) = T.bg j := by
  unfold TD.kd
  rw [ix_none.2 (fun i hi e => by have := (h.each i hi).1; have := (g.each j hj).2.1; omega)]
  dsimp only
  rw [ix_at hj (fun j' hj' e => by have := g.lt hj' hj; omega)]
theorem TD.kd_cases (x : Int) : (∃ i, i < T.dn ∧ T.df i = x ∧ T.kd x = 0) ∨ ((∀ i, i < T.dn → T.df i ≠ x) ∧ ∃ j, j < T.bn ∧ T.bf j = x ∧ T.kd x = T.bg j) ∨ ((∀ i, i < T.dn → T.df i ≠ x) ∧ (∀ j, j < T.bn → T.bf j ≠ x) ∧ T.kd x = -1) := by
  unfold TD.kd
  cases q : ix T.df x T.dn with
  | some i => obtain ⟨a, b, _⟩ := ix_some q; exact .inl ⟨i, a, b, rfl⟩
  | none =>
    cases r : ix T.bf x T.bn with
    | some j => obtain ⟨a, b, _⟩ := ix_some r; exact .inr (.inl ⟨ix_none.1 q, j, a, b, rfl⟩)
    | none => exact .inr (.inr ⟨ix_none.1 q, ix_none.1 r, rfl⟩)
end Go.Proofs.Ytigaoimnhebegaa.Tm

/-
  Whether devices and buckets are valid: the program's functions.
-/
namespace Go.Proofs.Ytigaoimnhebegaa.Tm
open Go.RowKit Go.Proofs.Ytigaoimnhebegaa.GfI Go.Proofs.Ytigaoimnhebegaa.GfS
open Go.Proofs.Ytigaoimnhebegaa.It (lay chain)
open Go.Proofs.Ytigaoimnhebegaa.Rc (Recs)
open Go.Proofs.Ytigaoimnhebegaa.Bk (Bks)
set_option linter.unusedVariables false

/-- A Bool that tells whether P, and memory that was there is as it was. -/
def IffB (P : Prop) (w : World) (e : Ending) (w' : World) : Prop := ∃ b, e = .returned (.bool b) ∧ (b = true ↔ P) ∧ Below w.heap.size w w'
theorem IffB.yes {P : Prop} {w w' : World} (h : P) (b : Below w.heap.size w w') : IffB P w (.returned (.bool true)) w' := ⟨true, rfl, by simp [h], b⟩
theorem IffB.no {P : Prop} {w w' : World} (h : ¬ P) (b : Below w.heap.size w w') : IffB P w (.returned (.bool false)) w' := ⟨false, rfl, by simp [h], b⟩

theorem isWeight (n : Int) (w : World) : Calls Try.prog 106 #[.int .i64 n] w fun e w' => e = .returned (.bool (inB n 0 8)) ∧ w = w' := by
  go_enter Try.func106, Try.ntmps106
  go_wp2_with fail
  refine (Wi.isWithin n 0 8 (by omega) _).mono ?_
  rintro e w1 ⟨rfl, rfl⟩
  go_wp2
  go_ret
  exact ⟨rfl, rfl⟩
theorem isBucketKind (n : Int) (w : World) : Calls Try.prog 195 #[.int .i64 n] w fun e w' => e = .returned (.bool (inB n 1 3)) ∧ w = w' := by
  go_enter Try.func195, Try.ntmps195
  go_wp2_with fail
  refine (Wi.isWithin n 1 3 (by omega) _).mono ?_
  rintro e w1 ⟨rfl, rfl⟩
  go_wp2
  go_ret
  exact ⟨rfl, rfl⟩

/-- The first k devices are in order; z is the last one's number. -/
structure DevK (T : TD) (k : Nat) (z : Int) : Prop where
  each : ∀ i, i < k → 0 ≤ T.df i ∧ T.df i ≤ 15 ∧ 0 ≤ T.dg i ∧ T.dg i ≤ 8
  rise : ∀ i, i + 1 < k → T.df i < T.df (i + 1)
  last : z = if k = 0 then -1 else T.df (k - 1)
theorem DevK.start (T : TD) : DevK T 0 (-1) := ⟨fun i hi => by omega, fun i hi => by omega, rfl⟩
theorem DevK.step {T : TD} {k : Nat} {z : Int} (h : DevK T k z) (h1 : z < T.df k) (h2 : T.df k < 16) (h3 : inB (T.dg k) 0 8 = true) : DevK T (k + 1) (T.df k) := by
  have h3 : 0 ≤ T.dg k ∧ T.dg k ≤ 8 := of_decide_eq_true h3
  have hz := h.last
  have h0 : 0 ≤ T.df k := by
    split at hz
    · omega
    · have := (h.each (k - 1) (by omega)).1; omega
  refine ⟨fun i hi => ?_, fun i hi => ?_, by simp⟩
  · by_cases e : i = k
    · subst e; exact ⟨h0, by omega, h3.1, h3.2⟩
    · exact h.each i (by omega)
  · by_cases e : i + 1 = k
    · rw [if_neg (by omega)] at hz
      rw [e, show i = k - 1 from by omega]; omega
    · exact h.rise i (by omega)
theorem DevK.done {T : TD} {z : Int} (h : DevK T T.dn z) : T.DevOk := ⟨rise_le (fun i hi => ⟨(h.each i hi).1, (h.each i hi).2.1⟩) h.rise, h.each, h.rise⟩
theorem DevK.bad1 {T : TD} {k : Nat} {z : Int} (h : DevK T k z) (hk : k < T.dn) (h1 : T.df k ≤ z) : ¬ T.DevOk := by
  intro d
  have hz := h.last
  split at hz
  · have := (d.each k hk).1; omega
  · have := d.rise (k - 1) (by omega); rw [show k - 1 + 1 = k from by omega] at this; omega

set_option maxRecDepth 100000 in
set_option maxHeartbeats 1000000 in
theorem devicesOk (T : TD) (a : Option Addr) (cap : Nat) (w : World) (hl : T.dn ≤ 2097152) (ha : Recs w a T.dn T.df T.dg) :
    Calls Try.prog 175 #[.slice a T.dn cap] w (IffB T.DevOk w) := by
  obtain ⟨n, hn⟩ : ∃ n, n = T.dn := ⟨_, rfl⟩
  rw [← hn] at hl ha ⊢
  have HN := Lib.hid hn
  clear hn
  go_enter Try.func175, Try.ntmps175
  go_wp2
  go_loopw [3, 8] (fun l i wr => ∃ k : Nat, ∃ z : Int, k ≤ n ∧ i = .int .i64 k ∧ l = .int .i64 z ∧ DevK T k z ∧ Below w.heap.size w wr) (fun _ i _ => n - (intOf i).toNat)
  case atStart => exact ⟨0, -1, by omega, rfl, rfl, DevK.start T, Below.refl _ _⟩
  case round =>
    obtain ⟨k, z, hk, rfl, rfl, D, hw⟩ := hrel
    have HW := Lib.hid hw
    by_cases hlt : k < n
    · have ha1 := ha.below hw
      obtain ⟨b, off, rfl, hB, hcc⟩ := ha1.resolve_left (by omega)
      obtain ⟨c0, c1⟩ := hcc k hlt
      have DH := Lib.hid D
      have HK : Hid (k < T.dn) := by show k < T.dn; rw [← HN.out]; exact hlt
      have F1 := Lib.hid (fun (e : T.df k ≤ z) => DH.out.bad1 HK.out e)
      have F2 := Lib.hid (show 16 ≤ T.df k → ¬ T.DevOk from fun e d => by have := (d.each k HK.out).2.1; omega)
      have F3 := Lib.hid (show inB (T.dg k) 0 8 = false → ¬ T.DevOk from fun e d => by have := d.each k HK.out; rw [inB_yes this.2.2.1 this.2.2.2] at e; cases e)
      have F4 := Lib.hid (show z < T.df k → T.df k < 16 → inB (T.dg k) 0 8 = true → DevK T (k + 1) (T.df k) from fun h1 h2 h3 => DH.out.step h1 h2 h3)
      have BA := Lib.hid (show ∀ x, Below w.heap.size w (wr.alloc x) from fun x => HW.out.alloc HW.out.size x)
      clear hcc ha ha1 hw D
      generalize T.df k = x at *
      generalize T.dg k = y at *
      by_cases h1 : x ≤ z
      · have G := Lib.hid (F1.out h1)
        go_wp2
        go_ret
        exact IffB.no G.out (BA.out _)
      · by_cases h2 : 16 ≤ x
        · have G := Lib.hid (F2.out h2)
          go_wp2
          go_ret
          exact IffB.no G.out (BA.out _)
        · cases I : inB y 0 8
          · have G := Lib.hid (F3.out I)
            have W := fun w' => isWeight y w'
            rw [I] at W
            have W := Lib.hid W
            clear I
            go_wp2_with fail
            refine (W.out _).mono ?_
            rintro e w2 ⟨rfl, rfl⟩
            go_wp2
            go_ret
            exact IffB.no G.out (BA.out _)
          · have G := Lib.hid (F4.out (by omega) (by omega) I)
            have W := fun w' => isWeight y w'
            rw [I] at W
            have W := Lib.hid W
            clear I
            go_wp2_with fail
            refine (W.out _).mono ?_
            rintro e w2 ⟨rfl, rfl⟩
            go_wp2
            go_roundw
            case rel => exact ⟨k + 1, x, by omega, by go_num, rfl, G.out, BA.out _⟩
            case measure => simp [intOf]; omega
    · obtain rfl : k = n := by omega
      have G : Hid T.DevOk := by show T.DevOk; rw [HN.out] at D; exact D.done
      clear D hw
      go_wp2
      go_ret
      exact IffB.yes G.out HW.out

/-- The first k buckets are in order; z is the last one's number. -/
structure BktK (T : TD) (k : Nat) (z : Int) : Prop where
  each : ∀ i, i < k → -12 ≤ T.bf i ∧ T.bf i ≤ -1 ∧ 1 ≤ T.bg i ∧ T.bg i ≤ 3 ∧ (T.L i).length ≤ 8
  fall : ∀ i, i + 1 < k → T.bf (i + 1) < T.bf i
  last : z = if k = 0 then 0 else T.bf (k - 1)
theorem BktK.start (T : TD) : BktK T 0 0 := ⟨fun i hi => by omega, fun i hi => by omega, rfl⟩
theorem BktK.step {T : TD} {k : Nat} {z : Int} (h : BktK T k z) (h1 : T.bf k < z) (h2 : -12 ≤ T.bf k) (h3 : inB (T.bg k) 1 3 = true) (h4 : (T.L k).length ≤ 8) : BktK T (k + 1) (T.bf k) := by
  have h3 : 1 ≤ T.bg k ∧ T.bg k ≤ 3 := of_decide_eq_true h3
  have hz := h.last
  have h0 : T.bf k ≤ -1 := by
    split at hz
    · omega
    · have := (h.each (k - 1) (by omega)).2.1; omega
  refine ⟨fun i hi => ?_, fun i hi => ?_, by simp⟩
  · by_cases e : i = k
    · subst e; exact ⟨h2, h0, h3.1, h3.2, h4⟩
    · exact h.each i (by omega)
  · by_cases e : i + 1 = k
    · rw [if_neg (by omega)] at hz
      rw [e, show i = k - 1 from by omega]; omega
    · exact h.fall i (by omega)
theorem BktK.done {T : TD} {z : Int} (h : BktK T T.bn z) : T.BktOk := ⟨fall_le (fun i hi => ⟨(h.each i hi).1, (h.each i hi).2.1⟩) h.fall, h.each, h.fall⟩
theorem BktK.bad1 {T : TD} {k : Nat} {z : Int} (h : BktK T k z) (hk : k < T.bn) (h1 : z ≤ T.bf k) : ¬ T.BktOk := by
  intro d
  have hz := h.last
  split at hz
  · have := (d.each k hk).2.1; omega
  · have := d.fall (k - 1) (by omega); rw [show k - 1 + 1 = k from by omega] at this; omega

set_option maxRecDepth 100000 in
set_option maxHeartbeats 1000000 in
theorem bucketsOk (T : TD) (a : Option Addr) (cap : Nat) (I : Nat → Option Addr) (C : Nat → Nat) (w : World) (hl : T.bn ≤ 2097152) (hL : ∀ i, i < T.bn → (T.L i).length ≤ 2097152) (ha : Bks w a T.bn T.bf T.bg I T.L C) :
    Calls Try.prog 176 #[.slice a T.bn cap] w (IffB T.BktOk w) := by
  obtain ⟨n, hn⟩ : ∃ n, n = T.bn := ⟨_, rfl⟩
  rw [← hn] at hl hL ha ⊢
  have HN := Lib.hid hn
  clear hn
  go_enter Try.func176, Try.ntmps176
  go_wp2
  go_loopw [3, 8] (fun l i wr => ∃ k : Nat, ∃ z : Int, k ≤ n ∧ i = .int .i64 k ∧ l = .int .i64 z ∧ BktK T k z ∧ Below w.heap.size w wr) (fun _ i _ => n - (intOf i).toNat)
  case atStart => exact ⟨0, 0, by omega, rfl, rfl, BktK.start T, Below.refl _ _⟩
  case round =>
    obtain ⟨k, z, hk, rfl, rfl, D, hw⟩ := hrel
    have HW := Lib.hid hw
    by_cases hlt : k < n
    · have ha1 := ha.below hw
      obtain ⟨b, off, rfl, hB, hcc⟩ := ha1.resolve_left (by omega)
      obtain ⟨c0, c1, c2, -⟩ := hcc k hlt
      have z0 := hL k hlt
      have DH := Lib.hid D
      have HK : Hid (k < T.bn) := by show k < T.bn; rw [← HN.out]; exact hlt
      have F1 := Lib.hid (show z ≤ T.bf k → ¬ T.BktOk from fun e => DH.out.bad1 HK.out e)
      have F2 := Lib.hid (show T.bf k < -12 → ¬ T.BktOk from fun e d => by have := (d.each k HK.out).1; omega)
      have F3 := Lib.hid (show inB (T.bg k) 1 3 = false → ¬ T.BktOk from fun e d => by have := d.each k HK.out; rw [inB_yes this.2.2.1 this.2.2.2.1] at e; cases e)
      have F5 := Lib.hid (show 8 < (T.L k).length → ¬ T.BktOk from fun e d => by have := (d.each k HK.out).2.2.2.2; omega)
      have F4 := Lib.hid (show T.bf k < z → -12 ≤ T.bf k → inB (T.bg k) 1 3 = true → (T.L k).length ≤ 8 → BktK T (k + 1) (T.bf k) from fun h1 h2 h3 h4 => DH.out.step h1 h2 h3 h4)
      have BA := Lib.hid (show ∀ x, Below w.heap.size w (wr.alloc x) from fun x => HW.out.alloc HW.out.size x)
      clear hcc ha ha1 hw D hL
      generalize T.bf k = x at *
      generalize T.bg k = y at *
      generalize (T.L k).length = m at *
      generalize I k = ik at *
      generalize C k = ck at *
      by_cases h1 : z ≤ x
      · have G := Lib.hid (F1.out h1)
        go_wp2
        go_ret
        exact IffB.no G.out (BA.out _)
      · by_cases h2 : x < -12
        · have G := Lib.hid (F2.out h2)
          go_wp2
          go_ret
          exact IffB.no G.out (BA.out _)
        · cases I : inB y 1 3
          · have G := Lib.hid (F3.out I)
            have W := fun w' => isBucketKind y w'
            rw [I] at W
            have W := Lib.hid W
            clear I
            go_wp2_with fail
            refine (W.out _).mono ?_
            rintro e w2 ⟨rfl, rfl⟩
            go_wp2
            go_ret
            exact IffB.no G.out (BA.out _)
          · by_cases h5 : 8 < m
            · have G := Lib.hid (F5.out h5)
              have W := fun w' => isBucketKind y w'
              rw [I] at W
              have W := Lib.hid W
              clear I
              go_wp2_with fail
              refine (W.out _).mono ?_
              rintro e w2 ⟨rfl, rfl⟩
              go_wp2
              go_ret
              exact IffB.no G.out (BA.out _)
            · have G := Lib.hid (F4.out (by omega) (by omega) I (by omega))
              have W := fun w' => isBucketKind y w'
              rw [I] at W
              have W := Lib.hid W
              clear I
              go_wp2_with fail
              refine (W.out _).mono ?_
              rintro e w2 ⟨rfl, rfl⟩
              go_wp2
              go_roundw
              case rel => exact ⟨k + 1, x, by omega, by go_num, rfl, G.out, BA.out _⟩
              case measure => simp [intOf]; omega
    · obtain rfl : k = n := by omega
      have G : Hid T.BktOk := by show T.BktOk; rw [HN.out] at D; exact D.done
      clear D hw
      go_wp2
      go_ret
      exact IffB.yes G.out HW.out
end Go.Proofs.Ytigaoimnhebegaa.Tm

/-
  A tree that came in; the model's look-ups in it: the place of a device, of a bucket, the kind of a thing.
-/
namespace Go.Proofs.Ytigaoimnhebegaa.Tm
open Go.RowKit Go.Proofs.Ytigaoimnhebegaa.GfI Go.Proofs.Ytigaoimnhebegaa.GfS Go.Proofs.Ytigaoimnhebegaa.MixC
open Go.Proofs.Ytigaoimnhebegaa.It (lay chain)
open Go.Proofs.Ytigaoimnhebegaa.Rc (Recs)
open Go.Proofs.Ytigaoimnhebegaa.Bk (Bks tval bval)
open Go.Proofs.Ytigaoimnhebegaa.Sg (BxN)
set_option linter.unusedVariables false

theorem ixI_hit {f : Nat → Int} {x : Int} {n k : Nat} (hk : k < n) (h : ∀ j, j < k → f j ≠ x) (e : f k = x) : ixI f x n = k := by
  unfold ixI; rw [← e]; rw [ix_at hk (fun j hj q => h j hj (by rw [q, e]))]
theorem ixI_none {f : Nat → Int} {x : Int} {n : Nat} (h : ∀ j, j < n → f j ≠ x) : ixI f x n = -1 := by
  unfold ixI; rw [ix_none.2 h]

/-- Where a tree lies: the slices' addresses and capacities. -/
structure TA where
  da : Option Addr
  dc : Nat
  ba : Option Addr
  bc : Nat
  I : Nat → Option Addr
  C : Nat → Nat
abbrev TA.val (A : TA) (T : TD) : Value := tval (.slice A.da T.dn A.dc) (.slice A.ba T.bn A.bc)
/-- The tree T lies at A. -/
structure TIn (w : World) (T : TD) (A : TA) : Prop where
  devs : Recs w A.da T.dn T.df T.dg
  bkts : Bks w A.ba T.bn T.bf T.bg A.I T.L A.C
theorem TIn.below {w w' : World} {T : TD} {A : TA} (h : TIn w T A) (b : Below w.heap.size w w') : TIn w' T A := ⟨h.devs.below b, h.bkts.below b⟩
structure TD.Sz (T : TD) : Prop where
  dn : T.dn ≤ 2097152
  bn : T.bn ≤ 2097152
  L : ∀ i, i < T.bn → (T.L i).length ≤ 2097152
def IntB (n : Int) (w : World) (e : Ending) (w' : World) : Prop := e = .returned (.int .i64 n) ∧ Below w.heap.size w w'

set_option maxRecDepth 100000 in
theorem l06Device (T : TD) (A : TA) (x : Int) (w : World) (S : T.Sz) (h : TIn w T A) :
    Calls Try.prog 64 #[A.val T, .int .i64 x] w (IntB (ixI T.df x T.dn) w) := by
  obtain ⟨da, dc, ba, bc, I, C⟩ := A
  have LH := Lib.hid (lay w (.cells #[.slice da T.dn dc, .slice ba T.bn bc] 33))
  have HD := Lib.hid (h.below LH.out).devs
  have hn := S.dn
  have HIT := Lib.hid (fun k => @ixI_hit T.df x T.dn k)
  have NON := Lib.hid (@ixI_none T.df x T.dn)
  clear h S
  show Calls Try.prog 64 #[tval (.slice da T.dn dc) (.slice ba T.bn bc), .int .i64 x] w _
  generalize ixI T.df x T.dn = r at *
  generalize T.dn = n at *
  generalize T.bn = m at *
  go_enter Try.func64, Try.ntmps64
  go_wp2
  go_loop [5] (fun i => ∃ k : Nat, k ≤ n ∧ i = .int .i64 k ∧ ∀ j, j < k → T.df j ≠ x) (fun i => n - (intOf i).toNat)
  case atStart => exact ⟨0, by omega, rfl, fun j hj => by omega⟩
  case round =>
    obtain ⟨k, hk, rfl, N⟩ := hrel
    have NH := Lib.hid N
    clear N
    by_cases hlt : k < n
    · obtain ⟨b, off, rfl, hB, hcc⟩ := HD.out.resolve_left (by omega)
      obtain ⟨c0, c1⟩ := hcc k hlt
      clear hcc
      by_cases q : T.df k = x
      · have R := Lib.hid (HIT.out k hlt NH.out q)
        generalize T.df k = y at *
        subst q
        go_wp2
        go_ret
        rw [R.out]
        exact ⟨rfl, LH.out⟩
      · have N2 := Lib.hid (show ∀ j, j < k + 1 → T.df j ≠ x from fun j hj => if e : j = k then by rw [e]; exact q else NH.out j (by omega))
        generalize T.df k = y at *
        have q' : (y == x) = false := by simpa using q
        clear q
        go_wp2
        go_round
        case rel => exact ⟨k + 1, by omega, by go_num, N2.out⟩
        case measure => simp [intOf]; omega
    · obtain rfl : k = n := by omega
      have R := Lib.hid (NON.out NH.out)
      go_wp2
      go_ret
      rw [R.out]
      exact ⟨rfl, LH.out⟩
set_option maxRecDepth 100000 in
theorem l06Bucket (T : TD) (A : TA) (x : Int) (w : World) (S : T.Sz) (h : TIn w T A) :
    Calls Try.prog 129 #[A.val T, .int .i64 x] w (IntB (ixI T.bf x T.bn) w) := by
  obtain ⟨da, dc, ba, bc, I, C⟩ := A
  have LH := Lib.hid (lay w (.cells #[.slice da T.dn dc, .slice ba T.bn bc] 33))
  have HD := Lib.hid (h.below LH.out).bkts
  have hn := S.bn
  have HIT := Lib.hid (fun k => @ixI_hit T.bf x T.bn k)
  have NON := Lib.hid (@ixI_none T.bf x T.bn)
  clear h S
  show Calls Try.prog 129 #[tval (.slice da T.dn dc) (.slice ba T.bn bc), .int .i64 x] w _
  generalize ixI T.bf x T.bn = r at *
  generalize T.dn = m at *
  generalize T.bn = n at *
  go_enter Try.func129, Try.ntmps129
  go_wp2
  go_loop [5] (fun i => ∃ k : Nat, k ≤ n ∧ i = .int .i64 k ∧ ∀ j, j < k → T.bf j ≠ x) (fun i => n - (intOf i).toNat)
  case atStart => exact ⟨0, by omega, rfl, fun j hj => by omega⟩
  case round =>
    obtain ⟨k, hk, rfl, N⟩ := hrel
    have NH := Lib.hid N
    clear N
    by_cases hlt : k < n
    · obtain ⟨b, off, rfl, hB, hcc⟩ := HD.out.resolve_left (by omega)
      obtain ⟨c0, -, -, -⟩ := hcc k hlt
      clear hcc
      by_cases q : T.bf k = x
      · have R := Lib.hid (HIT.out k hlt NH.out q)
        generalize T.bf k = y at *
        subst q
        go_wp2
        go_ret
        rw [R.out]
        exact ⟨rfl, LH.out⟩
      · have N2 := Lib.hid (show ∀ j, j < k + 1 → T.bf j ≠ x from fun j hj => if e : j = k then by rw [e]; exact q else NH.out j (by omega))
        generalize T.bf k = y at *
        have q' : (y == x) = false := by simpa using q
        clear q
        go_wp2
        go_round
        case rel => exact ⟨k + 1, by omega, by go_num, N2.out⟩
        case measure => simp [intOf]; omega
    · obtain rfl : k = n := by omega
      have R := Lib.hid (NON.out NH.out)
      go_wp2
      go_ret
      rw [R.out]
      exact ⟨rfl, LH.out⟩

theorem kd_dev' {T : TD} {x : Int} {i : Nat} (h : ix T.df x T.dn = some i) : T.kd x = 0 := by unfold TD.kd; rw [h]
theorem kd_bkt' {T : TD} {x : Int} {j : Nat} (h : ix T.df x T.dn = none) (g : ix T.bf x T.bn = some j) : T.kd x = T.bg j := by unfold TD.kd; rw [h]; dsimp only; rw [g]
theorem kd_no' {T : TD} {x : Int} (h : ix T.df x T.dn = none) (g : ix T.bf x T.bn = none) : T.kd x = -1 := by unfold TD.kd; rw [h]; dsimp only; rw [g]
set_option maxRecDepth 100000 in
theorem l06Kind (T : TD) (A : TA) (x : Int) (w : World) (S : T.Sz) (h : TIn w T A) :
    Calls Try.prog 122 #[A.val T, .int .i64 x] w (IntB (T.kd x) w) := by
  have LH := Lib.hid (lay w (.cells #[.slice A.da T.dn A.dc, .slice A.ba T.bn A.bc] 33))
  have X := Lib.hid (BxN.new w #[.slice A.da T.dn A.dc, .slice A.ba T.bn A.bc] 33)
  have CD := fun w' (b : Below w.heap.size w w') => l06Device T A x w' S (h.below b)
  have CB := fun w' (b : Below w.heap.size w w') => l06Bucket T A x w' S (h.below b)
  have hn := S.bn
  have HB := Lib.hid h.bkts
  clear h S
  unfold ixI at CD CB
  obtain ⟨da, dc, ba, bc, I, C⟩ := A
  have E : TA.val ⟨da, dc, ba, bc, I, C⟩ T = tval (.slice da T.dn dc) (.slice ba T.bn bc) := rfl
  rw [E] at CD CB ⊢
  clear E
  cases q : ix T.df x T.dn with
  | some i =>
    rw [q] at CD
    have K := kd_dev' q
    rw [K]
    have CDH := Lib.hid CD
    clear K q CD CB
    generalize T.bn = bn at *
    generalize T.dn = dn at *
    go_enter Try.func122, Try.ntmps122
    go_wp2_with fail
    refine (CDH.out _ LH.out).mono ?_
    rintro e w1 ⟨rfl, b1⟩
    have B1 := Lib.hid (chain LH.out b1)
    have hi : (0 : Int) ≤ (i : Int) := by omega
    clear b1
    go_wp2
    go_ret
    exact ⟨rfl, B1.out⟩
  | none =>
    rw [q] at CD
    cases r : ix T.bf x T.bn with
    | some j =>
      rw [r] at CB
      have K := kd_bkt' q r
      rw [K]
      obtain ⟨hj, -, -⟩ := ix_some r
      have CDH := Lib.hid CD
      have CBH := Lib.hid CB
      clear K q r CD CB
      generalize T.bn = bn at *
      generalize T.dn = dn at *
      have hi : (0 : Int) ≤ (j : Int) := by omega
      have hi2 : (j : Int) < (bn : Int) := by omega
      go_enter Try.func122, Try.ntmps122
      go_wp2_with fail
      refine (CDH.out _ LH.out).mono ?_
      rintro e w1 ⟨rfl, b1⟩
      have B1 := Lib.hid (chain LH.out b1)
      have X1 := Lib.hid (X.out.later b1)
      have x0 := X1.out.cells 0 _ rfl
      have x1 := X1.out.cells 1 _ rfl
      clear b1
      go_wp2_with fail
      refine (CBH.out _ B1.out).mono ?_
      rintro e w2 ⟨rfl, b2⟩
      have B2 := Lib.hid (chain B1.out b2)
      have X2 := Lib.hid (X1.out.later b2)
      have x0 := X2.out.cells 0 _ rfl
      have x1 := X2.out.cells 1 _ rfl
      have hb2 := HB.out.below B2.out
      obtain ⟨b, off, rfl, hB, hcc⟩ := hb2.resolve_left (by omega)
      obtain ⟨-, c1, -, -⟩ := hcc j hj
      clear b2 hcc hb2
      generalize T.bg j = y at *
      go_wp2
      go_ret
      exact ⟨rfl, B2.out⟩
    | none =>
      rw [r] at CB
      have K := kd_no' q r
      rw [K]
      have CDH := Lib.hid CD
      have CBH := Lib.hid CB
      clear K q r CD CB
      generalize T.bn = bn at *
      generalize T.dn = dn at *
      go_enter Try.func122, Try.ntmps122
      go_wp2_with fail
      refine (CDH.out _ LH.out).mono ?_
      rintro e w1 ⟨rfl, b1⟩
      have B1 := Lib.hid (chain LH.out b1)
      have X1 := Lib.hid (X.out.later b1)
      have x0 := X1.out.cells 0 _ rfl
      have x1 := X1.out.cells 1 _ rfl
      clear b1
      go_wp2_with fail
      refine (CBH.out _ B1.out).mono ?_
      rintro e w2 ⟨rfl, b2⟩
      have B2 := Lib.hid (chain B1.out b2)
      clear b2
      go_wp2
      go_ret
      exact ⟨rfl, B2.out⟩
end Go.Proofs.Ytigaoimnhebegaa.Tm

/-
  Whether devices and buckets are valid: the model's functions.
-/
namespace Go.Proofs.Ytigaoimnhebegaa.Tm
open Go.RowKit Go.Proofs.Ytigaoimnhebegaa.GfI Go.Proofs.Ytigaoimnhebegaa.GfS Go.Proofs.Ytigaoimnhebegaa.MixC
open Go.Proofs.Ytigaoimnhebegaa.It (lay chain)
open Go.Proofs.Ytigaoimnhebegaa.Rc (Recs)
open Go.Proofs.Ytigaoimnhebegaa.Bk (Bks tval bval)
open Go.Proofs.Ytigaoimnhebegaa.Sg (BxN)
set_option linter.unusedVariables false

theorem DevK.prev {T : TD} {k : Nat} {z : Int} (h : DevK T (k + 1) z) : z = T.df k := by have := h.last; rw [if_neg (by omega)] at this; simpa using this
theorem BktK.prev {T : TD} {k : Nat} {z : Int} (h : BktK T (k + 1) z) : z = T.bf k := by have := h.last; rw [if_neg (by omega)] at this; simpa using this

set_option maxRecDepth 100000 in
set_option maxHeartbeats 4000000 in
theorem l06Devices (T : TD) (A : TA) (w : World) (S : T.Sz) (h : TIn w T A) :
    Calls Try.prog 118 #[A.val T] w (IffB T.DevOk w) := by
  obtain ⟨da, dc, ba, bc, I, C⟩ := A
  obtain ⟨dn, hdn⟩ : ∃ dn, dn = T.dn := ⟨_, rfl⟩
  obtain ⟨bn, hbn⟩ : ∃ bn, bn = T.bn := ⟨_, rfl⟩
  have LH := Lib.hid (lay w (.cells #[.slice da dn dc, .slice ba bn bc] 33))
  have X := Lib.hid (BxN.new w #[.slice da dn dc, .slice ba bn bc] 33)
  have HD := h.devs
  have hmd : T.dn ≤ 2097152 := S.dn
  have hmb : T.bn ≤ 2097152 := S.bn
  clear h S
  show Calls Try.prog 118 #[tval (.slice da T.dn dc) (.slice ba T.bn bc)] w _
  rw [← hdn] at hmd HD
  rw [← hbn] at hmb
  rw [← hdn, ← hbn]
  have HD := Lib.hid HD
  have HDN := Lib.hid hdn
  have HBN := Lib.hid hbn
  clear hdn hbn
  by_cases hm : dn ≤ 16
  · go_enter Try.func118, Try.ntmps118
    go_wp2
    go_loopw [3] (fun i wr => ∃ k : Nat, ∃ z : Int, k ≤ dn ∧ i = .int .i64 k ∧ DevK T k z ∧ BxN wr w.heap.size [.slice da dn dc, .slice ba bn bc] ∧ Below w.heap.size w wr) (fun i _ => dn - (intOf i).toNat)
    case atStart => exact ⟨0, -1, by omega, rfl, DevK.start T, X.out, LH.out⟩
    case round =>
      obtain ⟨k, z, hk, rfl, D, XR, hw⟩ := hrel
      have HW := Lib.hid hw
      have XH := Lib.hid XR
      have x0 := XR.cells 0 _ rfl
      have x1 := XR.cells 1 _ rfl
      have xlt := XR.lt
      by_cases hlt : k < dn
      · have ha1 := HD.out.below hw
        obtain ⟨b, off, rfl, hB, hcc⟩ := ha1.resolve_left (by omega)
        have DH := Lib.hid D
        have HCC := Lib.hid hcc
        have HBL := Lib.hid hB
        have HK : Hid (k < T.dn) := by show k < T.dn; rw [← HDN.out]; exact hlt
        have F1 := Lib.hid (show inB (T.df k) 0 15 = false → ¬ T.DevOk from fun e d => by have := d.each k HK.out; rw [inB_yes this.1 this.2.1] at e; cases e)
        have F2 := Lib.hid (show inB (T.dg k) 0 8 = false → ¬ T.DevOk from fun e d => by have := d.each k HK.out; rw [inB_yes this.2.2.1 this.2.2.2] at e; cases e)
        have F3 := Lib.hid (show T.df k ≤ z → ¬ T.DevOk from fun e => DH.out.bad1 HK.out e)
        have F4 := Lib.hid (show z < T.df k → inB (T.df k) 0 15 = true → inB (T.dg k) 0 8 = true → DevK T (k + 1) (T.df k) from fun h1 h2 h3 => by have h2 : 0 ≤ T.df k ∧ T.df k ≤ 15 := of_decide_eq_true h2; exact DH.out.step h1 (by omega) h3)
        obtain ⟨c0, c1⟩ := hcc k hlt
        have BA := Lib.hid (show ∀ x, Below w.heap.size w (wr.alloc x) from fun x => HW.out.alloc HW.out.size x)
        have XA := Lib.hid (show ∀ x, BxN (wr.alloc x) w.heap.size [.slice (some ⟨b, off, none⟩) dn dc, .slice ba bn bc] from fun x => XH.out.later (lay wr x))
        have W1 := fun w' => (l00In (T.df k) 0 15 w').mono (fun e v q => show e = .returned (.bool (inB (T.df k) 0 15)) ∧ v = w' from ⟨q.1, q.2.symm⟩)
        have W2 := fun w' => (l00In (T.dg k) 0 8 w').mono (fun e v q => show e = .returned (.bool (inB (T.dg k) 0 8)) ∧ v = w' from ⟨q.1, q.2.symm⟩)
        clear hcc ha1 hw D XR
        rcases k with _ | k
        · clear HCC
          simp only [Nat.zero_mul, Nat.add_zero] at c0 c1
          have LT := Lib.hid (DH.out.last.trans (if_pos rfl))
          generalize T.df 0 = x at *
          generalize T.dg 0 = y at *
          cases I1 : inB x 0 15
          · have G := Lib.hid (F1.out I1)
            rw [I1] at W1
            have W1 := Lib.hid W1
            clear I1 W2
            go_wp2
            go_quiet (((go_at_call 104; first | (with_reducible exact Calls.quiet_of_same (W1.out _)))))
            go_wp2
            go_ret
            exact IffB.no G.out (below_drewN (BA.out _) _)
          · cases I2 : inB y 0 8
            · have G := Lib.hid (F2.out I2)
              rw [I1] at W1
              rw [I2] at W2
              have W1 := Lib.hid W1
              have W2 := Lib.hid W2
              clear I1 I2
              go_wp2
              go_quiet (((go_at_call 104; first | (with_reducible exact Calls.quiet_of_same (W1.out _)) | (with_reducible exact Calls.quiet_of_same (W2.out _)))))
              go_wp2
              go_ret
              exact IffB.no G.out (below_drewN (BA.out _) _)
            · have W1 := Lib.hid (show ∀ w', Calls Try.prog 104 #[.int .i64 x, .int .i64 0, .int .i64 15] w' (fun e v => e = .returned (.bool true) ∧ v = w') from fun w' => by rw [← I1]; exact W1 w')
              have W2 := Lib.hid (show ∀ w', Calls Try.prog 104 #[.int .i64 y, .int .i64 0, .int .i64 8] w' (fun e v => e = .returned (.bool true) ∧ v = w') from fun w' => by rw [← I2]; exact W2 w')
              have G := Lib.hid (F4.out (by have h2 : 0 ≤ x ∧ x ≤ 15 := of_decide_eq_true I1; have := LT.out; omega) I1 I2)
              clear I1 I2
              go_wp2
              go_quiet (((go_at_call 104; first | (with_reducible exact Calls.quiet_of_same (W1.out _)) | (with_reducible exact Calls.quiet_of_same (W2.out _)))))
              go_wp2
              go_roundw
              case rel => exact ⟨0 + 1, x, by omega, by go_num, G.out, (XA.out _).later (below_drewN (Below.refl _ _) _), below_drewN (BA.out _) _⟩
              case measure => simp [intOf]; omega
        · have PV := Lib.hid DH.out.prev
          obtain ⟨e0, -⟩ := HCC.out k (by omega)
          clear HCC
          have j0 : (0 : Int) ≤ (k : Int) + 1 := by omega
          have j1 : (k : Int) + 1 < (dn : Int) := by omega
          have j2 : decide ((0 : Int) < (k : Int) + 1) = true := decide_eq_true (by omega)
          have j3 : (0 : Int) ≤ (k : Int) := by omega
          have j4 : (k : Int) < (dn : Int) := by omega
          have j6 : ((k : Int) + 1).toNat = k + 1 := by omega
          have j7 : (0 : Int) ≤ (k : Int) + 1 - 1 := by omega
          have j8 : (k : Int) + 1 - 1 < (dn : Int) := by omega
          have j9 : ((k : Int) + 1 - 1).toNat = k := by omega
          have WJ2 : IntKind.i64.wrap (k : Int) = (k : Int) := by rw [IntKind.wrap_i64]; omega
          have WJ : IntKind.i64.wrap ((k : Int) + 1 - 1) = (k : Int) := by rw [IntKind.wrap_i64]; omega
          generalize T.df (k + 1) = x at *
          generalize T.dg (k + 1) = y at *
          generalize T.df k = p at *
          cases I1 : inB x 0 15
          · have G := Lib.hid (F1.out I1)
            rw [I1] at W1
            have W1 := Lib.hid W1
            clear I1 W2
            go_wp2
            go_quiet (((go_at_call 104; first | (with_reducible exact Calls.quiet_of_same (W1.out _)))))
            go_wp2
            go_ret
            exact IffB.no G.out (below_drewN (BA.out _) _)
          · cases I2 : inB y 0 8
            · have G := Lib.hid (F2.out I2)
              rw [I1] at W1
              rw [I2] at W2
              have W1 := Lib.hid W1
              have W2 := Lib.hid W2
              clear I1 I2
              go_wp2
              go_quiet (((go_at_call 104; first | (with_reducible exact Calls.quiet_of_same (W1.out _)) | (with_reducible exact Calls.quiet_of_same (W2.out _)))))
              go_wp2
              go_ret
              exact IffB.no G.out (below_drewN (BA.out _) _)
            · have W1 := Lib.hid (show ∀ w', Calls Try.prog 104 #[.int .i64 x, .int .i64 0, .int .i64 15] w' (fun e v => e = .returned (.bool true) ∧ v = w') from fun w' => by rw [← I1]; exact W1 w')
              have W2 := Lib.hid (show ∀ w', Calls Try.prog 104 #[.int .i64 y, .int .i64 0, .int .i64 8] w' (fun e v => e = .returned (.bool true) ∧ v = w') from fun w' => by rw [← I2]; exact W2 w')
              by_cases hr : x ≤ p
              · have G := Lib.hid (F3.out (by rw [PV.out]; exact hr))
                have jr : decide (x ≤ p) = true := decide_eq_true hr
                clear I1 I2
                go_wp2
                go_quiet (((go_at_call 104; first | (with_reducible exact Calls.quiet_of_same (W1.out _)) | (with_reducible exact Calls.quiet_of_same (W2.out _)))))
                go_wp2
                go_ret
                exact IffB.no G.out (below_drewN (BA.out _) _)
              · have G := Lib.hid (F4.out (by rw [PV.out]; omega) I1 I2)
                have jr : decide (x ≤ p) = false := decide_eq_false hr
                clear I1 I2
                go_wp2
                go_quiet (((go_at_call 104; first | (with_reducible exact Calls.quiet_of_same (W1.out _)) | (with_reducible exact Calls.quiet_of_same (W2.out _)))))
                go_wp2
                go_roundw
                case rel => exact ⟨k + 1 + 1, x, by omega, by go_num, G.out, (XA.out _).later (below_drewN (Below.refl _ _) _), below_drewN (BA.out _) _⟩
                case measure => simp [intOf]; omega
      · obtain rfl : k = dn := by omega
        have G : Hid T.DevOk := by show T.DevOk; rw [HDN.out] at D; exact D.done
        clear D hw XR
        go_wp2
        go_ret
        exact IffB.yes G.out HW.out
  · have G := Lib.hid (show ¬ T.DevOk from fun d => hm (by rw [HDN.out]; exact d.n))
    go_enter Try.func118, Try.ntmps118
    go_wp2
    go_ret
    exact IffB.no G.out LH.out

set_option maxRecDepth 100000 in
set_option maxHeartbeats 4000000 in
theorem l06Buckets (T : TD) (A : TA) (w : World) (S : T.Sz) (h : TIn w T A) :
    Calls Try.prog 119 #[A.val T] w (IffB T.BktOk w) := by
  obtain ⟨da, dc, ba, bc, I, C⟩ := A
  obtain ⟨dn, hdn⟩ : ∃ dn, dn = T.dn := ⟨_, rfl⟩
  obtain ⟨bn, hbn⟩ : ∃ bn, bn = T.bn := ⟨_, rfl⟩
  have LH := Lib.hid (lay w (.cells #[.slice da dn dc, .slice ba bn bc] 33))
  have X := Lib.hid (BxN.new w #[.slice da dn dc, .slice ba bn bc] 33)
  have HD := h.bkts
  have hLs := S.L
  have hmd : T.dn ≤ 2097152 := S.dn
  have hmb : T.bn ≤ 2097152 := S.bn
  clear h S
  show Calls Try.prog 119 #[tval (.slice da T.dn dc) (.slice ba T.bn bc)] w _
  rw [← hdn] at hmd
  rw [← hbn] at hmb HD hLs
  rw [← hdn, ← hbn]
  have HD := Lib.hid HD
  have hLs := Lib.hid hLs
  have HDN := Lib.hid hdn
  have HBN := Lib.hid hbn
  clear hdn hbn
  by_cases hm : bn ≤ 12
  · go_enter Try.func119, Try.ntmps119
    go_wp2
    go_loopw [3] (fun i wr => ∃ k : Nat, ∃ z : Int, k ≤ bn ∧ i = .int .i64 k ∧ BktK T k z ∧ BxN wr w.heap.size [.slice da dn dc, .slice ba bn bc] ∧ Below w.heap.size w wr) (fun i _ => bn - (intOf i).toNat)
    case atStart => exact ⟨0, 0, by omega, rfl, BktK.start T, X.out, LH.out⟩
    case round =>
      obtain ⟨k, z, hk, rfl, D, XR, hw⟩ := hrel
      have HW := Lib.hid hw
      have XH := Lib.hid XR
      have x0 := XR.cells 0 _ rfl
      have x1 := XR.cells 1 _ rfl
      have xlt := XR.lt
      by_cases hlt : k < bn
      · have ha1 := HD.out.below hw
        obtain ⟨b, off, rfl, hB, hcc⟩ := ha1.resolve_left (by omega)
        have DH := Lib.hid D
        have HCC := Lib.hid hcc
        have HBL := Lib.hid hB
        have HK : Hid (k < T.bn) := by show k < T.bn; rw [← HBN.out]; exact hlt
        have F1 := Lib.hid (show inB (T.bf k) (-12) (-1) = false → ¬ T.BktOk from fun e d => by have := d.each k HK.out; rw [inB_yes this.1 this.2.1] at e; cases e)
        have F2 := Lib.hid (show inB (T.bg k) 1 3 = false → ¬ T.BktOk from fun e d => by have := d.each k HK.out; rw [inB_yes this.2.2.1 this.2.2.2.1] at e; cases e)
        have F5 := Lib.hid (show 8 < (T.L k).length → ¬ T.BktOk from fun e d => by have := (d.each k HK.out).2.2.2.2; omega)
        have F3 := Lib.hid (show z ≤ T.bf k → ¬ T.BktOk from fun e => DH.out.bad1 HK.out e)
        have F4 := Lib.hid (show T.bf k < z → inB (T.bf k) (-12) (-1) = true → inB (T.bg k) 1 3 = true → (T.L k).length ≤ 8 → BktK T (k + 1) (T.bf k) from fun h1 h2 h3 h4 => by have h2 : -12 ≤ T.bf k ∧ T.bf k ≤ -1 := of_decide_eq_true h2; exact DH.out.step h1 (by omega) h3 h4)
        have Z := hLs.out k hlt
        obtain ⟨c0, c1, c2, -⟩ := hcc k hlt
        have BA := Lib.hid (show ∀ x, Below w.heap.size w (wr.alloc x) from fun x => HW.out.alloc HW.out.size x)
        have XA := Lib.hid (show ∀ x, BxN (wr.alloc x) w.heap.size [.slice da dn dc, .slice (some ⟨b, off, none⟩) bn bc] from fun x => XH.out.later (lay wr x))
        have W1 := fun w' => (l00In (T.bf k) (-12) (-1) w').mono (fun e v q => show e = .returned (.bool (inB (T.bf k) (-12) (-1))) ∧ v = w' from ⟨q.1, q.2.symm⟩)
        have W2 := fun w' => (l00In (T.bg k) 1 3 w').mono (fun e v q => show e = .returned (.bool (inB (T.bg k) 1 3)) ∧ v = w' from ⟨q.1, q.2.symm⟩)
        clear hcc ha1 hw D XR
        rcases k with _ | k
        · clear HCC
          simp only [Nat.zero_mul, Nat.add_zero] at c0 c1 c2
          have LT := Lib.hid (DH.out.last.trans (if_pos rfl))
          generalize T.bf 0 = x at *
          generalize T.bg 0 = y at *
          generalize (T.L 0).length = m at *
          generalize I 0 = ik at *
          generalize C 0 = ck at *
          cases I1 : inB x (-12) (-1)
          · have G := Lib.hid (F1.out I1)
            rw [I1] at W1
            have W1 := Lib.hid W1
            clear I1 W2
            go_wp2
            go_quiet (((go_at_call 104; first | (with_reducible exact Calls.quiet_of_same (W1.out _)))))
            go_wp2
            go_ret
            exact IffB.no G.out (below_drewN (BA.out _) _)
          · cases I2 : inB y 1 3
            · have G := Lib.hid (F2.out I2)
              rw [I1] at W1
              rw [I2] at W2
              have W1 := Lib.hid W1
              have W2 := Lib.hid W2
              clear I1 I2
              go_wp2
              go_quiet (((go_at_call 104; first | (with_reducible exact Calls.quiet_of_same (W1.out _)) | (with_reducible exact Calls.quiet_of_same (W2.out _)))))
              go_wp2
              go_ret
              exact IffB.no G.out (below_drewN (BA.out _) _)
            · have W1 := Lib.hid (show ∀ w', Calls Try.prog 104 #[.int .i64 x, .int .i64 (-12), .int .i64 (-1)] w' (fun e v => e = .returned (.bool true) ∧ v = w') from fun w' => by rw [← I1]; exact W1 w')
              have W2 := Lib.hid (show ∀ w', Calls Try.prog 104 #[.int .i64 y, .int .i64 1, .int .i64 3] w' (fun e v => e = .returned (.bool true) ∧ v = w') from fun w' => by rw [← I2]; exact W2 w')
              by_cases h5 : m ≤ 8
              · have j5 : decide (8 < (m : Int)) = false := decide_eq_false (by omega)
                have G := Lib.hid (F4.out (by have h2 : -12 ≤ x ∧ x ≤ -1 := of_decide_eq_true I1; have := LT.out; omega) I1 I2 h5)
                clear I1 I2
                go_wp2
                go_quiet (((go_at_call 104; first | (with_reducible exact Calls.quiet_of_same (W1.out _)) | (with_reducible exact Calls.quiet_of_same (W2.out _)))))
                go_wp2
                go_roundw
                case rel => exact ⟨0 + 1, x, by omega, by go_num, G.out, (XA.out _).later (below_drewN (Below.refl _ _) _), below_drewN (BA.out _) _⟩
                case measure => simp [intOf]; omega
              · have G := Lib.hid (F5.out (by omega))
                have j5 : decide (8 < (m : Int)) = true := decide_eq_true (by omega)
                clear I1 I2
                go_wp2
                go_quiet (((go_at_call 104; first | (with_reducible exact Calls.quiet_of_same (W1.out _)) | (with_reducible exact Calls.quiet_of_same (W2.out _)))))
                go_wp2
                go_ret
                exact IffB.no G.out (below_drewN (BA.out _) _)
        · have PV := Lib.hid DH.out.prev
          obtain ⟨e0, -, -, -⟩ := HCC.out k (by omega)
          clear HCC
          have j0 : (0 : Int) ≤ (k : Int) + 1 := by omega
          have j1 : (k : Int) + 1 < (bn : Int) := by omega
          have j2 : decide ((0 : Int) < (k : Int) + 1) = true := decide_eq_true (by omega)
          have j3 : (0 : Int) ≤ (k : Int) := by omega
          have j4 : (k : Int) < (bn : Int) := by omega
          have j6 : ((k : Int) + 1).toNat = k + 1 := by omega
          have j7 : (0 : Int) ≤ (k : Int) + 1 - 1 := by omega
          have j8 : (k : Int) + 1 - 1 < (bn : Int) := by omega
          have j9 : ((k : Int) + 1 - 1).toNat = k := by omega
          have WJ2 : IntKind.i64.wrap (k : Int) = (k : Int) := by rw [IntKind.wrap_i64]; omega
          have WJ : IntKind.i64.wrap ((k : Int) + 1 - 1) = (k : Int) := by rw [IntKind.wrap_i64]; omega
          generalize T.bf (k + 1) = x at *
          generalize T.bg (k + 1) = y at *
          generalize (T.L (k + 1)).length = m at *
          generalize I (k + 1) = ik at *
          generalize C (k + 1) = ck at *
          generalize T.bf k = p at *
          cases I1 : inB x (-12) (-1)
          · have G := Lib.hid (F1.out I1)
            rw [I1] at W1
            have W1 := Lib.hid W1
            clear I1 W2
            go_wp2
            go_quiet (((go_at_call 104; first | (with_reducible exact Calls.quiet_of_same (W1.out _)))))
            go_wp2
            go_ret
            exact IffB.no G.out (below_drewN (BA.out _) _)
          · cases I2 : inB y 1 3
            · have G := Lib.hid (F2.out I2)
              rw [I1] at W1
              rw [I2] at W2
              have W1 := Lib.hid W1
              have W2 := Lib.hid W2
              clear I1 I2
              go_wp2
              go_quiet (((go_at_call 104; first | (with_reducible exact Calls.quiet_of_same (W1.out _)) | (with_reducible exact Calls.quiet_of_same (W2.out _)))))
              go_wp2
              go_ret
              exact IffB.no G.out (below_drewN (BA.out _) _)
            · have W1 := Lib.hid (show ∀ w', Calls Try.prog 104 #[.int .i64 x, .int .i64 (-12), .int .i64 (-1)] w' (fun e v => e = .returned (.bool true) ∧ v = w') from fun w' => by rw [← I1]; exact W1 w')
              have W2 := Lib.hid (show ∀ w', Calls Try.prog 104 #[.int .i64 y, .int .i64 1, .int .i64 3] w' (fun e v => e = .returned (.bool true) ∧ v = w') from fun w' => by rw [← I2]; exact W2 w')
              by_cases h5 : m ≤ 8
              · have j5 : decide (8 < (m : Int)) = false := decide_eq_false (by omega)
                by_cases hr : p ≤ x
                · have G := Lib.hid (F3.out (by rw [PV.out]; exact hr))
                  have jr : decide (p ≤ x) = true := decide_eq_true hr
                  clear I1 I2
                  go_wp2
                  go_quiet (((go_at_call 104; first | (with_reducible exact Calls.quiet_of_same (W1.out _)) | (with_reducible exact Calls.quiet_of_same (W2.out _)))))
                  go_wp2
                  go_ret
                  exact IffB.no G.out (below_drewN (BA.out _) _)
                · have G := Lib.hid (F4.out (by rw [PV.out]; omega) I1 I2 h5)
                  have jr : decide (p ≤ x) = false := decide_eq_false hr
                  clear I1 I2
                  go_wp2
                  go_quiet (((go_at_call 104; first | (with_reducible exact Calls.quiet_of_same (W1.out _)) | (with_reducible exact Calls.quiet_of_same (W2.out _)))))
                  go_wp2
                  go_roundw
                  case rel => exact ⟨k + 1 + 1, x, by omega, by go_num, G.out, (XA.out _).later (below_drewN (Below.refl _ _) _), below_drewN (BA.out _) _⟩
                  case measure => simp [intOf]; omega
              · have G := Lib.hid (F5.out (by omega))
                have j5 : decide (8 < (m : Int)) = true := decide_eq_true (by omega)
                clear I1 I2
                go_wp2
                go_quiet (((go_at_call 104; first | (with_reducible exact Calls.quiet_of_same (W1.out _)) | (with_reducible exact Calls.quiet_of_same (W2.out _)))))
                go_wp2
                go_ret
                exact IffB.no G.out (below_drewN (BA.out _) _)
      · obtain rfl : k = bn := by omega
        have G : Hid T.BktOk := by show T.BktOk; rw [HBN.out] at D; exact D.done
        clear D hw XR
        go_wp2
        go_ret
        exact IffB.yes G.out HW.out
  · have G := Lib.hid (show ¬ T.BktOk from fun d => hm (by rw [HBN.out]; exact d.n))
    go_enter Try.func119, Try.ntmps119
    go_wp2
    go_ret
    exact IffB.no G.out LH.out
end Go.Proofs.Ytigaoimnhebegaa.Tm

/-
  Nothing stands in two buckets, or twice in one: the model's function.
-/
namespace Go.Proofs.Ytigaoimnhebegaa.Tm
open Go.RowKit Go.Proofs.Ytigaoimnhebegaa.GfI Go.Proofs.Ytigaoimnhebegaa.GfS Go.Proofs.Ytigaoimnhebegaa.MixC
open Go.Proofs.Ytigaoimnhebegaa.Gf2 (Ib wpList_append_int)
open Go.Proofs.Ytigaoimnhebegaa.It (lay chain)
open Go.Proofs.Ytigaoimnhebegaa.Rc (Recs)
open Go.Proofs.Ytigaoimnhebegaa.Bk (Bks tval bval)
open Go.Proofs.Ytigaoimnhebegaa.Sg (BxN)
set_option linter.unusedVariables false

/-- The first n lists, one behind the other. -/
def flatL (L : Nat → List Int) : Nat → List Int
  | 0 => []
  | n + 1 => flatL L n ++ L n
theorem mem_flatL {L : Nat → List Int} {x : Int} : ∀ {n : Nat}, x ∈ flatL L n ↔ ∃ j, j < n ∧ x ∈ L j
  | 0 => by simp [flatL]
  | n + 1 => by
    unfold flatL
    rw [List.mem_append, mem_flatL]
    constructor
    · rintro (⟨j, hj, h⟩ | h)
      · exact ⟨j, by omega, h⟩
      · exact ⟨n, by omega, h⟩
    · rintro ⟨j, hj, h⟩
      by_cases e : j = n
      · subst e; exact .inr h
      · exact .inl ⟨j, by omega, h⟩
theorem nodup_snoc {l : List Int} {x : Int} (h : l.Nodup) (hx : x ∉ l) : (l ++ [x]).Nodup := by
  rw [List.nodup_append]
  exact ⟨h, by simp, fun a ha b hb e => hx (by simp at hb; rw [← hb, ← e]; exact ha)⟩
theorem take_snoc (l : List Int) (q : Nat) (h : q < l.length) : l.take (q + 1) = l.take q ++ [l.getD q 0] := by
  rw [List.take_succ_eq_append_getElem h, List.getD_eq_getElem?_getD, List.getElem?_eq_getElem h]; rfl
theorem nodup_not {l : List Int} {q : Nat} (h : l.Nodup) (hq : q < l.length) : l.getD q 0 ∉ l.take q := by
  have h1 : (l.take (q + 1)).Nodup := h.sublist (List.take_sublist _ _)
  rw [take_snoc l q hq, List.nodup_append] at h1
  exact fun hm => h1.2.2 _ hm _ (by simp) rfl
theorem getD_mem {l : List Int} {q : Nat} (hq : q < l.length) : l.getD q 0 ∈ l := by
  rw [List.getD_eq_getElem?_getD, List.getElem?_eq_getElem hq]; exact List.getElem_mem hq
theorem TD.Once.bad {T : TD} (h : T.Once) {i q : Nat} (hi : i < T.bn) (hq : q < (T.L i).length) : (T.L i).getD q 0 ∉ flatL T.L i ++ (T.L i).take q := by
  intro hm
  rcases List.mem_append.1 hm with hm | hm
  · obtain ⟨j, hj, hx⟩ := mem_flatL.1 hm
    exact h.two j i hj hi _ hx (getD_mem hq)
  · exact nodup_not (h.one i hi) hq hm
theorem once_of {T : TD} (h : (flatL T.L T.bn).Nodup) : T.Once := by
  have key : ∀ n, (flatL T.L n).Nodup → (∀ j, j < n → (T.L j).Nodup) ∧ ∀ j k, j < k → k < n → ∀ x, x ∈ T.L j → x ∈ T.L k → False := by
    intro n
    induction n with
    | zero => intro _; exact ⟨fun j hj => by omega, fun j k _ hk => by omega⟩
    | succ n ih =>
      intro h
      unfold flatL at h
      rw [List.nodup_append] at h
      obtain ⟨a, b⟩ := ih h.1
      refine ⟨fun j hj => ?_, fun j k hjk hk x hx hy => ?_⟩
      · by_cases e : j = n
        · subst e; exact h.2.1
        · exact a j (by omega)
      · by_cases e : k = n
        · subst e; exact h.2.2 x (mem_flatL.2 ⟨j, hjk, hx⟩) x hy rfl
        · exact b j k hjk (by omega) x hx hy
  obtain ⟨a, b⟩ := key _ h
  exact ⟨a, b⟩

def HasB (x : Int) (zs : List Int) (w : World) (e : Ending) (w' : World) : Prop := e = .returned (.bool (decide (x ∈ zs))) ∧ w = w'
theorem mem_take_succ {zs : List Int} {k : Nat} {x : Int} (hk : k < zs.length) (h : x ∉ zs.take k) (e : zs.getD k 0 ≠ x) : x ∉ zs.take (k + 1) := by
  rw [take_snoc zs k hk]
  intro hm
  rcases List.mem_append.1 hm with hm | hm
  · exact h hm
  · simp at hm; exact e (by rw [hm]; simp [List.getD])
set_option maxRecDepth 100000 in
theorem l00Has (a : Option Addr) (cap : Nat) (zs : List Int) (x : Int) (w : World) (hl : zs.length ≤ 2097152) (h : Words w a zs) :
    Calls Try.prog 65 #[.slice a zs.length cap, .int .i64 x] w (HasB x zs w) := by
  obtain ⟨n, hn⟩ : ∃ n, n = zs.length := ⟨_, rfl⟩
  rw [← hn] at hl ⊢
  have HN := Lib.hid hn
  clear hn
  go_enter Try.func65, Try.ntmps65
  go_wp2
  go_loop [5] (fun i => ∃ k : Nat, k ≤ n ∧ i = .int .i64 k ∧ x ∉ zs.take k) (fun i => n - (intOf i).toNat)
  case atStart => exact ⟨0, by omega, rfl, by simp⟩
  case round =>
    obtain ⟨k, hk, rfl, N⟩ := hrel
    have NH := Lib.hid N
    clear N
    by_cases hlt : k < n
    · obtain ⟨b, off, rfl, hB, hcc⟩ := h.resolve_left (by intro e; rw [e] at HN; have := HN.out; simp at this; omega)
      have c0 := hcc k (by rw [← HN.out]; exact hlt)
      have HK : Hid (k < zs.length) := by show _ < _; rw [← HN.out]; exact hlt
      clear hcc h
      by_cases q : zs.getD k 0 = x
      · have R := Lib.hid (show HasB x zs w (.returned (.bool true)) w from ⟨by rw [decide_eq_true (by rw [← q]; exact getD_mem HK.out)], rfl⟩)
        generalize zs.getD k 0 = y at *
        subst q
        go_wp2
        go_ret
        exact R.out
      · have N2 := Lib.hid (mem_take_succ HK.out NH.out q)
        generalize zs.getD k 0 = y at *
        have q' : (y == x) = false := by simpa using q
        clear q
        go_wp2
        go_round
        case rel => exact ⟨k + 1, by omega, by go_num, N2.out⟩
        case measure => simp [intOf]; omega
    · obtain rfl : k = n := by omega
      have R := Lib.hid (show HasB x zs w (.returned (.bool false)) w from ⟨by rw [decide_eq_false (by have := NH.out; rw [HN.out, List.take_length] at this; exact this)], rfl⟩)
      clear h
      go_wp2
      go_ret
      exact R.out

theorem _root_.Go.Proofs.Ytigaoimnhebegaa.Sg.BxN.grown {w w1 : World} {b : Nat} {vs : List Value} {r : Option Nat} (h : BxN w b vs) (g : w.grownBy w1 r) (hr : ∀ c, r = some c → b ≠ c) : BxN w1 b vs := by
  have e : w1.heap[b]? = w.heap[b]? := g.block b h.lt (fun q => hr b q.symm rfl)
  exact ⟨Nat.lt_of_lt_of_le h.lt g.size, fun i v hv => (World.cell?_of_block e).trans (h.cells i v hv), fun i => (World.frozen?_of_block e).trans (h.free i)⟩
/-- What has been met: the first i lists, and q numbers of the next. -/
def seenL (T : TD) (i q : Nat) : List Int := flatL T.L i ++ (T.L i).take q
theorem seen_zero (T : TD) (i : Nat) : seenL T i 0 = flatL T.L i := by unfold seenL; simp
theorem seen_snoc (T : TD) {i q : Nat} (h : q < (T.L i).length) : seenL T i (q + 1) = seenL T i q ++ [(T.L i).getD q 0] := by
  unfold seenL; rw [take_snoc _ _ h, List.append_assoc]
theorem seen_end (T : TD) (i : Nat) : seenL T i (T.L i).length = flatL T.L (i + 1) := by
  unfold seenL; rw [List.take_length]; rfl
theorem flatL_len {L : Nat → List Int} {m : Nat} : ∀ {n : Nat}, (∀ i, i < n → (L i).length ≤ m) → (flatL L n).length ≤ n * m
  | 0, _ => by simp [flatL]
  | n + 1, h => by
    unfold flatL
    rw [List.length_append]
    have := flatL_len (n := n) (fun i hi => h i (by omega))
    have := h n (by omega)
    rw [Nat.succ_mul]; omega
theorem seen_len {T : TD} (B : T.BktOk) {i q : Nat} (hi : i < T.bn) : (seenL T i q).length ≤ 200 := by
  unfold seenL
  rw [List.length_append]
  have h1 := flatL_len (L := T.L) (m := 8) (n := i) (fun j hj => (B.each j (by omega)).2.2.2.2)
  have h2 := (B.each i hi).2.2.2.2
  have h3 := B.n
  have h4 := List.length_take_le q (T.L i)
  have h5 : ((T.L i).take q).length ≤ (T.L i).length := by rw [List.length_take]; omega
  omega

set_option maxRecDepth 100000 in
set_option maxHeartbeats 4000000 in
theorem l06Once (T : TD) (A : TA) (w : World) (B : T.BktOk) (hdn : T.dn ≤ 2097152) (h : TIn w T A) :
    Calls Try.prog 120 #[A.val T] w (IffB T.Once w) := by
  obtain ⟨da, dc, ba, bc, I, C⟩ := A
  obtain ⟨dn, hdn'⟩ : ∃ dn, dn = T.dn := ⟨_, rfl⟩
  obtain ⟨bn, hbn⟩ : ∃ bn, bn = T.bn := ⟨_, rfl⟩
  have LH := Lib.hid (lay w (.cells #[.slice da dn dc, .slice ba bn bc] 33))
  have X := Lib.hid (BxN.new w #[.slice da dn dc, .slice ba bn bc] 33)
  have HD := h.bkts
  have hn := B.n
  have hB8 := Lib.hid (fun i hi => (B.each i hi).2.2.2.2)
  have SL := Lib.hid (fun i q hi => @seen_len T B i q hi)
  clear h B
  show Calls Try.prog 120 #[tval (.slice da T.dn dc) (.slice ba T.bn bc)] w _
  rw [← hbn] at hn HD hB8 SL
  rw [← hdn'] at hdn
  rw [← hdn', ← hbn]
  have HD := Lib.hid HD
  have HBN := Lib.hid hbn
  have BAD := Lib.hid (show ∀ i q, i < bn → q < (T.L i).length → (T.L i).getD q 0 ∈ seenL T i q → ¬ T.Once from fun i q hi hq hm d => d.bad (by rw [← HBN.out]; exact hi) hq hm)
  clear hdn' hbn
  have LB := Lib.hid (LH.out.alloc (B := w.heap.size) (by simp) (.cells #[] 2))
  have XB := Lib.hid (X.out.later (lay _ (.cells #[] 2)))
  have J0 : Ib (w.heap.size + 1) ((w.alloc (.cells #[.slice da dn dc, .slice ba bn bc] 33)).alloc (.cells #[] 2)) (.slice (some ⟨(w.alloc (.cells #[.slice da dn dc, .slice ba bn bc] 33)).heap.size, 0, none⟩) 0 0) (seenL T 0 0) :=
    World.ownsRow_made _ #[] 0 (by simp) (by unfold maxLen; omega) (by simp)
  rw [World.size_alloc] at J0
  have J0 := Lib.hid J0
  go_enter Try.func120, Try.ntmps120
  go_wp2
  go_loopw [3, 4] (fun v i wr => ∃ n : Nat, n ≤ bn ∧ i = .int .i64 n ∧ (seenL T n 0).Nodup ∧ Ib (w.heap.size + 1) wr v (seenL T n 0) ∧ BxN wr w.heap.size [.slice da dn dc, .slice ba bn bc] ∧ Below w.heap.size w wr) (fun _ i _ => bn - (intOf i).toNat)
  case atStart => exact ⟨0, by omega, rfl, by simp [seenL, flatL], J0.out, XB.out, LB.out⟩
  case round =>
    obtain ⟨n, hn2, rfl, ND, J, XR, hw⟩ := hrel
    obtain ⟨wo, rfl⟩ : ∃ wo : World, wo = wr := ⟨_, rfl⟩
    have HW := Lib.hid hw
    have XH := Lib.hid XR
    have JH := Lib.hid J
    have NDH := Lib.hid ND
    have x1 := XR.cells 1 _ rfl
    clear ND J XR hw
    by_cases hlt : n < bn
    · have h8 := hB8.out n hlt
      have HSE := Lib.hid (seen_end T n)
      have HSZ := Lib.hid (seen_zero T (n + 1))
      have HBD := Lib.hid (fun q => BAD.out n q hlt)
      have HSN := Lib.hid (fun q => @seen_snoc T n q)
      have HSL := Lib.hid (fun q => SL.out n q hlt)
      go_wp2
      go_loopw [3, 5] (fun v i wr => ∃ q : Nat, q ≤ (T.L n).length ∧ i = .int .i64 q ∧ (seenL T n q).Nodup ∧ Ib (w.heap.size + 1) wr v (seenL T n q) ∧ BxN wr w.heap.size [.slice da dn dc, .slice ba bn bc] ∧ Below w.heap.size w wr) (fun _ i _ => (T.L n).length - (intOf i).toNat)
      case atStart => exact ⟨0, by omega, rfl, NDH.out, JH.out, XH.out, HW.out⟩
      case round =>
        obtain ⟨q, hq, rfl, ND, J, XR, hw⟩ := hrel
        have HWq := Lib.hid hw
        have XHq := Lib.hid XR
        have NDq := Lib.hid ND
        have y1 := XR.cells 1 _ rfl
        have hb := HD.out.below hw
        obtain ⟨b, off, rfl, hB, hcc⟩ := hb.resolve_left (by omega)
        obtain ⟨-, -, c2, wd⟩ := hcc n hlt
        clear hcc hb ND XR hw x1
        by_cases hlt2 : q < (T.L n).length
        · obtain ⟨b2, off2, eI, hB2, nums⟩ := wd.resolve_left (by intro e; rw [e] at hlt2; simp at hlt2)
          have d := nums q hlt2
          rw [eI] at c2
          have SN := Lib.hid (HSN.out q hlt2)
          have BDq := Lib.hid (HBD.out q hlt2)
          have SLq := HSL.out q
          clear wd nums eI HSN HBD HSL
          generalize seenL T n q = zs at *
          generalize (T.L n).getD q 0 = x at *
          generalize C n = cn at *
          have LE := HWq.out.size
          have XLT := XHq.out.lt
          obtain ⟨av, lv, cv, rfl⟩ := J.shape
          obtain ⟨O, rfl⟩ := Gf2.Ib.own (w0 := w) J (by omega)
          have JH := Lib.hid J
          have OH := Lib.hid O.words
          clear J O
          by_cases hx : x ∈ zs
          · have G := Lib.hid (BDq.out hx)
            have HH := fun w' (K : Words w' av zs) => l00Has av cv zs x w' (by omega) K
            unfold HasB at HH
            rw [decide_eq_true hx] at HH
            have HH := Lib.hid HH
            clear hx
            go_wp2_with fail
            refine (HH.out _ OH.out).mono ?_
            rintro e w2 ⟨rfl, rfl⟩
            go_wp2
            go_ret
            exact IffB.no G.out HWq.out
          · have ND2 := Lib.hid (nodup_snoc NDq.out hx)
            have HH := fun w' (K : Words w' av zs) => l00Has av cv zs x w' (by omega) K
            unfold HasB at HH
            rw [decide_eq_false hx] at HH
            have HH := Lib.hid HH
            clear hx
            go_wp2_with fail
            refine (HH.out _ OH.out).mono ?_
            rintro e w2 ⟨rfl, rfl⟩
            go_wp2_with (at_builtin; refine wpList_append_int rfl (.tmp 38) (.tmp 40) rfl (w.heap.size + 1) _ zs rfl x JH.out rfl (by omega) (by omega) ?_; intro v' w3 J3 g3)
            have B3 := Lib.hid (HWq.out.trans (Below.mono (JH.out.grown (by omega) _ g3) (by omega)))
            have X3 := Lib.hid ((XHq.out.later (lay _ _)).grown g3 (fun c hc e => by have := (World.ownsRow.lt JH.out c hc).1; omega))
            have J3H := Lib.hid J3
            clear J3 g3
            go_roundw
            case rel => exact ⟨q + 1, by omega, by go_num, by rw [SN.out]; exact ND2.out, by rw [SN.out]; exact J3H.out, X3.out, B3.out⟩
            case measure => simp [intOf]; omega
        · obtain rfl : q = (T.L n).length := by omega
          have ND2 := Lib.hid (show (seenL T (n + 1) 0).Nodup by rw [HSZ.out, ← HSE.out]; exact NDq.out)
          have J2 := Lib.hid (show Ib (w.heap.size + 1) wr u3 (seenL T (n + 1) 0) by rw [HSZ.out, ← HSE.out]; exact J)
          clear J wd
          go_wp2
          go_roundw
          case rel => exact ⟨n + 1, by omega, by go_num, ND2.out, J2.out, XHq.out, HWq.out⟩
          case measure => simp [intOf]; omega
    · obtain rfl : n = bn := by omega
      have G : Hid T.Once := by show T.Once; have := NDH.out; rw [seen_zero, HBN.out] at this; exact once_of this
      go_wp2
      go_ret
      exact IffB.yes G.out HW.out
end Go.Proofs.Ytigaoimnhebegaa.Tm

/-
  Whether a bucket's items fit it, and whether a tree is valid: the model's functions.
-/
namespace Go.Proofs.Ytigaoimnhebegaa.Tm
open Go.RowKit Go.Proofs.Ytigaoimnhebegaa.GfI Go.Proofs.Ytigaoimnhebegaa.GfS Go.Proofs.Ytigaoimnhebegaa.MixC
open Go.Proofs.Ytigaoimnhebegaa.It (lay chain)
open Go.Proofs.Ytigaoimnhebegaa.Rc (Recs)
open Go.Proofs.Ytigaoimnhebegaa.Bk (Bks tval bval)
open Go.Proofs.Ytigaoimnhebegaa.Sg (BxN)
set_option linter.unusedVariables false
set_option linter.unusedSimpArgs false

theorem undrew {V w1 : World} (h : Below V.drew.heap.size V.drew w1) : Below V.heap.size V w1 := ⟨h.os, h.tape, h.output, h.size, h.block⟩
/-- The items of a bucket of kind g fit it, as the model asks it. -/
def FitA (T : TD) (g : Int) (zs : List Int) (q : Nat) : Prop := (g < 3 → T.kd (zs.getD q 0) = g - 1) ∧ (g = 3 → T.kd (zs.getD q 0) = T.kd (zs.getD 0 0) ∧ (T.kd (zs.getD q 0) = 1 ∨ T.kd (zs.getD q 0) = 2))
def FitS (T : TD) (g : Int) (zs : List Int) : Prop := ∀ q, q < zs.length → FitA T g zs q
theorem getD_of {l : List Int} {i : Nat} {x : Int} (h : l[i]? = some x) : i < l.length ∧ l.getD i 0 = x := by
  rw [List.getElem?_eq_some_iff] at h
  obtain ⟨hi, e⟩ := h
  exact ⟨hi, by rw [List.getD_eq_getElem?_getD, List.getElem?_eq_getElem hi]; exact e⟩
theorem fit_iff {T : TD} {j : Nat} (h1 : 1 ≤ T.bg j) (h3 : T.bg j ≤ 3) : FitS T (T.bg j) (T.L j) ↔ T.Fit1 j := by
  unfold FitS FitA TD.Fit1 mayBe
  constructor
  · intro h i x hx
    obtain ⟨hi, e⟩ := getD_of hx
    have hq := h i hi
    rw [e] at hq
    by_cases g : T.bg j = 3
    · obtain ⟨a, b⟩ := hq.2 g
      exact ⟨by rw [g]; omega, a⟩
    · have a := hq.1 (by omega)
      have b := (h 0 (by omega)).1 (by omega)
      exact ⟨.inl a, by omega⟩
  · intro h q hq
    have hx := h q ((T.L j).getD q 0) (by rw [List.getD_eq_getElem?_getD, List.getElem?_eq_getElem hq]; rfl)
    exact ⟨fun g => by omega, fun g => by omega⟩

set_option maxRecDepth 100000 in
set_option maxHeartbeats 8000000 in
theorem l06Fits (T : TD) (A : TA) (y g : Int) (a : Option Addr) (cap : Nat) (zs : List Int) (w : World) (g1 : 1 ≤ g) (g3 : g ≤ 3) (hl : zs.length ≤ 2097152) (S : T.Sz) (h : TIn w T A) (hw0 : Words w a zs) :
    Calls Try.prog 121 #[A.val T, bval y g (.slice a zs.length cap)] w (IffB (FitS T g zs) w) := by
  have KD := Lib.hid (fun x w' (b : Below w.heap.size w w') => l06Kind T A x w' S (h.below b))
  obtain ⟨da, dc, ba, bc, I, C⟩ := A
  obtain ⟨dn, hdn⟩ : ∃ dn, dn = T.dn := ⟨_, rfl⟩
  obtain ⟨bn, hbn⟩ : ∃ bn, bn = T.bn := ⟨_, rfl⟩
  have E : TA.val ⟨da, dc, ba, bc, I, C⟩ T = tval (.slice da dn dc) (.slice ba bn bc) := by rw [hdn, hbn]
  rw [E] at KD ⊢
  clear E hdn hbn h S
  obtain ⟨n, hn⟩ : ∃ n, n = zs.length := ⟨_, rfl⟩
  rw [← hn] at hl ⊢
  have HN := Lib.hid hn
  clear hn
  have LH := Lib.hid (chain (lay w (.cells #[.slice da dn dc, .slice ba bn bc] 33)) (lay _ (.cells #[.int .i64 y, .int .i64 g, .slice a n cap] 165)))
  have X := Lib.hid ((BxN.new w #[.slice da dn dc, .slice ba bn bc] 33).later (lay _ (.cells #[.int .i64 y, .int .i64 g, .slice a n cap] 165)))
  have Y := BxN.new (w.alloc (.cells #[.slice da dn dc, .slice ba bn bc] 33)) #[.int .i64 y, .int .i64 g, .slice a n cap] 165
  rw [World.size_alloc] at Y
  have Y := Lib.hid Y
  have END := Lib.hid (show (∀ q, q < n → FitA T g zs q) → FitS T g zs from fun H q hq => H q (by rw [HN.out]; exact hq))
  have BAD := Lib.hid (show ∀ q, q < n → ¬ FitA T g zs q → ¬ FitS T g zs from fun q hq H F => H (F q (by rw [← HN.out]; exact hq)))
  go_enter Try.func121, Try.ntmps121
  go_wp2
  go_loopw [5] (fun i wr => ∃ q : Nat, q ≤ n ∧ i = .int .i64 q ∧ (∀ p, p < q → FitA T g zs p) ∧ BxN wr w.heap.size [.slice da dn dc, .slice ba bn bc] ∧ BxN wr (w.heap.size + 1) [.int .i64 y, .int .i64 g, .slice a n cap] ∧ Below w.heap.size w wr) (fun i _ => n - (intOf i).toNat)
  case atStart => exact ⟨0, by omega, rfl, fun p hp => by omega, X.out, Y.out, LH.out⟩
  case round =>
    obtain ⟨q, hq, rfl, P, XR, YR, hw⟩ := hrel
    have PH := Lib.hid P
    have XH := Lib.hid XR
    have YH := Lib.hid YR
    have HW := Lib.hid hw
    have x0 := XR.cells 0 _ rfl
    have x1 := XR.cells 1 _ rfl
    have y0 := YR.cells 0 _ rfl
    have y1 := YR.cells 1 _ rfl
    have y2 := YR.cells 2 _ rfl
    clear P XR YR
    by_cases hlt : q < n
    · obtain ⟨b, off, rfl, hB, hcc⟩ := (hw0.below hw).resolve_left (by intro e; rw [e] at HN; have := HN.out; simp at this; omega)
      have c0 := hcc q (by rw [← HN.out]; exact hlt)
      have d0 := hcc 0 (by rw [← HN.out]; omega)
      rw [Nat.add_zero] at d0
      have HBL := Lib.hid hB
      have hn0 : 0 < n := by omega
      have D0 := Lib.hid d0
      have BQ := Lib.hid (show ¬ ((g < 3 → T.kd (zs.getD q 0) = g - 1) ∧ (g = 3 → T.kd (zs.getD q 0) = T.kd (zs.getD 0 0) ∧ (T.kd (zs.getD q 0) = 1 ∨ T.kd (zs.getD q 0) = 2))) → ¬ FitS T g zs from fun H => BAD.out q hlt H)
      have PQ := Lib.hid (show ((g < 3 → T.kd (zs.getD q 0) = g - 1) ∧ (g = 3 → T.kd (zs.getD q 0) = T.kd (zs.getD 0 0) ∧ (T.kd (zs.getD q 0) = 1 ∨ T.kd (zs.getD q 0) = 2))) → ∀ p, p < q + 1 → FitA T g zs p from fun H p hp => if e : p = q then by rw [e]; exact H else PH.out p (by omega))
      have KQ := Lib.hid (fun w' (b : Below wr.heap.size wr w') => KD.out (zs.getD q 0) w' (hw.trans (b.mono hw.size)))
      have KF := Lib.hid (fun w' (b : Below wr.heap.size wr w') => KD.out (zs.getD 0 0) w' (hw.trans (b.mono hw.size)))
      generalize T.kd (zs.getD q 0) = k at *
      generalize T.kd (zs.getD 0 0) = f at *
      generalize zs.getD q 0 = x at *
      generalize zs.getD 0 0 = x9 at *
      clear hcc hw0 hw d0 hB
      go_wp2
      go_region_held3 (fun w' => w'.cell? ⟨w.heap.size, 0, none⟩ = some (.slice da dn dc) ∧ w'.cell? ⟨w.heap.size, 1, none⟩ = some (.slice ba bn bc) ∧ w'.cell? ⟨w.heap.size + 1, 2, none⟩ = some (.slice (some ⟨b, off, none⟩) n cap) ∧ w'.cell? ⟨b, off + q, none⟩ = some (.int .i64 x)) (go_keep)
        (first
          | (go_at_call 122; refine (KQ.out _ (undrew (Below.refl _ _))).mono ?_; rintro e w2 ⟨rfl, b2⟩; have b2 := undrew b2; have B2 := Lib.hid (HW.out.trans (b2.mono HW.out.size)); have B2r := Lib.hid b2; have X2 := Lib.hid (XH.out.later b2); have Y2 := Lib.hid (YH.out.later b2); have c9 : w2.cell? ⟨b, off + q, none⟩ = some (.int .i64 x) := (b2.cell (p := ⟨b, off + q, none⟩) HBL.out).trans c0; have x0 := X2.out.cells 0 _ rfl; have x1 := X2.out.cells 1 _ rfl; have y0 := Y2.out.cells 0 _ rfl; have y1 := Y2.out.cells 1 _ rfl; have y2 := Y2.out.cells 2 _ rfl; clear b2))
      all_goals
        clear c0 c9
        have d0 : w2.cell? ⟨b, off, none⟩ = some (.int .i64 x9) := (B2r.out.cell (p := ⟨b, off, none⟩) HBL.out).trans D0.out
        by_cases hg : g < 3
        · have jg : decide (g < 3) = true := decide_eq_true hg
          have jg3 : (g == 3) = false := by simp; omega
          by_cases hk : k = g - 1
          · have G := Lib.hid (PQ.out ⟨fun _ => hk, fun e => by omega⟩)
            have jk : (k != g - 1) = false := by simpa using hk
            clear hk
            go_wp2
            go_quiet (fail)
            go_wp2
            go_roundw
            case rel => exact ⟨q + 1, by omega, by go_num, G.out, X2.out.later (below_drewN (Below.refl _ _) _), Y2.out.later (below_drewN (Below.refl _ _) _), below_drewN B2.out _⟩
            case measure => simp [intOf]; omega
          · have G := Lib.hid (BQ.out fun H => hk (H.1 hg))
            have jk : (k != g - 1) = true := by simpa using hk
            clear hk
            go_wp2
            go_ret
            exact IffB.no G.out B2.out
        · obtain rfl : g = 3 := by omega
          by_cases hk : k = f
          · by_cases h1 : k = 1
            · have G := Lib.hid (PQ.out ⟨fun e => by omega, fun _ => ⟨hk, .inl h1⟩⟩)
              subst h1
              subst hk
              go_wp2
              refine wp_region_noPanic ?_
              refine wp_region_held_drew (S := (fun w' => w'.cell? ⟨w.heap.size, 0, none⟩ = some (.slice da dn dc) ∧ w'.cell? ⟨w.heap.size, 1, none⟩ = some (.slice ba bn bc) ∧ w'.cell? ⟨w.heap.size + 1, 1, none⟩ = some (.int .i64 3) ∧ w'.cell? ⟨w.heap.size + 1, 2, none⟩ = some (.slice (some ⟨b, off, none⟩) n cap) ∧ w'.cell? ⟨b, off, none⟩ = some (.int .i64 x9))) (by kernel_rfl) ?_ (fun hHeld => ?_)
              · go_keep
              refine wpAnyH_take (i := 0) (v := ?_) rfl (by kernel_rfl) (by kernel_rfl) (by kernel_rfl) (fun _ _ _ h => h) (Or.inl ⟨by first | kernel_rfl | rfl, ?_⟩) (by assumption) ?_
              rotate_left
              · intro wx hSw; (try dsimp only at hSw); go_simp; first | done | with_reducible rfl
              try simp only [Act.put, List.getElem_toArray, List.getElem_cons_zero, List.getElem_cons_succ, List.setIfInBounds_toArray, List.set_cons_zero, List.set_cons_succ]
              refine wpAnyH_take (i := 1) (v := ?_) rfl (by kernel_rfl) (by kernel_rfl) (by kernel_rfl) (fun _ _ _ h => h) (Or.inl ⟨by first | kernel_rfl | rfl, ?_⟩) (by assumption) ?_
              rotate_left
              · intro wx hSw; (try dsimp only at hSw); go_simp; first | done | with_reducible rfl
              try simp only [Act.put, List.getElem_toArray, List.getElem_cons_zero, List.getElem_cons_succ, List.setIfInBounds_toArray, List.set_cons_zero, List.set_cons_succ]
              refine wpAnyH_take (i := 2) (v := ?_) rfl (by kernel_rfl) (by kernel_rfl) (by kernel_rfl) (fun _ _ _ h => h) (Or.inl ⟨by first | kernel_rfl | rfl, ?_⟩) (by assumption) ?_
              rotate_left
              · intro wx hSw; (try dsimp only at hSw); go_simp; first | done | with_reducible rfl
              try simp only [Act.put, List.getElem_toArray, List.getElem_cons_zero, List.getElem_cons_succ, List.setIfInBounds_toArray, List.set_cons_zero, List.set_cons_succ]
              refine wpAnyH_take (i := 3) (v := ?_) rfl (by kernel_rfl) (by kernel_rfl) (by kernel_rfl) (fun _ _ _ h => h) (Or.inl ⟨by first | kernel_rfl | rfl, ?_⟩) (by assumption) ?_
              rotate_left
              · intro wx hSw; (try dsimp only at hSw); go_simp; first | done | with_reducible rfl
              try simp only [Act.put, List.getElem_toArray, List.getElem_cons_zero, List.getElem_cons_succ, List.setIfInBounds_toArray, List.set_cons_zero, List.set_cons_succ]
              refine wpAnyH_take (i := 4) (v := ?_) rfl (by kernel_rfl) (by kernel_rfl) (by kernel_rfl) (fun _ _ _ h => h) (Or.inl ⟨by first | kernel_rfl | rfl, ?_⟩) (by assumption) ?_
              rotate_left
              · intro wx hSw; (try dsimp only at hSw); go_simp; first | done | with_reducible rfl
              try simp only [Act.put, List.getElem_toArray, List.getElem_cons_zero, List.getElem_cons_succ, List.setIfInBounds_toArray, List.set_cons_zero, List.set_cons_succ]
              refine wpAnyH_take (i := 5) (v := ?_) rfl (by kernel_rfl) (by kernel_rfl) (by kernel_rfl) (fun _ _ _ h => h) (Or.inl ⟨by first | kernel_rfl | rfl, ?_⟩) (by assumption) ?_
              rotate_left
              · intro wx hSw; (try dsimp only at hSw); go_simp; first | done | with_reducible rfl
              try simp only [Act.put, List.getElem_toArray, List.getElem_cons_zero, List.getElem_cons_succ, List.setIfInBounds_toArray, List.set_cons_zero, List.set_cons_succ]
              refine wpAnyH_take (i := 6) (v := ?_) rfl (by kernel_rfl) (by kernel_rfl) (by kernel_rfl) (fun _ _ _ h => h) (Or.inl ⟨by first | kernel_rfl | rfl, ?_⟩) (by assumption) ?_
              rotate_left
              · intro wx hSw; (try dsimp only at hSw); go_simp; first | done | with_reducible rfl
              try simp only [Act.put, List.getElem_toArray, List.getElem_cons_zero, List.getElem_cons_succ, List.setIfInBounds_toArray, List.set_cons_zero, List.set_cons_succ]
              refine wpAnyH_take (i := 7) (v := ?_) rfl (by kernel_rfl) (by kernel_rfl) (by kernel_rfl) (fun _ _ _ h => h) (Or.inl ⟨by first | kernel_rfl | rfl, ?_⟩) (by assumption) ?_
              rotate_left
              · intro wx hSw; (try dsimp only at hSw); go_simp; first | done | with_reducible rfl
              try simp only [Act.put, List.getElem_toArray, List.getElem_cons_zero, List.getElem_cons_succ, List.setIfInBounds_toArray, List.set_cons_zero, List.set_cons_succ]
              refine wpAnyH_take (i := 8) (v := ?_) rfl (by kernel_rfl) (by kernel_rfl) (by kernel_rfl) (fun _ _ _ h => h) (Or.inl ⟨by first | kernel_rfl | rfl, ?_⟩) (by assumption) ?_
              rotate_left
              · intro wx hSw; (try dsimp only at hSw); go_simp; first | done | with_reducible rfl
              try simp only [Act.put, List.getElem_toArray, List.getElem_cons_zero, List.getElem_cons_succ, List.setIfInBounds_toArray, List.set_cons_zero, List.set_cons_succ]
              refine wpAnyH_take (i := 9) (v := ?_) rfl (by kernel_rfl) (by kernel_rfl) (by kernel_rfl) (fun _ _ _ h => h) (Or.inl ⟨by first | kernel_rfl | rfl, ?_⟩) (by assumption) ?_
              rotate_left
              · intro wx hSw; (try dsimp only at hSw); go_simp; first | done | with_reducible rfl
              try simp only [Act.put, List.getElem_toArray, List.getElem_cons_zero, List.getElem_cons_succ, List.setIfInBounds_toArray, List.set_cons_zero, List.set_cons_succ]
              refine wpAnyH_ready (rs := [10]) (by kernel_rfl) (by simp) ?_
              refine AllReadyH.cons rfl (fun K hK => ?_) AllReadyH.nil
              go_simp
              (refine (KF.out _ (B2r.out.trans ((undrew (Below.refl _ _)).mono B2r.out.size))).mono ?_; rintro e w9 ⟨rfl, b9⟩; have b9 := undrew b9; have B9 := Lib.hid (B2.out.trans (b9.mono B2.out.size)); have X9 := Lib.hid (X2.out.later b9); have Y9 := Lib.hid (Y2.out.later b9); have z0 := X9.out.cells 0 _ rfl; have z1 := X9.out.cells 1 _ rfl; have v1 := Y9.out.cells 1 _ rfl; have v2 := Y9.out.cells 2 _ rfl; have d9 : w9.cell? ⟨b, off, none⟩ = some (.int .i64 x9) := (b9.cell (p := ⟨b, off, none⟩) (Nat.lt_of_lt_of_le HBL.out B2r.out.size)).trans d0; clear b9)
              (try go_wp2_with fail)
              refine hK.out _ _ ?_ (fun hHeld10 => ?_)
              · (try dsimp only); go_keep
              clear hK K
              try simp only [Act.put, List.getElem_toArray, List.getElem_cons_zero, List.getElem_cons_succ, List.setIfInBounds_toArray, List.set_cons_zero, List.set_cons_succ]
              refine wpAnyH_take (i := 11) (v := ?_) rfl (by kernel_rfl) (by kernel_rfl) (by kernel_rfl) (fun _ _ _ h => h) (Or.inl ⟨by first | kernel_rfl | rfl, ?_⟩) (by assumption) ?_
              rotate_left
              · intro wx hSw; (try dsimp only at hSw); go_simp; first | done | with_reducible rfl
              try simp only [Act.put, List.getElem_toArray, List.getElem_cons_zero, List.getElem_cons_succ, List.setIfInBounds_toArray, List.set_cons_zero, List.set_cons_succ]
              refine wpAnyH_take (i := 12) (v := ?_) rfl (by kernel_rfl) (by kernel_rfl) (by kernel_rfl) (fun _ _ _ h => h) (Or.inl ⟨by first | kernel_rfl | rfl, ?_⟩) (by assumption) ?_
              rotate_left
              · intro wx hSw; (try dsimp only at hSw); go_simp; first | done | with_reducible rfl
              try simp only [Act.put, List.getElem_toArray, List.getElem_cons_zero, List.getElem_cons_succ, List.setIfInBounds_toArray, List.set_cons_zero, List.set_cons_succ]
              refine wpAnyH_take (i := 13) (v := ?_) rfl (by kernel_rfl) (by kernel_rfl) (by kernel_rfl) (fun _ _ _ h => h) (Or.inl ⟨by first | kernel_rfl | rfl, ?_⟩) (by assumption) ?_
              rotate_left
              · intro wx hSw; (try dsimp only at hSw); go_simp; first | done | with_reducible rfl
              try simp only [Act.put, List.getElem_toArray, List.getElem_cons_zero, List.getElem_cons_succ, List.setIfInBounds_toArray, List.set_cons_zero, List.set_cons_succ]
              refine wpAnyH_take (i := 14) (v := ?_) rfl (by kernel_rfl) (by kernel_rfl) (by kernel_rfl) (fun _ _ _ h => h) (Or.inl ⟨by first | kernel_rfl | rfl, ?_⟩) (by assumption) ?_
              rotate_left
              · intro wx hSw; (try dsimp only at hSw); go_simp; first | done | with_reducible rfl
              try simp only [Act.put, List.getElem_toArray, List.getElem_cons_zero, List.getElem_cons_succ, List.setIfInBounds_toArray, List.set_cons_zero, List.set_cons_succ]
              refine wpAnyH_take (i := 15) (v := ?_) rfl (by kernel_rfl) (by kernel_rfl) (by kernel_rfl) (fun _ _ _ h => h) (Or.inl ⟨by first | kernel_rfl | rfl, ?_⟩) (by assumption) ?_
              rotate_left
              · intro wx hSw; (try dsimp only at hSw); go_simp; first | done | with_reducible rfl
              try simp only [Act.put, List.getElem_toArray, List.getElem_cons_zero, List.getElem_cons_succ, List.setIfInBounds_toArray, List.set_cons_zero, List.set_cons_succ]
              refine wpAnyH_take (i := 16) (v := undef) rfl (by kernel_rfl) (by kernel_rfl) (by kernel_rfl) (fun _ _ _ h => h) (Or.inr ⟨by kernel_rfl, rfl⟩) (by assumption) ?_
              try simp only [Act.put, List.getElem_toArray, List.getElem_cons_zero, List.getElem_cons_succ, List.setIfInBounds_toArray, List.set_cons_zero, List.set_cons_succ]
              refine wpAnyH_take (i := 17) (v := undef) rfl (by kernel_rfl) (by kernel_rfl) (by kernel_rfl) (fun _ _ _ h => h) (Or.inr ⟨by kernel_rfl, rfl⟩) (by assumption) ?_
              try simp only [Act.put, List.getElem_toArray, List.getElem_cons_zero, List.getElem_cons_succ, List.setIfInBounds_toArray, List.set_cons_zero, List.set_cons_succ]
              refine wpAnyH_take (i := 18) (v := ?_) rfl (by kernel_rfl) (by kernel_rfl) (by kernel_rfl) (fun _ _ _ h => h) (Or.inl ⟨by first | kernel_rfl | rfl, ?_⟩) (by assumption) ?_
              rotate_left
              · intro wx hSw; (try dsimp only at hSw); go_simp; first | done | with_reducible rfl
              try simp only [Act.put, List.getElem_toArray, List.getElem_cons_zero, List.getElem_cons_succ, List.setIfInBounds_toArray, List.set_cons_zero, List.set_cons_succ]
              refine wpAnyH_take (i := 19) (v := ?_) rfl (by kernel_rfl) (by kernel_rfl) (by kernel_rfl) (fun _ _ _ h => h) (Or.inl ⟨by first | kernel_rfl | rfl, ?_⟩) (by assumption) ?_
              rotate_left
              · intro wx hSw; (try dsimp only at hSw); go_simp; first | done | with_reducible rfl
              try simp only [Act.put, List.getElem_toArray, List.getElem_cons_zero, List.getElem_cons_succ, List.setIfInBounds_toArray, List.set_cons_zero, List.set_cons_succ]
              refine wpAnyH_take (i := 20) (v := ?_) rfl (by kernel_rfl) (by kernel_rfl) (by kernel_rfl) (fun _ _ _ h => h) (Or.inl ⟨by first | kernel_rfl | rfl, ?_⟩) (by assumption) ?_
              rotate_left
              · intro wx hSw; (try dsimp only at hSw); go_simp; first | done | with_reducible rfl
              try simp only [Act.put, List.getElem_toArray, List.getElem_cons_zero, List.getElem_cons_succ, List.setIfInBounds_toArray, List.set_cons_zero, List.set_cons_succ]
              refine wpAnyH_done (by kernel_rfl) ?_ _
              refine NoPanic.normal ?_
              go_wp2
              go_roundw
              case rel => exact ⟨q + 1, by omega, by go_num, G.out, X9.out, Y9.out, B9.out⟩
              case measure => simp [intOf]; omega
            · by_cases h2 : k = 2
              · have G := Lib.hid (PQ.out ⟨fun e => by omega, fun _ => ⟨hk, .inr h2⟩⟩)
                subst h2
                subst hk
                clear h1
                go_wp2
                refine wp_region_noPanic ?_
                refine wp_region_held_drew (S := (fun w' => w'.cell? ⟨w.heap.size, 0, none⟩ = some (.slice da dn dc) ∧ w'.cell? ⟨w.heap.size, 1, none⟩ = some (.slice ba bn bc) ∧ w'.cell? ⟨w.heap.size + 1, 1, none⟩ = some (.int .i64 3) ∧ w'.cell? ⟨w.heap.size + 1, 2, none⟩ = some (.slice (some ⟨b, off, none⟩) n cap) ∧ w'.cell? ⟨b, off, none⟩ = some (.int .i64 x9))) (by kernel_rfl) ?_ (fun hHeld => ?_)
                · go_keep
                refine wpAnyH_take (i := 0) (v := ?_) rfl (by kernel_rfl) (by kernel_rfl) (by kernel_rfl) (fun _ _ _ h => h) (Or.inl ⟨by first | kernel_rfl | rfl, ?_⟩) (by assumption) ?_
                rotate_left
                · intro wx hSw; (try dsimp only at hSw); go_simp; first | done | with_reducible rfl
                try simp only [Act.put, List.getElem_toArray, List.getElem_cons_zero, List.getElem_cons_succ, List.setIfInBounds_toArray, List.set_cons_zero, List.set_cons_succ]
                refine wpAnyH_take (i := 1) (v := ?_) rfl (by kernel_rfl) (by kernel_rfl) (by kernel_rfl) (fun _ _ _ h => h) (Or.inl ⟨by first | kernel_rfl | rfl, ?_⟩) (by assumption) ?_
                rotate_left
                · intro wx hSw; (try dsimp only at hSw); go_simp; first | done | with_reducible rfl
                try simp only [Act.put, List.getElem_toArray, List.getElem_cons_zero, List.getElem_cons_succ, List.setIfInBounds_toArray, List.set_cons_zero, List.set_cons_succ]
                refine wpAnyH_take (i := 2) (v := ?_) rfl (by kernel_rfl) (by kernel_rfl) (by kernel_rfl) (fun _ _ _ h => h) (Or.inl ⟨by first | kernel_rfl | rfl, ?_⟩) (by assumption) ?_
                rotate_left
                · intro wx hSw; (try dsimp only at hSw); go_simp; first | done | with_reducible rfl
                try simp only [Act.put, List.getElem_toArray, List.getElem_cons_zero, List.getElem_cons_succ, List.setIfInBounds_toArray, List.set_cons_zero, List.set_cons_succ]
                refine wpAnyH_take (i := 3) (v := ?_) rfl (by kernel_rfl) (by kernel_rfl) (by kernel_rfl) (fun _ _ _ h => h) (Or.inl ⟨by first | kernel_rfl | rfl, ?_⟩) (by assumption) ?_
                rotate_left
                · intro wx hSw; (try dsimp only at hSw); go_simp; first | done | with_reducible rfl
                try simp only [Act.put, List.getElem_toArray, List.getElem_cons_zero, List.getElem_cons_succ, List.setIfInBounds_toArray, List.set_cons_zero, List.set_cons_succ]
                refine wpAnyH_take (i := 4) (v := ?_) rfl (by kernel_rfl) (by kernel_rfl) (by kernel_rfl) (fun _ _ _ h => h) (Or.inl ⟨by first | kernel_rfl | rfl, ?_⟩) (by assumption) ?_
                rotate_left
                · intro wx hSw; (try dsimp only at hSw); go_simp; first | done | with_reducible rfl
                try simp only [Act.put, List.getElem_toArray, List.getElem_cons_zero, List.getElem_cons_succ, List.setIfInBounds_toArray, List.set_cons_zero, List.set_cons_succ]
                refine wpAnyH_take (i := 5) (v := ?_) rfl (by kernel_rfl) (by kernel_rfl) (by kernel_rfl) (fun _ _ _ h => h) (Or.inl ⟨by first | kernel_rfl | rfl, ?_⟩) (by assumption) ?_
                rotate_left
                · intro wx hSw; (try dsimp only at hSw); go_simp; first | done | with_reducible rfl
                try simp only [Act.put, List.getElem_toArray, List.getElem_cons_zero, List.getElem_cons_succ, List.setIfInBounds_toArray, List.set_cons_zero, List.set_cons_succ]
                refine wpAnyH_take (i := 6) (v := ?_) rfl (by kernel_rfl) (by kernel_rfl) (by kernel_rfl) (fun _ _ _ h => h) (Or.inl ⟨by first | kernel_rfl | rfl, ?_⟩) (by assumption) ?_
                rotate_left
                · intro wx hSw; (try dsimp only at hSw); go_simp; first | done | with_reducible rfl
                try simp only [Act.put, List.getElem_toArray, List.getElem_cons_zero, List.getElem_cons_succ, List.setIfInBounds_toArray, List.set_cons_zero, List.set_cons_succ]
                refine wpAnyH_take (i := 7) (v := ?_) rfl (by kernel_rfl) (by kernel_rfl) (by kernel_rfl) (fun _ _ _ h => h) (Or.inl ⟨by first | kernel_rfl | rfl, ?_⟩) (by assumption) ?_
                rotate_left
                · intro wx hSw; (try dsimp only at hSw); go_simp; first | done | with_reducible rfl
                try simp only [Act.put, List.getElem_toArray, List.getElem_cons_zero, List.getElem_cons_succ, List.setIfInBounds_toArray, List.set_cons_zero, List.set_cons_succ]
                refine wpAnyH_take (i := 8) (v := ?_) rfl (by kernel_rfl) (by kernel_rfl) (by kernel_rfl) (fun _ _ _ h => h) (Or.inl ⟨by first | kernel_rfl | rfl, ?_⟩) (by assumption) ?_
                rotate_left
                · intro wx hSw; (try dsimp only at hSw); go_simp; first | done | with_reducible rfl
                try simp only [Act.put, List.getElem_toArray, List.getElem_cons_zero, List.getElem_cons_succ, List.setIfInBounds_toArray, List.set_cons_zero, List.set_cons_succ]
                refine wpAnyH_take (i := 9) (v := ?_) rfl (by kernel_rfl) (by kernel_rfl) (by kernel_rfl) (fun _ _ _ h => h) (Or.inl ⟨by first | kernel_rfl | rfl, ?_⟩) (by assumption) ?_
                rotate_left
                · intro wx hSw; (try dsimp only at hSw); go_simp; first | done | with_reducible rfl
                try simp only [Act.put, List.getElem_toArray, List.getElem_cons_zero, List.getElem_cons_succ, List.setIfInBounds_toArray, List.set_cons_zero, List.set_cons_succ]
                refine wpAnyH_ready (rs := [10]) (by kernel_rfl) (by simp) ?_
                refine AllReadyH.cons rfl (fun K hK => ?_) AllReadyH.nil
                go_simp
                (refine (KF.out _ (B2r.out.trans ((undrew (Below.refl _ _)).mono B2r.out.size))).mono ?_; rintro e w9 ⟨rfl, b9⟩; have b9 := undrew b9; have B9 := Lib.hid (B2.out.trans (b9.mono B2.out.size)); have X9 := Lib.hid (X2.out.later b9); have Y9 := Lib.hid (Y2.out.later b9); have z0 := X9.out.cells 0 _ rfl; have z1 := X9.out.cells 1 _ rfl; have v1 := Y9.out.cells 1 _ rfl; have v2 := Y9.out.cells 2 _ rfl; have d9 : w9.cell? ⟨b, off, none⟩ = some (.int .i64 x9) := (b9.cell (p := ⟨b, off, none⟩) (Nat.lt_of_lt_of_le HBL.out B2r.out.size)).trans d0; clear b9)
                (try go_wp2_with fail)
                refine hK.out _ _ ?_ (fun hHeld10 => ?_)
                · (try dsimp only); go_keep
                clear hK K
                try simp only [Act.put, List.getElem_toArray, List.getElem_cons_zero, List.getElem_cons_succ, List.setIfInBounds_toArray, List.set_cons_zero, List.set_cons_succ]
                refine wpAnyH_take (i := 11) (v := ?_) rfl (by kernel_rfl) (by kernel_rfl) (by kernel_rfl) (fun _ _ _ h => h) (Or.inl ⟨by first | kernel_rfl | rfl, ?_⟩) (by assumption) ?_
                rotate_left
                · intro wx hSw; (try dsimp only at hSw); go_simp; first | done | with_reducible rfl
                try simp only [Act.put, List.getElem_toArray, List.getElem_cons_zero, List.getElem_cons_succ, List.setIfInBounds_toArray, List.set_cons_zero, List.set_cons_succ]
                refine wpAnyH_take (i := 12) (v := ?_) rfl (by kernel_rfl) (by kernel_rfl) (by kernel_rfl) (fun _ _ _ h => h) (Or.inl ⟨by first | kernel_rfl | rfl, ?_⟩) (by assumption) ?_
                rotate_left
                · intro wx hSw; (try dsimp only at hSw); go_simp; first | done | with_reducible rfl
                try simp only [Act.put, List.getElem_toArray, List.getElem_cons_zero, List.getElem_cons_succ, List.setIfInBounds_toArray, List.set_cons_zero, List.set_cons_succ]
                refine wpAnyH_take (i := 13) (v := ?_) rfl (by kernel_rfl) (by kernel_rfl) (by kernel_rfl) (fun _ _ _ h => h) (Or.inl ⟨by first | kernel_rfl | rfl, ?_⟩) (by assumption) ?_
                rotate_left
                · intro wx hSw; (try dsimp only at hSw); go_simp; first | done | with_reducible rfl
                try simp only [Act.put, List.getElem_toArray, List.getElem_cons_zero, List.getElem_cons_succ, List.setIfInBounds_toArray, List.set_cons_zero, List.set_cons_succ]
                refine wpAnyH_take (i := 14) (v := ?_) rfl (by kernel_rfl) (by kernel_rfl) (by kernel_rfl) (fun _ _ _ h => h) (Or.inl ⟨by first | kernel_rfl | rfl, ?_⟩) (by assumption) ?_
                rotate_left
                · intro wx hSw; (try dsimp only at hSw); go_simp; first | done | with_reducible rfl
                try simp only [Act.put, List.getElem_toArray, List.getElem_cons_zero, List.getElem_cons_succ, List.setIfInBounds_toArray, List.set_cons_zero, List.set_cons_succ]
                refine wpAnyH_take (i := 15) (v := ?_) rfl (by kernel_rfl) (by kernel_rfl) (by kernel_rfl) (fun _ _ _ h => h) (Or.inl ⟨by first | kernel_rfl | rfl, ?_⟩) (by assumption) ?_
                rotate_left
                · intro wx hSw; (try dsimp only at hSw); go_simp; first | done | with_reducible rfl
                try simp only [Act.put, List.getElem_toArray, List.getElem_cons_zero, List.getElem_cons_succ, List.setIfInBounds_toArray, List.set_cons_zero, List.set_cons_succ]
                refine wpAnyH_take (i := 16) (v := ?_) rfl (by kernel_rfl) (by kernel_rfl) (by kernel_rfl) (fun _ _ _ h => h) (Or.inl ⟨by first | kernel_rfl | rfl, ?_⟩) (by assumption) ?_
                rotate_left
                · intro wx hSw; (try dsimp only at hSw); go_simp; first | done | with_reducible rfl
                try simp only [Act.put, List.getElem_toArray, List.getElem_cons_zero, List.getElem_cons_succ, List.setIfInBounds_toArray, List.set_cons_zero, List.set_cons_succ]
                refine wpAnyH_take (i := 17) (v := ?_) rfl (by kernel_rfl) (by kernel_rfl) (by kernel_rfl) (fun _ _ _ h => h) (Or.inl ⟨by first | kernel_rfl | rfl, ?_⟩) (by assumption) ?_
                rotate_left
                · intro wx hSw; (try dsimp only at hSw); go_simp; first | done | with_reducible rfl
                try simp only [Act.put, List.getElem_toArray, List.getElem_cons_zero, List.getElem_cons_succ, List.setIfInBounds_toArray, List.set_cons_zero, List.set_cons_succ]
                refine wpAnyH_take (i := 18) (v := ?_) rfl (by kernel_rfl) (by kernel_rfl) (by kernel_rfl) (fun _ _ _ h => h) (Or.inl ⟨by first | kernel_rfl | rfl, ?_⟩) (by assumption) ?_
                rotate_left
                · intro wx hSw; (try dsimp only at hSw); go_simp; first | done | with_reducible rfl
                try simp only [Act.put, List.getElem_toArray, List.getElem_cons_zero, List.getElem_cons_succ, List.setIfInBounds_toArray, List.set_cons_zero, List.set_cons_succ]
                refine wpAnyH_take (i := 19) (v := ?_) rfl (by kernel_rfl) (by kernel_rfl) (by kernel_rfl) (fun _ _ _ h => h) (Or.inl ⟨by first | kernel_rfl | rfl, ?_⟩) (by assumption) ?_
                rotate_left
                · intro wx hSw; (try dsimp only at hSw); go_simp; first | done | with_reducible rfl
                try simp only [Act.put, List.getElem_toArray, List.getElem_cons_zero, List.getElem_cons_succ, List.setIfInBounds_toArray, List.set_cons_zero, List.set_cons_succ]
                refine wpAnyH_take (i := 20) (v := ?_) rfl (by kernel_rfl) (by kernel_rfl) (by kernel_rfl) (fun _ _ _ h => h) (Or.inl ⟨by first | kernel_rfl | rfl, ?_⟩) (by assumption) ?_
                rotate_left
                · intro wx hSw; (try dsimp only at hSw); go_simp; first | done | with_reducible rfl
                try simp only [Act.put, List.getElem_toArray, List.getElem_cons_zero, List.getElem_cons_succ, List.setIfInBounds_toArray, List.set_cons_zero, List.set_cons_succ]
                refine wpAnyH_done (by kernel_rfl) ?_ _
                refine NoPanic.normal ?_
                go_wp2
                go_roundw
                case rel => exact ⟨q + 1, by omega, by go_num, G.out, X9.out, Y9.out, B9.out⟩
                case measure => simp [intOf]; omega
              · have G := Lib.hid (BQ.out fun H => by have := (H.2 rfl).2; omega)
                have j1 : (k != 1) = true := by simpa using h1
                have j2 : (k != 2) = true := by simpa using h2
                subst hk
                clear h1 h2
                go_wp2
                refine wp_region_noPanic ?_
                refine wp_region_held_drew (S := (fun w' => w'.cell? ⟨w.heap.size, 0, none⟩ = some (.slice da dn dc) ∧ w'.cell? ⟨w.heap.size, 1, none⟩ = some (.slice ba bn bc) ∧ w'.cell? ⟨w.heap.size + 1, 1, none⟩ = some (.int .i64 3) ∧ w'.cell? ⟨w.heap.size + 1, 2, none⟩ = some (.slice (some ⟨b, off, none⟩) n cap) ∧ w'.cell? ⟨b, off, none⟩ = some (.int .i64 x9))) (by kernel_rfl) ?_ (fun hHeld => ?_)
                · go_keep
                refine wpAnyH_take (i := 0) (v := ?_) rfl (by kernel_rfl) (by kernel_rfl) (by kernel_rfl) (fun _ _ _ h => h) (Or.inl ⟨by first | kernel_rfl | rfl, ?_⟩) (by assumption) ?_
                rotate_left
                · intro wx hSw; (try dsimp only at hSw); go_simp; first | done | with_reducible rfl
                try simp only [Act.put, List.getElem_toArray, List.getElem_cons_zero, List.getElem_cons_succ, List.setIfInBounds_toArray, List.set_cons_zero, List.set_cons_succ]
                refine wpAnyH_take (i := 1) (v := ?_) rfl (by kernel_rfl) (by kernel_rfl) (by kernel_rfl) (fun _ _ _ h => h) (Or.inl ⟨by first | kernel_rfl | rfl, ?_⟩) (by assumption) ?_
                rotate_left
                · intro wx hSw; (try dsimp only at hSw); go_simp; first | done | with_reducible rfl
                try simp only [Act.put, List.getElem_toArray, List.getElem_cons_zero, List.getElem_cons_succ, List.setIfInBounds_toArray, List.set_cons_zero, List.set_cons_succ]
                refine wpAnyH_take (i := 2) (v := ?_) rfl (by kernel_rfl) (by kernel_rfl) (by kernel_rfl) (fun _ _ _ h => h) (Or.inl ⟨by first | kernel_rfl | rfl, ?_⟩) (by assumption) ?_
                rotate_left
                · intro wx hSw; (try dsimp only at hSw); go_simp; first | done | with_reducible rfl
                try simp only [Act.put, List.getElem_toArray, List.getElem_cons_zero, List.getElem_cons_succ, List.setIfInBounds_toArray, List.set_cons_zero, List.set_cons_succ]
                refine wpAnyH_take (i := 3) (v := ?_) rfl (by kernel_rfl) (by kernel_rfl) (by kernel_rfl) (fun _ _ _ h => h) (Or.inl ⟨by first | kernel_rfl | rfl, ?_⟩) (by assumption) ?_
                rotate_left
                · intro wx hSw; (try dsimp only at hSw); go_simp; first | done | with_reducible rfl
                try simp only [Act.put, List.getElem_toArray, List.getElem_cons_zero, List.getElem_cons_succ, List.setIfInBounds_toArray, List.set_cons_zero, List.set_cons_succ]
                refine wpAnyH_take (i := 4) (v := ?_) rfl (by kernel_rfl) (by kernel_rfl) (by kernel_rfl) (fun _ _ _ h => h) (Or.inl ⟨by first | kernel_rfl | rfl, ?_⟩) (by assumption) ?_
                rotate_left
                · intro wx hSw; (try dsimp only at hSw); go_simp; first | done | with_reducible rfl
                try simp only [Act.put, List.getElem_toArray, List.getElem_cons_zero, List.getElem_cons_succ, List.setIfInBounds_toArray, List.set_cons_zero, List.set_cons_succ]
                refine wpAnyH_take (i := 5) (v := ?_) rfl (by kernel_rfl) (by kernel_rfl) (by kernel_rfl) (fun _ _ _ h => h) (Or.inl ⟨by first | kernel_rfl | rfl, ?_⟩) (by assumption) ?_
                rotate_left
                · intro wx hSw; (try dsimp only at hSw); go_simp; first | done | with_reducible rfl
                try simp only [Act.put, List.getElem_toArray, List.getElem_cons_zero, List.getElem_cons_succ, List.setIfInBounds_toArray, List.set_cons_zero, List.set_cons_succ]
                refine wpAnyH_take (i := 6) (v := ?_) rfl (by kernel_rfl) (by kernel_rfl) (by kernel_rfl) (fun _ _ _ h => h) (Or.inl ⟨by first | kernel_rfl | rfl, ?_⟩) (by assumption) ?_
                rotate_left
                · intro wx hSw; (try dsimp only at hSw); go_simp; first | done | with_reducible rfl
                try simp only [Act.put, List.getElem_toArray, List.getElem_cons_zero, List.getElem_cons_succ, List.setIfInBounds_toArray, List.set_cons_zero, List.set_cons_succ]
                refine wpAnyH_take (i := 7) (v := ?_) rfl (by kernel_rfl) (by kernel_rfl) (by kernel_rfl) (fun _ _ _ h => h) (Or.inl ⟨by first | kernel_rfl | rfl, ?_⟩) (by assumption) ?_
                rotate_left
                · intro wx hSw; (try dsimp only at hSw); go_simp; first | done | with_reducible rfl
                try simp only [Act.put, List.getElem_toArray, List.getElem_cons_zero, List.getElem_cons_succ, List.setIfInBounds_toArray, List.set_cons_zero, List.set_cons_succ]
                refine wpAnyH_take (i := 8) (v := ?_) rfl (by kernel_rfl) (by kernel_rfl) (by kernel_rfl) (fun _ _ _ h => h) (Or.inl ⟨by first | kernel_rfl | rfl, ?_⟩) (by assumption) ?_
                rotate_left
                · intro wx hSw; (try dsimp only at hSw); go_simp; first | done | with_reducible rfl
                try simp only [Act.put, List.getElem_toArray, List.getElem_cons_zero, List.getElem_cons_succ, List.setIfInBounds_toArray, List.set_cons_zero, List.set_cons_succ]
                refine wpAnyH_take (i := 9) (v := ?_) rfl (by kernel_rfl) (by kernel_rfl) (by kernel_rfl) (fun _ _ _ h => h) (Or.inl ⟨by first | kernel_rfl | rfl, ?_⟩) (by assumption) ?_
                rotate_left
                · intro wx hSw; (try dsimp only at hSw); go_simp; first | done | with_reducible rfl
                try simp only [Act.put, List.getElem_toArray, List.getElem_cons_zero, List.getElem_cons_succ, List.setIfInBounds_toArray, List.set_cons_zero, List.set_cons_succ]
                refine wpAnyH_ready (rs := [10]) (by kernel_rfl) (by simp) ?_
                refine AllReadyH.cons rfl (fun K hK => ?_) AllReadyH.nil
                go_simp
                (refine (KF.out _ (B2r.out.trans ((undrew (Below.refl _ _)).mono B2r.out.size))).mono ?_; rintro e w9 ⟨rfl, b9⟩; have b9 := undrew b9; have B9 := Lib.hid (B2.out.trans (b9.mono B2.out.size)); have X9 := Lib.hid (X2.out.later b9); have Y9 := Lib.hid (Y2.out.later b9); have z0 := X9.out.cells 0 _ rfl; have z1 := X9.out.cells 1 _ rfl; have v1 := Y9.out.cells 1 _ rfl; have v2 := Y9.out.cells 2 _ rfl; have d9 : w9.cell? ⟨b, off, none⟩ = some (.int .i64 x9) := (b9.cell (p := ⟨b, off, none⟩) (Nat.lt_of_lt_of_le HBL.out B2r.out.size)).trans d0; clear b9)
                (try go_wp2_with fail)
                refine hK.out _ _ ?_ (fun hHeld10 => ?_)
                · (try dsimp only); go_keep
                clear hK K
                try simp only [Act.put, List.getElem_toArray, List.getElem_cons_zero, List.getElem_cons_succ, List.setIfInBounds_toArray, List.set_cons_zero, List.set_cons_succ]
                refine wpAnyH_take (i := 11) (v := ?_) rfl (by kernel_rfl) (by kernel_rfl) (by kernel_rfl) (fun _ _ _ h => h) (Or.inl ⟨by first | kernel_rfl | rfl, ?_⟩) (by assumption) ?_
                rotate_left
                · intro wx hSw; (try dsimp only at hSw); go_simp; first | done | with_reducible rfl
                try simp only [Act.put, List.getElem_toArray, List.getElem_cons_zero, List.getElem_cons_succ, List.setIfInBounds_toArray, List.set_cons_zero, List.set_cons_succ]
                refine wpAnyH_take (i := 12) (v := ?_) rfl (by kernel_rfl) (by kernel_rfl) (by kernel_rfl) (fun _ _ _ h => h) (Or.inl ⟨by first | kernel_rfl | rfl, ?_⟩) (by assumption) ?_
                rotate_left
                · intro wx hSw; (try dsimp only at hSw); go_simp; first | done | with_reducible rfl
                try simp only [Act.put, List.getElem_toArray, List.getElem_cons_zero, List.getElem_cons_succ, List.setIfInBounds_toArray, List.set_cons_zero, List.set_cons_succ]
                refine wpAnyH_take (i := 13) (v := ?_) rfl (by kernel_rfl) (by kernel_rfl) (by kernel_rfl) (fun _ _ _ h => h) (Or.inl ⟨by first | kernel_rfl | rfl, ?_⟩) (by assumption) ?_
                rotate_left
                · intro wx hSw; (try dsimp only at hSw); go_simp; first | done | with_reducible rfl
                try simp only [Act.put, List.getElem_toArray, List.getElem_cons_zero, List.getElem_cons_succ, List.setIfInBounds_toArray, List.set_cons_zero, List.set_cons_succ]
                refine wpAnyH_take (i := 14) (v := ?_) rfl (by kernel_rfl) (by kernel_rfl) (by kernel_rfl) (fun _ _ _ h => h) (Or.inl ⟨by first | kernel_rfl | rfl, ?_⟩) (by assumption) ?_
                rotate_left
                · intro wx hSw; (try dsimp only at hSw); go_simp; first | done | with_reducible rfl
                try simp only [Act.put, List.getElem_toArray, List.getElem_cons_zero, List.getElem_cons_succ, List.setIfInBounds_toArray, List.set_cons_zero, List.set_cons_succ]
                refine wpAnyH_take (i := 15) (v := ?_) rfl (by kernel_rfl) (by kernel_rfl) (by kernel_rfl) (fun _ _ _ h => h) (Or.inl ⟨by first | kernel_rfl | rfl, ?_⟩) (by assumption) ?_
                rotate_left
                · intro wx hSw; (try dsimp only at hSw); go_simp; first | done | with_reducible rfl
                try simp only [Act.put, List.getElem_toArray, List.getElem_cons_zero, List.getElem_cons_succ, List.setIfInBounds_toArray, List.set_cons_zero, List.set_cons_succ]
                refine wpAnyH_take (i := 16) (v := ?_) rfl (by kernel_rfl) (by kernel_rfl) (by kernel_rfl) (fun _ _ _ h => h) (Or.inl ⟨by first | kernel_rfl | rfl, ?_⟩) (by assumption) ?_
                rotate_left
                · intro wx hSw; (try dsimp only at hSw); go_simp; first | done | with_reducible rfl
                try simp only [Act.put, List.getElem_toArray, List.getElem_cons_zero, List.getElem_cons_succ, List.setIfInBounds_toArray, List.set_cons_zero, List.set_cons_succ]
                refine wpAnyH_take (i := 17) (v := ?_) rfl (by kernel_rfl) (by kernel_rfl) (by kernel_rfl) (fun _ _ _ h => h) (Or.inl ⟨by first | kernel_rfl | rfl, ?_⟩) (by assumption) ?_
                rotate_left
                · intro wx hSw; (try dsimp only at hSw); go_simp; first | done | with_reducible rfl
                try simp only [Act.put, List.getElem_toArray, List.getElem_cons_zero, List.getElem_cons_succ, List.setIfInBounds_toArray, List.set_cons_zero, List.set_cons_succ]
                refine wpAnyH_take (i := 18) (v := ?_) rfl (by kernel_rfl) (by kernel_rfl) (by kernel_rfl) (fun _ _ _ h => h) (Or.inl ⟨by first | kernel_rfl | rfl, ?_⟩) (by assumption) ?_
                rotate_left
                · intro wx hSw; (try dsimp only at hSw); go_simp; first | done | with_reducible rfl
                try simp only [Act.put, List.getElem_toArray, List.getElem_cons_zero, List.getElem_cons_succ, List.setIfInBounds_toArray, List.set_cons_zero, List.set_cons_succ]
                refine wpAnyH_take (i := 19) (v := ?_) rfl (by kernel_rfl) (by kernel_rfl) (by kernel_rfl) (fun _ _ _ h => h) (Or.inl ⟨by first | kernel_rfl | rfl, ?_⟩) (by assumption) ?_
                rotate_left
                · intro wx hSw; (try dsimp only at hSw); go_simp; first | done | with_reducible rfl
                try simp only [Act.put, List.getElem_toArray, List.getElem_cons_zero, List.getElem_cons_succ, List.setIfInBounds_toArray, List.set_cons_zero, List.set_cons_succ]
                refine wpAnyH_take (i := 20) (v := ?_) rfl (by kernel_rfl) (by kernel_rfl) (by kernel_rfl) (fun _ _ _ h => h) (Or.inl ⟨by first | kernel_rfl | rfl, ?_⟩) (by assumption) ?_
                rotate_left
                · intro wx hSw; (try dsimp only at hSw); go_simp; first | done | with_reducible rfl
                try simp only [Act.put, List.getElem_toArray, List.getElem_cons_zero, List.getElem_cons_succ, List.setIfInBounds_toArray, List.set_cons_zero, List.set_cons_succ]
                refine wpAnyH_done (by kernel_rfl) ?_ _
                refine NoPanic.normal ?_
                go_wp2
                go_ret
                exact IffB.no G.out B9.out
          · have G := Lib.hid (BQ.out fun H => hk (H.2 rfl).1)
            have jk : (k != f) = true := by simpa using hk
            clear hk
            go_wp2
            refine wp_region_noPanic ?_
            refine wp_region_held_drew (S := (fun w' => w'.cell? ⟨w.heap.size, 0, none⟩ = some (.slice da dn dc) ∧ w'.cell? ⟨w.heap.size, 1, none⟩ = some (.slice ba bn bc) ∧ w'.cell? ⟨w.heap.size + 1, 1, none⟩ = some (.int .i64 3) ∧ w'.cell? ⟨w.heap.size + 1, 2, none⟩ = some (.slice (some ⟨b, off, none⟩) n cap) ∧ w'.cell? ⟨b, off, none⟩ = some (.int .i64 x9))) (by kernel_rfl) ?_ (fun hHeld => ?_)
            · go_keep
            refine wpAnyH_take (i := 0) (v := ?_) rfl (by kernel_rfl) (by kernel_rfl) (by kernel_rfl) (fun _ _ _ h => h) (Or.inl ⟨by first | kernel_rfl | rfl, ?_⟩) (by assumption) ?_
            rotate_left
            · intro wx hSw; (try dsimp only at hSw); go_simp; first | done | with_reducible rfl
            try simp only [Act.put, List.getElem_toArray, List.getElem_cons_zero, List.getElem_cons_succ, List.setIfInBounds_toArray, List.set_cons_zero, List.set_cons_succ]
            refine wpAnyH_take (i := 1) (v := ?_) rfl (by kernel_rfl) (by kernel_rfl) (by kernel_rfl) (fun _ _ _ h => h) (Or.inl ⟨by first | kernel_rfl | rfl, ?_⟩) (by assumption) ?_
            rotate_left
            · intro wx hSw; (try dsimp only at hSw); go_simp; first | done | with_reducible rfl
            try simp only [Act.put, List.getElem_toArray, List.getElem_cons_zero, List.getElem_cons_succ, List.setIfInBounds_toArray, List.set_cons_zero, List.set_cons_succ]
            refine wpAnyH_take (i := 2) (v := ?_) rfl (by kernel_rfl) (by kernel_rfl) (by kernel_rfl) (fun _ _ _ h => h) (Or.inl ⟨by first | kernel_rfl | rfl, ?_⟩) (by assumption) ?_
            rotate_left
            · intro wx hSw; (try dsimp only at hSw); go_simp; first | done | with_reducible rfl
            try simp only [Act.put, List.getElem_toArray, List.getElem_cons_zero, List.getElem_cons_succ, List.setIfInBounds_toArray, List.set_cons_zero, List.set_cons_succ]
            refine wpAnyH_take (i := 3) (v := ?_) rfl (by kernel_rfl) (by kernel_rfl) (by kernel_rfl) (fun _ _ _ h => h) (Or.inl ⟨by first | kernel_rfl | rfl, ?_⟩) (by assumption) ?_
            rotate_left
            · intro wx hSw; (try dsimp only at hSw); go_simp; first | done | with_reducible rfl
            try simp only [Act.put, List.getElem_toArray, List.getElem_cons_zero, List.getElem_cons_succ, List.setIfInBounds_toArray, List.set_cons_zero, List.set_cons_succ]
            refine wpAnyH_take (i := 4) (v := ?_) rfl (by kernel_rfl) (by kernel_rfl) (by kernel_rfl) (fun _ _ _ h => h) (Or.inl ⟨by first | kernel_rfl | rfl, ?_⟩) (by assumption) ?_
            rotate_left
            · intro wx hSw; (try dsimp only at hSw); go_simp; first | done | with_reducible rfl
            try simp only [Act.put, List.getElem_toArray, List.getElem_cons_zero, List.getElem_cons_succ, List.setIfInBounds_toArray, List.set_cons_zero, List.set_cons_succ]
            refine wpAnyH_take (i := 5) (v := ?_) rfl (by kernel_rfl) (by kernel_rfl) (by kernel_rfl) (fun _ _ _ h => h) (Or.inl ⟨by first | kernel_rfl | rfl, ?_⟩) (by assumption) ?_
            rotate_left
            · intro wx hSw; (try dsimp only at hSw); go_simp; first | done | with_reducible rfl
            try simp only [Act.put, List.getElem_toArray, List.getElem_cons_zero, List.getElem_cons_succ, List.setIfInBounds_toArray, List.set_cons_zero, List.set_cons_succ]
            refine wpAnyH_take (i := 6) (v := ?_) rfl (by kernel_rfl) (by kernel_rfl) (by kernel_rfl) (fun _ _ _ h => h) (Or.inl ⟨by first | kernel_rfl | rfl, ?_⟩) (by assumption) ?_
            rotate_left
            · intro wx hSw; (try dsimp only at hSw); go_simp; first | done | with_reducible rfl
            try simp only [Act.put, List.getElem_toArray, List.getElem_cons_zero, List.getElem_cons_succ, List.setIfInBounds_toArray, List.set_cons_zero, List.set_cons_succ]
            refine wpAnyH_take (i := 7) (v := ?_) rfl (by kernel_rfl) (by kernel_rfl) (by kernel_rfl) (fun _ _ _ h => h) (Or.inl ⟨by first | kernel_rfl | rfl, ?_⟩) (by assumption) ?_
            rotate_left
            · intro wx hSw; (try dsimp only at hSw); go_simp; first | done | with_reducible rfl
            try simp only [Act.put, List.getElem_toArray, List.getElem_cons_zero, List.getElem_cons_succ, List.setIfInBounds_toArray, List.set_cons_zero, List.set_cons_succ]
            refine wpAnyH_take (i := 8) (v := ?_) rfl (by kernel_rfl) (by kernel_rfl) (by kernel_rfl) (fun _ _ _ h => h) (Or.inl ⟨by first | kernel_rfl | rfl, ?_⟩) (by assumption) ?_
            rotate_left
            · intro wx hSw; (try dsimp only at hSw); go_simp; first | done | with_reducible rfl
            try simp only [Act.put, List.getElem_toArray, List.getElem_cons_zero, List.getElem_cons_succ, List.setIfInBounds_toArray, List.set_cons_zero, List.set_cons_succ]
            refine wpAnyH_take (i := 9) (v := ?_) rfl (by kernel_rfl) (by kernel_rfl) (by kernel_rfl) (fun _ _ _ h => h) (Or.inl ⟨by first | kernel_rfl | rfl, ?_⟩) (by assumption) ?_
            rotate_left
            · intro wx hSw; (try dsimp only at hSw); go_simp; first | done | with_reducible rfl
            try simp only [Act.put, List.getElem_toArray, List.getElem_cons_zero, List.getElem_cons_succ, List.setIfInBounds_toArray, List.set_cons_zero, List.set_cons_succ]
            refine wpAnyH_ready (rs := [10]) (by kernel_rfl) (by simp) ?_
            refine AllReadyH.cons rfl (fun K hK => ?_) AllReadyH.nil
            go_simp
            (refine (KF.out _ (B2r.out.trans ((undrew (Below.refl _ _)).mono B2r.out.size))).mono ?_; rintro e w9 ⟨rfl, b9⟩; have b9 := undrew b9; have B9 := Lib.hid (B2.out.trans (b9.mono B2.out.size)); have X9 := Lib.hid (X2.out.later b9); have Y9 := Lib.hid (Y2.out.later b9); have z0 := X9.out.cells 0 _ rfl; have z1 := X9.out.cells 1 _ rfl; have v1 := Y9.out.cells 1 _ rfl; have v2 := Y9.out.cells 2 _ rfl; have d9 : w9.cell? ⟨b, off, none⟩ = some (.int .i64 x9) := (b9.cell (p := ⟨b, off, none⟩) (Nat.lt_of_lt_of_le HBL.out B2r.out.size)).trans d0; clear b9)
            (try go_wp2_with fail)
            refine hK.out _ _ ?_ (fun hHeld10 => ?_)
            · (try dsimp only); go_keep
            clear hK K
            try simp only [Act.put, List.getElem_toArray, List.getElem_cons_zero, List.getElem_cons_succ, List.setIfInBounds_toArray, List.set_cons_zero, List.set_cons_succ]
            refine wpAnyH_take (i := 11) (v := ?_) rfl (by kernel_rfl) (by kernel_rfl) (by kernel_rfl) (fun _ _ _ h => h) (Or.inl ⟨by first | kernel_rfl | rfl, ?_⟩) (by assumption) ?_
            rotate_left
            · intro wx hSw; (try dsimp only at hSw); go_simp; first | done | with_reducible rfl
            try simp only [Act.put, List.getElem_toArray, List.getElem_cons_zero, List.getElem_cons_succ, List.setIfInBounds_toArray, List.set_cons_zero, List.set_cons_succ]
            refine wpAnyH_take (i := 12) (v := ?_) rfl (by kernel_rfl) (by kernel_rfl) (by kernel_rfl) (fun _ _ _ h => h) (Or.inl ⟨by first | kernel_rfl | rfl, ?_⟩) (by assumption) ?_
            rotate_left
            · intro wx hSw; (try dsimp only at hSw); go_simp; first | done | with_reducible rfl
            try simp only [Act.put, List.getElem_toArray, List.getElem_cons_zero, List.getElem_cons_succ, List.setIfInBounds_toArray, List.set_cons_zero, List.set_cons_succ]
            refine wpAnyH_take (i := 13) (v := undef) rfl (by kernel_rfl) (by kernel_rfl) (by kernel_rfl) (fun _ _ _ h => h) (Or.inr ⟨by kernel_rfl, rfl⟩) (by assumption) ?_
            try simp only [Act.put, List.getElem_toArray, List.getElem_cons_zero, List.getElem_cons_succ, List.setIfInBounds_toArray, List.set_cons_zero, List.set_cons_succ]
            refine wpAnyH_take (i := 14) (v := undef) rfl (by kernel_rfl) (by kernel_rfl) (by kernel_rfl) (fun _ _ _ h => h) (Or.inr ⟨by kernel_rfl, rfl⟩) (by assumption) ?_
            try simp only [Act.put, List.getElem_toArray, List.getElem_cons_zero, List.getElem_cons_succ, List.setIfInBounds_toArray, List.set_cons_zero, List.set_cons_succ]
            refine wpAnyH_take (i := 15) (v := undef) rfl (by kernel_rfl) (by kernel_rfl) (by kernel_rfl) (fun _ _ _ h => h) (Or.inr ⟨by kernel_rfl, rfl⟩) (by assumption) ?_
            try simp only [Act.put, List.getElem_toArray, List.getElem_cons_zero, List.getElem_cons_succ, List.setIfInBounds_toArray, List.set_cons_zero, List.set_cons_succ]
            refine wpAnyH_take (i := 16) (v := undef) rfl (by kernel_rfl) (by kernel_rfl) (by kernel_rfl) (fun _ _ _ h => h) (Or.inr ⟨by kernel_rfl, rfl⟩) (by assumption) ?_
            try simp only [Act.put, List.getElem_toArray, List.getElem_cons_zero, List.getElem_cons_succ, List.setIfInBounds_toArray, List.set_cons_zero, List.set_cons_succ]
            refine wpAnyH_take (i := 17) (v := undef) rfl (by kernel_rfl) (by kernel_rfl) (by kernel_rfl) (fun _ _ _ h => h) (Or.inr ⟨by kernel_rfl, rfl⟩) (by assumption) ?_
            try simp only [Act.put, List.getElem_toArray, List.getElem_cons_zero, List.getElem_cons_succ, List.setIfInBounds_toArray, List.set_cons_zero, List.set_cons_succ]
            refine wpAnyH_take (i := 18) (v := undef) rfl (by kernel_rfl) (by kernel_rfl) (by kernel_rfl) (fun _ _ _ h => h) (Or.inr ⟨by kernel_rfl, rfl⟩) (by assumption) ?_
            try simp only [Act.put, List.getElem_toArray, List.getElem_cons_zero, List.getElem_cons_succ, List.setIfInBounds_toArray, List.set_cons_zero, List.set_cons_succ]
            refine wpAnyH_take (i := 19) (v := ?_) rfl (by kernel_rfl) (by kernel_rfl) (by kernel_rfl) (fun _ _ _ h => h) (Or.inl ⟨by first | kernel_rfl | rfl, ?_⟩) (by assumption) ?_
            rotate_left
            · intro wx hSw; (try dsimp only at hSw); go_simp; first | done | with_reducible rfl
            try simp only [Act.put, List.getElem_toArray, List.getElem_cons_zero, List.getElem_cons_succ, List.setIfInBounds_toArray, List.set_cons_zero, List.set_cons_succ]
            refine wpAnyH_take (i := 20) (v := ?_) rfl (by kernel_rfl) (by kernel_rfl) (by kernel_rfl) (fun _ _ _ h => h) (Or.inl ⟨by first | kernel_rfl | rfl, ?_⟩) (by assumption) ?_
            rotate_left
            · intro wx hSw; (try dsimp only at hSw); go_simp; first | done | with_reducible rfl
            try simp only [Act.put, List.getElem_toArray, List.getElem_cons_zero, List.getElem_cons_succ, List.setIfInBounds_toArray, List.set_cons_zero, List.set_cons_succ]
            refine wpAnyH_done (by kernel_rfl) ?_ _
            refine NoPanic.normal ?_
            go_wp2
            go_ret
            exact IffB.no G.out B9.out
    · obtain rfl : q = n := by omega
      have G := Lib.hid (END.out PH.out)
      go_wp2
      go_ret
      exact IffB.yes G.out HW.out
end Go.Proofs.Ytigaoimnhebegaa.Tm

/-
  Whether a tree is valid: the model's function.
-/
namespace Go.Proofs.Ytigaoimnhebegaa.Tm
open Go.RowKit Go.Proofs.Ytigaoimnhebegaa.GfI Go.Proofs.Ytigaoimnhebegaa.GfS Go.Proofs.Ytigaoimnhebegaa.MixC
open Go.Proofs.Ytigaoimnhebegaa.It (lay chain)
open Go.Proofs.Ytigaoimnhebegaa.Rc (Recs)
open Go.Proofs.Ytigaoimnhebegaa.Bk (Bks tval bval)
open Go.Proofs.Ytigaoimnhebegaa.Sg (BxN)
set_option linter.unusedVariables false
set_option linter.unusedSimpArgs false

set_option maxRecDepth 100000 in
set_option maxHeartbeats 4000000 in
theorem l06OK (T : TD) (A : TA) (w : World) (S : T.Sz) (h : TIn w T A) :
    Calls Try.prog 54 #[A.val T] w (IffB T.Ok w) := by
  have CD := Lib.hid (fun w' (b : Below w.heap.size w w') => l06Devices T A w' S (h.below b))
  have CB := Lib.hid (fun w' (b : Below w.heap.size w w') => l06Buckets T A w' S (h.below b))
  have CO := Lib.hid (fun w' (b : Below w.heap.size w w') (B : T.BktOk) => l06Once T A w' B S.dn (h.below b))
  have CF := Lib.hid (fun j a cap w' (b : Below w.heap.size w w') (B : T.BktOk) (hj : j < T.bn) (wd : Words w' a (T.L j)) => l06Fits T A (T.bf j) (T.bg j) a cap (T.L j) w' (B.each j hj).2.2.1 (B.each j hj).2.2.2.1 (S.L j hj) S (h.below b) wd)
  have HD := h.bkts
  have hbn := S.bn
  clear h S
  obtain ⟨da, dc, ba, bc, I, C⟩ := A
  obtain ⟨dn, hdn'⟩ : ∃ dn, dn = T.dn := ⟨_, rfl⟩
  obtain ⟨bn, hbn'⟩ : ∃ bn, bn = T.bn := ⟨_, rfl⟩
  have E : TA.val ⟨da, dc, ba, bc, I, C⟩ T = tval (.slice da dn dc) (.slice ba bn bc) := by rw [hdn', hbn']
  rw [E] at CD CB CO CF ⊢
  rw [← hbn'] at CF HD hbn
  have HD := Lib.hid HD
  have HBN := Lib.hid hbn'
  clear E hdn' hbn'
  have LH := Lib.hid (lay w (.cells #[.slice da dn dc, .slice ba bn bc] 33))
  have X := Lib.hid (BxN.new w #[.slice da dn dc, .slice ba bn bc] 33)
  go_enter Try.func54, Try.ntmps54
  go_wp2_with fail
  refine (CD.out _ LH.out).mono ?_
  rintro e w1 ⟨bb1, rfl, H1, b1⟩
  have B1 := Lib.hid (chain LH.out b1)
  have X1 := Lib.hid (X.out.later b1)
  have x0 := X1.out.cells 0 _ rfl
  have x1 := X1.out.cells 1 _ rfl
  clear b1
  cases bb1
  · have G := Lib.hid (show ¬ T.Ok from fun k => by have := H1.2 k.dev; cases this)
    clear H1
    go_wp2
    go_ret
    exact IffB.no G.out B1.out
  · have DV := Lib.hid (H1.1 rfl)
    clear H1
    go_wp2_with fail
    refine (CB.out _ B1.out).mono ?_
    rintro e w2 ⟨bb2, rfl, H2, b2⟩
    have B2 := Lib.hid (chain B1.out b2)
    have X2 := Lib.hid (X1.out.later b2)
    clear x0 x1
    have x0 := X2.out.cells 0 _ rfl
    have x1 := X2.out.cells 1 _ rfl
    clear b2
    cases bb2
    · have G := Lib.hid (show ¬ T.Ok from fun k => by have := H2.2 k.bkt; cases this)
      clear H2
      go_wp2
      go_ret
      exact IffB.no G.out B2.out
    · have BV := Lib.hid (H2.1 rfl)
      clear H2
      go_wp2_with fail
      refine (CO.out _ B2.out BV.out).mono ?_
      rintro e w3 ⟨bb3, rfl, H3, b3⟩
      have B3 := Lib.hid (chain B2.out b3)
      have X3 := Lib.hid (X2.out.later b3)
      clear x0 x1
      have x0 := X3.out.cells 0 _ rfl
      have x1 := X3.out.cells 1 _ rfl
      clear b3
      cases bb3
      · have G := Lib.hid (show ¬ T.Ok from fun k => by have := H3.2 k.once; cases this)
        clear H3
        go_wp2
        go_ret
        exact IffB.no G.out B3.out
      · have OV := Lib.hid (H3.1 rfl)
        clear H3 x0 x1
        go_wp2
        go_loopw [3] (fun i wr => ∃ j : Nat, j ≤ bn ∧ i = .int .i64 j ∧ (∀ p, p < j → T.Fit1 p) ∧ BxN wr w.heap.size [.slice da dn dc, .slice ba bn bc] ∧ Below w.heap.size w wr) (fun i _ => bn - (intOf i).toNat)
        case atStart => exact ⟨0, by omega, rfl, fun p hp => by omega, X3.out, B3.out⟩
        case round =>
          obtain ⟨j, hj, rfl, P, XR, hw⟩ := hrel
          have PH := Lib.hid P
          have XH := Lib.hid XR
          have HW := Lib.hid hw
          have x0 := XR.cells 0 _ rfl
          have x1 := XR.cells 1 _ rfl
          clear P XR
          by_cases hlt : j < bn
          · obtain ⟨b, off, rfl, hB, hcc⟩ := (HD.out.below hw).resolve_left (by omega)
            obtain ⟨c0, c1, c2, wd⟩ := hcc j hlt
            have HK : Hid (j < T.bn) := by show _ < _; rw [← HBN.out]; exact hlt
            have FI := Lib.hid (@fit_iff T j (BV.out.each j HK.out).2.2.1 (BV.out.each j HK.out).2.2.2.1)
            have CJ := Lib.hid (fun w' (b : Below wr.heap.size wr w') => CF.out j (I j) (C j) w' (hw.trans (b.mono hw.size)) BV.out hlt (wd.below b))
            have NO := Lib.hid (show ¬ T.Fit1 j → ¬ T.Ok from fun H k => H (k.fit j HK.out))
            have YES := Lib.hid (show T.Fit1 j → ∀ p, p < j + 1 → T.Fit1 p from fun H p hp => if e : p = j then by rw [e]; exact H else PH.out p (by omega))
            generalize T.bf j = x at *
            generalize T.bg j = y at *
            generalize I j = ij at *
            generalize C j = cj at *
            generalize hLj : (T.L j).length = lj at *
            have HBL := Lib.hid hB
            clear hcc wd hw hB hLj
            go_wp2
            go_region_held3 (fun w' => w'.cell? ⟨w.heap.size, 0, none⟩ = some (.slice da dn dc) ∧ w'.cell? ⟨w.heap.size, 1, none⟩ = some (.slice (some ⟨b, off, none⟩) bn bc) ∧ w'.cell? ⟨b, off + j * 3, none⟩ = some (.int .i64 x) ∧ w'.cell? ⟨b, off + j * 3 + 1, none⟩ = some (.int .i64 y) ∧ w'.cell? ⟨b, off + j * 3 + 2, none⟩ = some (.slice ij lj cj)) (go_keep)
              (first
                | (go_at_call 121; refine (CJ.out _ (undrew (Below.refl _ _))).mono ?_; rintro e w4 ⟨bb, rfl, H4, b4⟩; have b4 := undrew b4; have B4 := Lib.hid (HW.out.trans (b4.mono HW.out.size)); have X4 := Lib.hid (XH.out.later b4); have y0 := X4.out.cells 0 _ rfl; have y1 := X4.out.cells 1 _ rfl; have d0 := (b4.cell (p := ⟨b, off + j * 3, none⟩) HBL.out).trans c0; have d1 := (b4.cell (p := ⟨b, off + j * 3 + 1, none⟩) HBL.out).trans c1; have d2 := (b4.cell (p := ⟨b, off + j * 3 + 2, none⟩) HBL.out).trans c2; clear b4))
            all_goals
              cases bb
              · have G := Lib.hid (NO.out fun f => by have := H4.2 (FI.out.2 f); cases this)
                clear H4
                go_wp2
                go_ret
                exact IffB.no G.out B4.out
              · have G := Lib.hid (YES.out (FI.out.1 (H4.1 rfl)))
                clear H4
                go_wp2
                go_roundw
                case rel => exact ⟨j + 1, by omega, by go_num, G.out, X4.out, B4.out⟩
                case measure => simp [intOf]; omega
          · obtain rfl : j = bn := by omega
            have G := Lib.hid (show T.Ok from ⟨DV.out, BV.out, OV.out, fun p hp => PH.out p (by rw [HBN.out]; exact hp)⟩)
            go_wp2
            go_ret
            exact IffB.yes G.out HW.out
end Go.Proofs.Ytigaoimnhebegaa.Tm
