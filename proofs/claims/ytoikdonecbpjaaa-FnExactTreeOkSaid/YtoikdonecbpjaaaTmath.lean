/-
  Trees as plain data: devices (numbers and weights), buckets (numbers, kinds, lists of numbers); which are valid. No program.
-/
namespace Go.Proofs.Ytoikdonecbpjaaa.Tm
set_option linter.unusedVariables false

/-- The first place of x. -/
def ix (f : Nat → Int) (x : Int) : Nat → Option Nat
  | 0 => none
  | n + 1 => match ix f x n with
    | some i => some i
    | none => if f n = x then some n else none
theorem ix_none {f : Nat → Int} {x : Int} : ∀ {n : Nat}, ix f x n = none ↔ ∀ j, j < n → f j ≠ x
  | 0 => by simp [ix]
  | n + 1 => by
    unfold ix
    have IH := @ix_none f x n
    cases h : ix f x n with
    | some i =>
      simp only [reduceCtorEq, false_iff]
      intro H
      have := IH.2 (fun j hj => H j (by omega))
      rw [h] at this; cases this
    | none =>
      have h0 := IH.1 h
      dsimp only
      split
      · rename_i e
        simp only [reduceCtorEq, false_iff]
        intro H; exact H n (by omega) e
      · rename_i e
        simp only [true_iff]
        intro j hj
        by_cases q : j = n
        · subst q; exact e
        · exact h0 j (by omega)
theorem ix_some {f : Nat → Int} {x : Int} : ∀ {n i : Nat}, ix f x n = some i → i < n ∧ f i = x ∧ ∀ j, j < i → f j ≠ x
  | 0, i, h => by simp [ix] at h
  | n + 1, i, h => by
    unfold ix at h
    cases q : ix f x n with
    | some k =>
      rw [q] at h
      obtain rfl : k = i := by simpa using h
      obtain ⟨a, b, c⟩ := ix_some q
      exact ⟨by omega, b, c⟩
    | none =>
      rw [q] at h
      dsimp only at h
      split at h
      · rename_i e
        obtain rfl : n = i := by simpa using h
        exact ⟨by omega, e, ix_none.1 q⟩
      · cases h
theorem ix_mono {f : Nat → Int} {x : Int} {n m i : Nat} (h : ix f x n = some i) (hm : n ≤ m) : ix f x m = some i := by
  obtain ⟨d, rfl⟩ : ∃ d, m = n + d := ⟨m - n, by omega⟩
  clear hm
  induction d with
  | zero => exact h
  | succ d ih => show ix f x (n + d + 1) = _; unfold ix; rw [ih]
theorem ix_at {f : Nat → Int} {n i : Nat} (hi : i < n) (inj : ∀ j, j < i → f j ≠ f i) : ix f (f i) n = some i := by
  have h1 : ix f (f i) (i + 1) = some i := by
    unfold ix
    rw [ix_none.2 inj]
    simp
  exact ix_mono h1 (by omega)
/-- The place as a number, -1 of none. -/
def ixI (f : Nat → Int) (x : Int) (n : Nat) : Int := match ix f x n with
  | some i => (i : Int)
  | none => -1

/-- The data of a tree. -/
structure TD where
  dn : Nat
  df : Nat → Int
  dg : Nat → Int
  bn : Nat
  bf : Nat → Int
  bg : Nat → Int
  L : Nat → List Int
variable (T : TD)
/-- What kind of thing x is: 0 a device, 1 to 3 a bucket, -1 nothing. -/
def TD.kd (x : Int) : Int := match ix T.df x T.dn with
  | some _ => 0
  | none => match ix T.bf x T.bn with
    | some j => T.bg j
    | none => -1
structure TD.DevOk : Prop where
  n : T.dn ≤ 16
  each : ∀ i, i < T.dn → 0 ≤ T.df i ∧ T.df i ≤ 15 ∧ 0 ≤ T.dg i ∧ T.dg i ≤ 8
  rise : ∀ i, i + 1 < T.dn → T.df i < T.df (i + 1)
structure TD.BktOk : Prop where
  n : T.bn ≤ 12
  each : ∀ i, i < T.bn → -12 ≤ T.bf i ∧ T.bf i ≤ -1 ∧ 1 ≤ T.bg i ∧ T.bg i ≤ 3 ∧ (T.L i).length ≤ 8
  fall : ∀ i, i + 1 < T.bn → T.bf (i + 1) < T.bf i
/-- An item of a bucket of kind g that may be there; f is the bucket's first item. -/
def mayBe (g k f : Int) : Prop := (k = g - 1 ∨ g = 3 ∧ k = 1) ∧ k = f
def TD.Fit1 (j : Nat) : Prop := ∀ (i : Nat) (x : Int), (T.L j)[i]? = some x → mayBe (T.bg j) (T.kd x) (T.kd ((T.L j).getD 0 0))
/-- Nothing stands in two buckets, or twice in one. -/
structure TD.Once : Prop where
  one : ∀ j, j < T.bn → (T.L j).Nodup
  two : ∀ j k, j < k → k < T.bn → ∀ x, x ∈ T.L j → x ∈ T.L k → False
structure TD.Ok : Prop where
  dev : T.DevOk
  bkt : T.BktOk
  once : T.Once
  fit : ∀ j, j < T.bn → T.Fit1 j
variable {T : TD}
theorem TD.DevOk.lt (h : T.DevOk) {i : Nat} : ∀ {j : Nat}, i < j → j < T.dn → T.df i < T.df j
  | 0, hij, _ => by omega
  | j + 1, hij, hj => by
    have h1 := h.rise j hj
    by_cases e : i = j
    · subst e; exact h1
    · have := h.lt (i := i) (j := j) (by omega) (by omega); omega
theorem TD.BktOk.lt (h : T.BktOk) {i : Nat} : ∀ {j : Nat}, i < j → j < T.bn → T.bf j < T.bf i
  | 0, hij, _ => by omega
  | j + 1, hij, hj => by
    have h1 := h.fall j hj
    by_cases e : i = j
    · subst e; exact h1
    · have := h.lt (i := i) (j := j) (by omega) (by omega); omega
/-- Rising numbers from 0 to 15 are 16 at most. -/
theorem rise_le {f : Nat → Int} {n : Nat} (h0 : ∀ i, i < n → 0 ≤ f i ∧ f i ≤ 15) (hr : ∀ i, i + 1 < n → f i < f (i + 1)) : n ≤ 16 := by
  have key : ∀ i, i < n → (i : Int) ≤ f i := by
    intro i
    induction i with
    | zero => intro hi; exact (h0 0 hi).1
    | succ i ih => intro hi; have := ih (by omega); have := hr i hi; omega
  rcases Nat.eq_zero_or_pos n with e | e
  · omega
  · have := key (n - 1) (by omega); have := (h0 (n - 1) (by omega)).2; omega
theorem fall_le {f : Nat → Int} {n : Nat} (h0 : ∀ i, i < n → -12 ≤ f i ∧ f i ≤ -1) (hr : ∀ i, i + 1 < n → f (i + 1) < f i) : n ≤ 12 := by
  have key : ∀ i : Nat, i < n → f i ≤ -1 - (i : Int) := by
    intro i
    induction i with
    | zero => intro hi; have := (h0 0 hi).2; omega
    | succ i ih => intro hi; have := ih (by omega); have := hr i hi; omega
  rcases Nat.eq_zero_or_pos n with e | e
  · omega
  · have := key (n - 1) (by omega); have := (h0 (n - 1) (by omega)).1; omega
theorem TD.kd_dev (h : T.DevOk) {i : Nat} (hi : i < T.dn) : T.kd (T.df i) = 0 := by
  unfold TD.kd
  rw [ix_at hi (fun j hj e => by have := h.lt hj hi; omega)]
theorem TD.kd_bkt (h : T.DevOk) (g : T.BktOk) {j : Nat} (hj : j < T.bn) : T.kd (T.bf j) = T.bg j := by
  unfold TD.kd
  rw [ix_none.2 (fun i hi e => by have := (h.each i hi).1; have := (g.each j hj).2.1; omega)]
  dsimp only
  rw [ix_at hj (fun j' hj' e => by have := g.lt hj' hj; omega)]
theorem TD.kd_cases (x : Int) : (∃ i, i < T.dn ∧ T.df i = x ∧ T.kd x = 0) ∨ ((∀ i, i < T.dn → T.df i ≠ x) ∧ ∃ j, j < T.bn ∧ T.bf j = x ∧ T.kd x = T.bg j) ∨ ((∀ i, i < T.dn → T.df i ≠ x) ∧ (∀ j, j < T.bn → T.bf j ≠ x) ∧ T.kd x = -1) := by
  unfold TD.kd
  cases q : ix T.df x T.dn with
  | some i => obtain ⟨a, b, _⟩ := ix_some q; exact .inl ⟨i, a, b, rfl⟩
  | none =>
    cases r : ix T.bf x T.bn with
    | some j => obtain ⟨a, b, _⟩ := ix_some r; exact .inr (.inl ⟨ix_none.1 q, j, a, b, rfl⟩)
    | none => exact .inr (.inr ⟨ix_none.1 q, ix_none.1 r, rfl⟩)
end Go.Proofs.Ytoikdonecbpjaaa.Tm
