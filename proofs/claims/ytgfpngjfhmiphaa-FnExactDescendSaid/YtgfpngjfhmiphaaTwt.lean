/-
  What lies below a thing of a tree, and its weight: as data. No program runs.
-/
import Derived.Test.YtgfpngjfhmiphaaTabv
namespace Go.Proofs.Ytgfpngjfhmiphaa.Tm
set_option linter.unusedVariables false
set_option linter.unusedSimpArgs false

/-- n into a rising list, unless it is there. -/
def put (n : Int) : List Int → List Int
  | [] => [n]
  | a :: l => if n ≤ a then (if n < a then n :: a :: l else a :: l) else a :: put n l
theorem mem_put {n z : Int} : ∀ {l : List Int}, z ∈ put n l ↔ z = n ∨ z ∈ l
  | [] => by simp [put]
  | a :: l => by
    unfold put
    split
    · split
      · simp
      · have : n = a := by omega
        subst this; simp
    · rw [List.mem_cons, mem_put, List.mem_cons]
      constructor
      · rintro (h | h | h)
        · exact .inr (.inl h)
        · exact .inl h
        · exact .inr (.inr h)
      · rintro (h | h | h)
        · exact .inr (.inl h)
        · exact .inl h
        · exact .inr (.inr h)
theorem sorted_put {n : Int} : ∀ {l : List Int}, l.Pairwise (· < ·) → (put n l).Pairwise (· < ·)
  | [], _ => by simp [put]
  | a :: l, h => by
    have ha := List.pairwise_cons.1 h
    unfold put
    split
    · split
      · rename_i h1
        exact List.pairwise_cons.2 ⟨fun z hz => by
          rcases List.mem_cons.1 hz with rfl | hz
          · exact h1
          · have := ha.1 z hz; omega, h⟩
      · exact h
    · exact List.pairwise_cons.2 ⟨fun z hz => by
        rcases mem_put.1 hz with rfl | hz
        · omega
        · exact ha.1 z hz, sorted_put ha.2⟩
theorem put_len (n : Int) : ∀ l : List Int, (put n l).length ≤ l.length + 1
  | [] => by simp [put]
  | a :: l => by
    unfold put
    have := put_len n l
    split
    · split <;> simp
    · simp; omega
def putAll (out l : List Int) : List Int := l.foldl (fun o y => put y o) out
theorem mem_putAll {z : Int} : ∀ {l out : List Int}, z ∈ putAll out l ↔ z ∈ out ∨ z ∈ l
  | [], out => by simp [putAll]
  | a :: l, out => by
    show z ∈ putAll (put a out) l ↔ _
    rw [mem_putAll, mem_put, List.mem_cons]
    constructor
    · rintro ((h | h) | h)
      · exact .inr (.inl h)
      · exact .inl h
      · exact .inr (.inr h)
    · rintro (h | h | h)
      · exact .inl (.inr h)
      · exact .inl (.inl h)
      · exact .inr h
theorem sorted_putAll : ∀ {l out : List Int}, out.Pairwise (· < ·) → (putAll out l).Pairwise (· < ·)
  | [], out, h => h
  | a :: l, out, h => sorted_putAll (l := l) (sorted_put h)
theorem putAll_snoc (out l : List Int) (a : Int) : putAll out (l ++ [a]) = put a (putAll out l) := by unfold putAll; rw [List.foldl_append]; rfl
def sumW (w : Int → Int) (l : List Int) : Int := (l.map w).sum
theorem sum_put (w : Int → Int) {n : Int} : ∀ {l : List Int}, n ∉ l → sumW w (put n l) = sumW w l + w n
  | [], _ => by simp [put, sumW]
  | a :: l, h => by
    unfold put
    split
    · split
      · simp [sumW]; omega
      · exfalso; exact h (by have : n = a := by omega
                             rw [this]; exact List.mem_cons_self)
    · have e := sum_put w (l := l) (fun k => h (List.mem_cons_of_mem _ k))
      simp only [sumW, List.map_cons, List.sum_cons] at e ⊢
      omega
theorem sum_putAll (w : Int → Int) : ∀ {l out : List Int}, l.Nodup → (∀ z, z ∈ l → z ∉ out) → sumW w (putAll out l) = sumW w out + sumW w l
  | [], out, _, _ => by simp [putAll, sumW]
  | a :: l, out, hn, hd => by
    show sumW w (putAll (put a out) l) = _
    have hn := List.nodup_cons.1 hn
    rw [sum_putAll w hn.2 (fun z hz k => by
      rcases mem_put.1 k with rfl | k
      · exact hn.1 hz
      · exact hd z (List.mem_cons_of_mem _ hz) k), sum_put w (hd a List.mem_cons_self)]
    simp only [sumW, List.map_cons, List.sum_cons]; omega

/-- The devices below x, rising; f bounds the depth. -/
def undr (T : TD) : Nat → Int → List Int
  | 0, x => [x]
  | f + 1, x => match ix T.bf x T.bn with
    | none => [x]
    | some j => (T.L j).foldl (fun o y => putAll o (undr T f y)) []
/-- .. of the first items of a bucket. -/
def undrL (T : TD) (f : Nat) (l : List Int) : List Int := l.foldl (fun o y => putAll o (undr T f y)) []
theorem undr_bkt {T : TD} {f : Nat} {x : Int} {j : Nat} (h : ix T.bf x T.bn = some j) : undr T (f + 1) x = undrL T f (T.L j) := by
  conv => lhs; unfold undr
  rw [h]; rfl
theorem undr_no {T : TD} {f : Nat} {x : Int} (h : ix T.bf x T.bn = none) : undr T f x = [x] := by
  cases f with
  | zero => rfl
  | succ f => unfold undr; rw [h]
theorem undrL_snoc (T : TD) (f : Nat) (l : List Int) (y : Int) : undrL T f (l ++ [y]) = putAll (undrL T f l) (undr T f y) := by unfold undrL; rw [List.foldl_append]; rfl
theorem foldl_mem {T : TD} {f : Nat} {z : Int} : ∀ {l out : List Int}, z ∈ l.foldl (fun o y => putAll o (undr T f y)) out ↔ z ∈ out ∨ ∃ y, y ∈ l ∧ z ∈ undr T f y
  | [], out => by simp
  | a :: l, out => by
    rw [List.foldl_cons, foldl_mem, mem_putAll]
    constructor
    · rintro ((h | h) | ⟨y, hy, h⟩)
      · exact .inl h
      · exact .inr ⟨a, List.mem_cons_self, h⟩
      · exact .inr ⟨y, List.mem_cons_of_mem _ hy, h⟩
    · rintro (h | ⟨y, hy, h⟩)
      · exact .inl (.inl h)
      · rcases List.mem_cons.1 hy with rfl | hy
        · exact .inl (.inr h)
        · exact .inr ⟨y, hy, h⟩
theorem mem_undrL {T : TD} {f : Nat} {z : Int} {l : List Int} : z ∈ undrL T f l ↔ ∃ y, y ∈ l ∧ z ∈ undr T f y := by
  unfold undrL; rw [foldl_mem]; simp
theorem foldl_sorted {T : TD} {f : Nat} : ∀ {l out : List Int}, out.Pairwise (· < ·) → (l.foldl (fun o y => putAll o (undr T f y)) out).Pairwise (· < ·)
  | [], out, h => h
  | a :: l, out, h => by rw [List.foldl_cons]; exact foldl_sorted (sorted_putAll h)
theorem sorted_undr (T : TD) : ∀ (f : Nat) (x : Int), (undr T f x).Pairwise (· < ·)
  | 0, x => by simp [undr]
  | f + 1, x => by
    cases h : ix T.bf x T.bn with
    | none => rw [undr_no h]; simp
    | some j => rw [undr_bkt h]; exact foldl_sorted List.Pairwise.nil
theorem nodup_undr (T : TD) (f : Nat) (x : Int) : (undr T f x).Nodup := (sorted_undr T f x).imp (fun h e => by omega)

/-- n steps up. -/
def anc (T : TD) : Nat → Int → Option Int
  | 0, z => some z
  | n + 1, z => match T.par z with
    | none => none
    | some j => anc T n (T.bf j)
theorem anc_kd {T : TD} (O : T.Ok) : ∀ {n : Nat} {z y : Int}, anc T n z = some y → T.kd z + n ≤ T.kd y
  | 0, z, y, h => by have : z = y := Option.some.inj h
                     subst this; simp
  | n + 1, z, y, h => by
    unfold anc at h
    cases hp : T.par z with
    | none => rw [hp] at h; cases h
    | some j =>
      rw [hp] at h
      obtain ⟨hj, hz, _⟩ := parN_some hp
      have := kd_up O hj hz
      have := anc_kd O h
      omega
theorem anc_add {T : TD} : ∀ {n : Nat} {m : Nat} {z y : Int}, anc T n z = some y → anc T (n + m) z = anc T m y
  | 0, m, z, y, h => by have : z = y := Option.some.inj h
                        subst this; rw [Nat.zero_add]
  | n + 1, m, z, y, h => by
    unfold anc at h
    rw [show n + 1 + m = (n + m) + 1 from by omega]
    conv => lhs; unfold anc
    cases hp : T.par z with
    | none => rw [hp] at h; cases h
    | some j => rw [hp] at h; exact anc_add h
/-- Two things of one kind above z are one. -/
theorem anc_one {T : TD} (O : T.Ok) {n m : Nat} {z y y' : Int} (h : anc T n z = some y) (k : anc T m z = some y') (e : T.kd y = T.kd y') : y = y' := by
  rcases Nat.lt_trichotomy n m with q | q | q
  · have := anc_add (m := m - n) h
    rw [show n + (m - n) = m from by omega, k] at this
    have := anc_kd O this.symm
    omega
  · subst q; rw [h] at k; exact Option.some.inj k
  · have := anc_add (m := n - m) k
    rw [show m + (n - m) = n from by omega, h] at this
    have := anc_kd O this.symm
    omega
theorem ix_bkt {T : TD} (O : T.Ok) {j : Nat} (hj : j < T.bn) : ix T.bf (T.bf j) T.bn = some j := ix_at hj (fun k hk e => by have := O.bkt.lt hk hj; omega)
theorem par_at {T : TD} (O : T.Ok) {j : Nat} {x : Int} (hj : j < T.bn) (hx : x ∈ T.L j) : T.par x = some j :=
  parN_hit hj hx (fun i hi k => O.once.two i j hi hj x k hx)
theorem undr_anc {T : TD} (O : T.Ok) : ∀ {f : Nat} {x z : Int}, z ∈ undr T f x → ∃ n, anc T n z = some x
  | 0, x, z, h => by
    have : z = x := by simpa [undr] using h
    exact ⟨0, by rw [this]; rfl⟩
  | f + 1, x, z, h => by
    cases hx : ix T.bf x T.bn with
    | none => rw [undr_no hx] at h; have : z = x := by simpa using h
              exact ⟨0, by rw [this]; rfl⟩
    | some j =>
      rw [undr_bkt hx] at h
      obtain ⟨y, hy, hz⟩ := mem_undrL.1 h
      obtain ⟨n, hn⟩ := undr_anc O hz
      obtain ⟨hj, hjx, _⟩ := ix_some hx
      refine ⟨n + 1, ?_⟩
      rw [anc_add hn]
      unfold anc
      rw [par_at O hj hy]
      show some (T.bf j) = some x
      rw [hjx]
theorem items_kd {T : TD} (O : T.Ok) {j : Nat} (hj : j < T.bn) {x y : Int} (hx : x ∈ T.L j) (hy : y ∈ T.L j) : T.kd x = T.kd y := by
  obtain ⟨a, ha⟩ := List.mem_iff_getElem?.1 hx
  obtain ⟨b, hb⟩ := List.mem_iff_getElem?.1 hy
  rw [(O.fit j hj a x ha).2, (O.fit j hj b y hb).2]
/-- What lies below two items of one bucket is apart. -/
theorem undr_apart {T : TD} (O : T.Ok) {f : Nat} {j : Nat} (hj : j < T.bn) {x y z : Int} (hx : x ∈ T.L j) (hy : y ∈ T.L j) (a : z ∈ undr T f x) (b : z ∈ undr T f y) : x = y := by
  obtain ⟨n, hn⟩ := undr_anc O a
  obtain ⟨m, hm⟩ := undr_anc O b
  exact anc_one O hn hm (items_kd O hj hx hy)
/-- What lies below is a device. -/
theorem undr_dev {T : TD} (O : T.Ok) : ∀ {f : Nat} {x z : Int}, 0 ≤ T.kd x → T.kd x < f → z ∈ undr T f x → T.kd z = 0
  | 0, x, z, h0, h1, h => by omega
  | f + 1, x, z, h0, h1, h => by
    cases hx : ix T.bf x T.bn with
    | none =>
      rw [undr_no hx] at h
      have : z = x := by simpa using h
      subst this
      rcases T.kd_cases z with ⟨_, _, _, e⟩ | ⟨_, j, hj, e, _⟩ | ⟨_, _, e⟩
      · exact e
      · exact absurd e (ix_none.1 hx j hj)
      · omega
    | some j =>
      rw [undr_bkt hx] at h
      obtain ⟨y, hy, hz⟩ := mem_undrL.1 h
      obtain ⟨hj, hjx, _⟩ := ix_some hx
      have k := kd_up O hj hy
      rw [← hjx, k.2.2.2] at h1
      exact undr_dev O k.1 (by omega) hz

/-- A device's weight. -/
def dwt (T : TD) (y : Int) : Int := match ix T.df y T.dn with
  | some i => T.dg i
  | none => 0
/-- The weight, as the program reckons it. -/
def wt (T : TD) : Nat → Int → Int
  | 0, _ => 0
  | f + 1, x => match ix T.bf x T.bn with
    | none => dwt T x
    | some j => sumW (wt T f) (T.L j)
theorem wt_bkt {T : TD} {f : Nat} {x : Int} {j : Nat} (h : ix T.bf x T.bn = some j) : wt T (f + 1) x = sumW (wt T f) (T.L j) := by
  conv => lhs; unfold wt
  rw [h]
theorem wt_no {T : TD} {f : Nat} {x : Int} (h : ix T.bf x T.bn = none) : wt T (f + 1) x = dwt T x := by unfold wt; rw [h]
theorem sum_foldl {T : TD} (O : T.Ok) {f : Nat} {j : Nat} (hj : j < T.bn) (IH : ∀ y, y ∈ T.L j → sumW (dwt T) (undr T f y) = wt T f y) : ∀ {l out : List Int}, l.Nodup → (∀ y, y ∈ l → y ∈ T.L j) → (∀ y z, y ∈ l → z ∈ undr T f y → z ∉ out) →
    sumW (dwt T) (l.foldl (fun o y => putAll o (undr T f y)) out) = sumW (dwt T) out + sumW (wt T f) l
  | [], out, _, _, _ => by simp [sumW]
  | a :: l, out, hn, hm, hd => by
    have hn := List.nodup_cons.1 hn
    rw [List.foldl_cons, sum_foldl O hj IH hn.2 (fun y hy => hm y (List.mem_cons_of_mem _ hy)) (fun y z hy hz k => by
      rcases mem_putAll.1 k with k | k
      · exact hd y z (List.mem_cons_of_mem _ hy) hz k
      · have := undr_apart O hj (hm y (List.mem_cons_of_mem _ hy)) (hm a List.mem_cons_self) hz k
        exact hn.1 (this ▸ hy)), sum_putAll _ (nodup_undr T f a) (fun z hz k => hd a z List.mem_cons_self hz k), IH a (hm a List.mem_cons_self)]
    simp only [sumW, List.map_cons, List.sum_cons]; omega
theorem sum_undr {T : TD} (O : T.Ok) : ∀ {f : Nat} {x : Int}, 0 ≤ T.kd x → T.kd x < f → sumW (dwt T) (undr T f x) = wt T f x
  | 0, x, h0, h1 => by omega
  | f + 1, x, h0, h1 => by
    cases hx : ix T.bf x T.bn with
    | none => rw [undr_no hx, wt_no hx]; simp [sumW]
    | some j =>
      obtain ⟨hj, hjx, _⟩ := ix_some hx
      rw [undr_bkt hx, wt_bkt hx]
      have := sum_foldl O hj (f := f) (fun y hy => by
        have k := kd_up O hj hy
        rw [← hjx, k.2.2.2] at h1
        exact sum_undr O k.1 (by omega)) (l := T.L j) (out := []) (O.once.one j hj) (fun y hy => hy) (fun y z _ _ k => by cases k)
      unfold undrL
      rw [this]; simp [sumW]
theorem dwt_le {T : TD} (O : T.Ok) (y : Int) : 0 ≤ dwt T y ∧ dwt T y ≤ 8 := by
  unfold dwt
  cases h : ix T.df y T.dn with
  | none => simp
  | some i => have := O.dev.each i (ix_some h).1; exact ⟨this.2.2.1, this.2.2.2⟩
theorem sumW_le {w : Int → Int} {m : Int} (hm : ∀ y, 0 ≤ w y ∧ w y ≤ m) : ∀ l : List Int, 0 ≤ sumW w l ∧ sumW w l ≤ l.length * m
  | [] => by simp [sumW]
  | a :: l => by
    have h1 := sumW_le hm l
    have h2 := hm a
    simp only [sumW, List.map_cons, List.sum_cons, List.length_cons] at h1 ⊢
    rw [Int.natCast_succ, Int.add_mul]; omega
theorem wt_le {T : TD} (O : T.Ok) : ∀ (f : Nat) (x : Int), 0 ≤ wt T f x ∧ wt T f x ≤ 8 * 8 ^ f
  | 0, x => by simp [wt]
  | f + 1, x => by
    have hp : (8 : Int) ^ (f + 1) = 8 ^ f * 8 := Int.pow_succ _ _
    have h8 : (1 : Int) ≤ 8 ^ f := by
      have : (0 : Int) < 8 ^ f := Int.pow_pos (by omega)
      omega
    cases hx : ix T.bf x T.bn with
    | none => rw [wt_no hx]; have := dwt_le O x; omega
    | some j =>
      rw [wt_bkt hx]
      have h := sumW_le (fun y => wt_le O f y) (T.L j)
      have hl := (O.bkt.each j (ix_some hx).1).2.2.2.2
      refine ⟨h.1, Int.le_trans h.2 ?_⟩
      have : ((T.L j).length : Int) * (8 * 8 ^ f) ≤ 8 * (8 * 8 ^ f) := Int.mul_le_mul_of_nonneg_right (by omega) (by omega)
      rw [hp]; omega
theorem sumW_snoc (w : Int → Int) (l : List Int) (y : Int) : sumW w (l ++ [y]) = sumW w l + w y := by simp [sumW]
end Go.Proofs.Ytgfpngjfhmiphaa.Tm
