/-
  What lies below a thing of a tree, and its weight: as data. No program runs.
-/
import Derived.Test.YtigaoimnhebegaaTabv
namespace Go.Proofs.Ytigaoimnhebegaa.Tm
set_option linter.unusedVariables false
set_option linter.unusedSimpArgs false

/-- n into a rising list, unless it is there. -/
def put (n : Int) : List Int → List Int
  | [] => [n]
  | a :: l => if n ≤ a then (if n < a then n :: a :: l else a :: l) else a :: put n l
theorem mem_put {n z : Int} : ∀ {l : List Int}, z ∈ put n l ↔ z = n ∨ z ∈ l
  | [] => by simp [put]
  | a :: l => by
    unfold put
    split
    · split
      · simp
      · have : n = a := by omega
        subst this; simp
    · rw [List.mem_cons, mem_put, List.mem_cons]
      constructor
      · rintro (h | h | h)
        · exact .inr (.inl h)
        · exact .inl h
        · exact .inr (.inr h)
      · rintro (h | h | h)
        · exact .inr (.inl h)
        · exact .inl h
        · exact .inr (.inr h)
theorem sorted_put {n : Int} : ∀ {l : List Int}, l.Pairwise (· < ·) → (put n l).Pairwise (· < ·)
  | [], _ => by simp [put]
  | a :: l, h => by
    have ha := List.pairwise_cons.1 h
    unfold put
    split
    · split
      · rename_i h1
        exact List.pairwise_cons.2 ⟨fun z hz => by
          rcases List.mem_cons.1 hz with rfl | hz
          · exact h1
          · have := ha.1 z hz; omega, h⟩
      · exact h
    · exact List.pairwise_cons.2 ⟨fun z hz => by
        rcases mem_put.1 hz with rfl | hz
        · omega
        · exact ha.1 z hz, sorted_put ha.2⟩
theorem put_len (n : Int) : ∀ l : List Int, (put n l).length ≤ l.length + 1
  | [] => by simp [put]
  | a :: l => by
    unfold put
    have := put_len n l
    split
    · split <;> simp
    · simp; omega
def putAll (out l : List Int) : List Int := l.foldl (fun o y => put y o) out
theorem mem_putAll {z : Int} : ∀ {l out : List Int}, z ∈ putAll out l ↔ z ∈ out ∨ z ∈ l
  | [], out => by simp [putAll]
  | a :: l, out => by
    show z ∈ putAll (put a out) l ↔ _
    rw [mem_putAll, mem_put, List.mem_cons]
    constructor
    · rintro ((h | h) | h)
      · exact .inr (.inl h)
      · exact .inl h
      · exact .inr (.inr h)
    · rintro (h | h | h)
      · exact .inl (.inr h)
      · exact .inl (.inl h)
      · exact .inr h
theorem sorted_putAll : ∀ {l out : List Int}, out.Pairwise (· < ·) → (putAll out l).Pairwise (· < ·)
  | [], out, h => h
  | a :: l, out, h => sorted_putAll (l := l) (sorted_put h)
theorem putAll_snoc (out l : List Int) (a : Int) : putAll out (l ++ [a]) = put a (putAll out l) := by unfold putAll; rw [List.foldl_append]; rfl
def sumW (w : Int → Int) (l : List Int) : Int := (l.map w).sum
theorem sum_put (w : Int → Int) {n : Int} : ∀ {l : List Int}, n ∉ l → sumW w (put n l) = sumW w l + w n
  | [], _ => by simp [put, sumW]
  | a :: l, h => by
    unfold put
    split
    · split
      · simp [sumW]; omega
      · exfalso; exact h (by have : n = a := by omega
                             rw [this]; exact List.mem_cons_self)
    · have e := sum_put w (l := l) (fun k => h (List.mem_cons_of_mem _ k))
      simp only [sumW, List.map_cons, List.sum_cons] at e ⊢
      omega
theorem sum_putAll (w : Int → Int) : ∀ {l out : List Int}, l.Nodup → (∀ z, z ∈ l → z ∉ out) → sumW w (putAll out l) = sumW w out + sumW w l
  | [], out, _, _ => by simp [putAll, sumW]
  | a :: l, out, hn, hd => by
    show sumW w (putAll (put a out) l) = _
    have hn := List.nodup_cons.1 hn
    rw [sum_putAll w hn.2 (fun z hz k => by
      rcases mem_put.1 k with rfl | k
      · exact hn.1 hz
      · exact hd z (List.mem_cons_of_mem _ hz) k), sum_put w (hd a List.mem_cons_self)]
    simp only [sumW, List.map_cons, List.sum_cons]; omega

/-- The devices below x, rising; f bounds the depth. -/
def undr (T : TD) : Nat → Int → List Int
  | 0, x => [x]
  | f + 1, x => match ix T.bf x T.bn with
    | none => [x]
    | some j => (T.L j).foldl (fun o y => putAll o (undr T f y)) []
/-- .. of the first items of a bucket. -/
def undrL (T : TD) (f : Nat) (l : List Int) : List Int := l.foldl (fun o y => putAll o (undr T f y)) []
theorem undr_bkt {T : TD} {f : Nat} {x : Int} {j : Nat} (h : ix T.bf x T.bn = some j) : undr T (f + 1) x = undrL T f (T.L j) := by
  conv => lhs; unfold undr
  rw [h]; rfl
theorem undr_no {T : TD} {f : Nat} {x : Int} (h : ix T.bf x T.bn = none) : undr T f x = [x] := by
  cases f with
  | zero => rfl
  | succ f => unfold undr; rw [h]
theorem undrL_snoc (T : TD) (f : Nat) (l : List Int) (y : Int) : undrL T f (l ++ [y]) = putAll (undrL T f l) (undr T f y) := by unfold undrL; rw [List.foldl_append]; rfl
theorem foldl_mem {T : TD} {f : Nat} {z : Int} : ∀ {l out : List Int}, z ∈ l.foldl (fun o y => putAll o (undr T f y)) out ↔ z ∈ out ∨ ∃ y, y ∈ l ∧ z ∈ undr T f y
  | [], out => by simp
  | a :: l, out => by
    rw [List.foldl_cons, foldl_mem, mem_putAll]
    constructor
    · rintro ((h | h) | ⟨y, hy, h⟩)
      · exact .inl h
      · exact .inr ⟨a, List.mem_cons_self, h⟩
      · exact .inr ⟨y, List.mem_cons_of_mem _ hy, h⟩
    · rintro (h | ⟨y, hy, h⟩)
      · exact .inl (.inl h)
      · rcases List.mem_cons.1 hy with rfl | hy
        · exact .inl (.inr h)
        · exact .inr ⟨y, hy, h⟩
theorem mem_undrL {T : TD} {f : Nat} {z : Int} {l : List Int} : z ∈ undrL T f l ↔ ∃ y, y ∈ l ∧ z ∈ undr T f y := by
  unfold undrL; rw [foldl_mem]; simp
theorem foldl_sorted {T : TD} {f : Nat} : ∀ {l out : List Int}, out.Pairwise (· < ·) → (l.foldl (fun o y => putAll o (undr T f y)) out).Pairwise (· < ·)
  | [], out, h => h
  | a :: l, out, h => by rw [List.foldl_cons]; exact foldl_sorted (sorted_putAll h)
theorem sorted_undr (T : TD) : ∀ (f : Nat) (x : Int), (undr T f x).Pairwise (· < ·)
  | 0, x => by simp [undr]
  | f + 1, x => by
    cases h : ix T.bf x T.bn with
    | none => rw [undr_no h]; simp
    | some j => rw [undr_bkt h]; exact foldl_sorted List.Pairwise.nil
theorem nodup_undr (T : TD) (f : Nat) (x : Int) : (undr T f x).Nodup := (sorted_undr T f x).imp (fun h e => by omega)

/-- n steps up. -/
def anc (T : TD) : Nat → Int → Option Int
  | 0, z => some z
  | n + 1, z => match T.par z with
    | none => none
    | some j => anc T n (T.bf j)
theorem anc_kd {T : TD} (O : T.Ok) : ∀ {n : Nat} {z y : Int}, anc T n z = some y → T.kd z + n ≤ T.kd y
  | 0, z, y, h => by have : z = y := Option.some.inj h
                     subst this; simp
  | n + 1, z, y, h => by
    unfold anc at h
    cases hp : T.par z with
    | none => rw [hp] at h; cases h
    | some j =>
      rw [hp] at h
      obtain ⟨hj, hz, _⟩ := parN_some hp
      have := kd_up O hj hz
      have := anc_kd O h
      omega
theorem anc_add {T : TD} : ∀ {n : Nat} {m : Nat} {z y : Int}, anc T n z = some y → anc T (n + m) z = anc T m y
  | 0, m, z, y, h => by have : z = y := Option.some.inj h
                        subst this; rw [Nat.zero_add]
  | n + 1, m, z, y, h => by
    unfold anc at h
    rw [show n + 1 + m = (n + m) + 1 from by omega]
    conv => lhs; unfold anc
    cases hp : T.par z with
    | none => rw [hp] at h; cases h
    | some j => rw [hp] at h; exact anc_add h
/-- Two things of one kind above z are one. -/
theorem anc_one {T : TD} (O : T.Ok) {n m : Nat} {z y y' : Int} (h : anc T n z = some y) (k : anc T m z = some y') (e : T.kd y = T.kd y') : y = y' := by
  rcases Nat.lt_trichotomy n m with q | q | q
  · have := anc_add (m := m - n) h
    rw [show n + (m - n) = m from by omega, k] at this
    have := anc_kd O this.symm
    omega
  · subst q; rw [h] at k; exact Option.some.inj k
  · have := anc_add (m := n - m) k
    rw [show m + (n - m) = n from by omega, h] at this
    have := anc_kd O this.symm
    omega
theorem ix_bkt {T : TD} (O : T.Ok) {j : Nat} (hj : j < T.bn) : ix T.bf (T.bf j) T.bn = some j := ix_at hj (fun k hk e => by have := O.bkt.lt hk hj; omega)
theorem par_at {T : TD} (O : T.Ok) {j : Nat} {x : Int} (hj : j < T.bn) (hx : x ∈ T.L j) : T.par x = some j :=
  parN_hit hj hx (fun i hi k => O.once.two i j hi hj x k hx)
theorem undr_anc {T : TD} (O : T.Ok) : ∀ {f : Nat} {x z : Int}, z ∈ undr T f x → ∃ n, anc T n z = some x
  | 0, x, z, h => by
    have : z = x := by simpa [undr] using h
    exact ⟨0, by rw [this]; rfl⟩
  | f + 1, x, z, h => by
    cases hx : ix T.bf x T.bn with
    | none => rw [undr_no hx] at h; have : z = x := by simpa using h
              exact ⟨0, by rw [this]; rfl⟩
    | some j =>
      rw [undr_bkt hx] at h
      obtain ⟨y, hy, hz⟩ := mem_undrL.1 h
      obtain ⟨n, hn⟩ := undr_anc O hz
      obtain ⟨hj, hjx, _⟩ := ix_some hx
      refine ⟨n + 1, ?_⟩
      rw [anc_add hn]
      unfold anc
      rw [par_at O hj hy]
      show some (T.bf j) = some x
      rw [hjx]
theorem items_kd {T : TD} (O : T.Ok) {j : Nat} (hj : j < T.bn) {x y : Int} (hx : x ∈ T.L j) (hy : y ∈ T.L j) : T.kd x = T.kd y := by
  obtain ⟨a, ha⟩ := List.mem_iff_getElem?.1 hx
  obtain ⟨b, hb⟩ := List.mem_iff_getElem?.1 hy
  rw [(O.fit j hj a x ha).2, (O.fit j hj b y hb).2]
/-- What lies below two items of one bucket is apart. -/
theorem undr_apart {T : TD} (O : T.Ok) {f : Nat} {j : Nat} (hj : j < T.bn) {x y z : Int} (hx : x ∈ T.L j) (hy : y ∈ T.L j) (a : z ∈ undr T f x) (b : z ∈ undr T f y) : x = y := by
  obtain ⟨n, hn⟩ := undr_anc O a
  obtain ⟨m, hm⟩ := undr_anc O b
  exact anc_one O hn hm (items_kd O hj hx hy)
/-- What lies below is a device. -/
theorem undr_dev {T : TD} (O : T.Ok) : ∀ {f : Nat} {x z : Int}, 0 ≤ T.kd x → T.kd x < f → z ∈ undr T f x → T.kd z = 0
  | 0, x, z, h0, h1, h => by omega
  | f + 1, x, z, h0, h1, h => by
    cases hx : ix T.bf x T.bn with
    | none =>
      rw [undr_no hx] at h
      have : z = x := by simpa using h
      subst this
      rcases T.kd_cases z with ⟨_, _, _, e⟩ | ⟨_, j, hj, e, _⟩ | ⟨_, _, e⟩
      · exact e
      · exact absurd e (ix_none.1 hx j hj)
      · omega
    | some j =>
      rw [undr_bkt hx] at h
      obtain ⟨y, hy, hz⟩ := mem_undrL.1 h
      obtain ⟨hj, hjx, _⟩ := ix_some hx
      have k := kd_up O hj hy
      rw [← hjx, k.2.2.2] at h1
      exact undr_dev O k.1 (by omega) hz

/-- A device's weight. -/
def dwt (T : TD) (y : Int) : Int := match ix T.df y T.dn with
  | some i => T.dg i
  | none => 0
/-- The weight, as the program reckons it. -/
def wt (T : TD) : Nat → Int → Int
  | 0, _ => 0
  | f + 1, x => match ix T.bf x T.bn with
    | none => dwt T x
    | some j => sumW (wt T f) (T.L j)
theorem wt_bkt {T : TD} {f : Nat} {x : Int} {j : Nat} (h : ix T.bf x T.bn = some j) : wt T (f + 1) x = sumW (wt T f) (T.L j) := by
  conv => lhs; unfold wt
  rw [h]
theorem wt_no {T : TD} {f : Nat} {x : Int} (h : ix T.bf x T.bn = none) : wt T (f + 1) x = dwt T x := by unfold wt; rw [h]
theorem sum_foldl {T : TD} (O : T.Ok) {f : Nat} {j : Nat} (hj : j < T.bn) (IH : ∀ y, y ∈ T.L j → sumW (dwt T) (undr T f y) = wt T f y) : ∀ {l out : List Int}, l.Nodup → (∀ y, y ∈ l → y ∈ T.L j) → (∀ y z, y ∈ l → z ∈ undr T f y → z ∉ out) →
    sumW (dwt T) (l.foldl (fun o y => putAll o (undr T f y)) out) = sumW (dwt T) out + sumW (wt T f) l
  | [], out, _, _, _ => by simp [sumW]
  | a :: l, out, hn, hm, hd => by
    have hn := List.nodup_cons.1 hn
    rw [List.foldl_cons, sum_foldl O hj IH hn.2 (fun y hy => hm y (List.mem_cons_of_mem _ hy)) (fun y z hy hz k => by
      rcases mem_putAll.1 k with k | k
      · exact hd y z (List.mem_cons_of_mem _ hy) hz k
      · have := undr_apart O hj (hm y (List.mem_cons_of_mem _ hy)) (hm a List.mem_cons_self) hz k
        exact hn.1 (this ▸ hy)), sum_putAll _ (nodup_undr T f a) (fun z hz k => hd a z List.mem_cons_self hz k), IH a (hm a List.mem_cons_self)]
    simp only [sumW, List.map_cons, List.sum_cons]; omega
theorem sum_undr {T : TD} (O : T.Ok) : ∀ {f : Nat} {x : Int}, 0 ≤ T.kd x → T.kd x < f → sumW (dwt T) (undr T f x) = wt T f x
  | 0, x, h0, h1 => by omega
  | f + 1, x, h0, h1 => by
    cases hx : ix T.bf x T.bn with
    | none => rw [undr_no hx, wt_no hx]; simp [sumW]
    | some j =>
      obtain ⟨hj, hjx, _⟩ := ix_some hx
      rw [undr_bkt hx, wt_bkt hx]
      have := sum_foldl O hj (f := f) (fun y hy => by
        have k := kd_up O hj hy
        rw [← hjx, k.2.2.2] at h1
        exact sum_undr O k.1 (by omega)) (l := T.L j) (out := []) (O.once.one j hj) (fun y hy => hy) (fun y z _ _ k => by cases k)
      unfold undrL
      rw [this]; simp [sumW]
theorem dwt_le {T : TD} (O : T.Ok) (y : Int) : 0 ≤ dwt T y ∧ dwt T y ≤ 8 := by
  unfold dwt
  cases h : ix T.df y T.dn with
  | none => simp
  | some i => have := O.dev.each i (ix_some h).1; exact ⟨this.2.2.1, this.2.2.2⟩
theorem sumW_le {w : Int → Int} {m : Int} (hm : ∀ y, 0 ≤ w y ∧ w y ≤ m) : ∀ l : List Int, 0 ≤ sumW w l ∧ sumW w l ≤ l.length * m
  | [] => by simp [sumW]
  | a :: l => by
    have h1 := sumW_le hm l
    have h2 := hm a
    simp only [sumW, List.map_cons, List.sum_cons, List.length_cons] at h1 ⊢
    rw [Int.natCast_succ, Int.add_mul]; omega
theorem wt_le {T : TD} (O : T.Ok) : ∀ (f : Nat) (x : Int), 0 ≤ wt T f x ∧ wt T f x ≤ 8 * 8 ^ f
  | 0, x => by simp [wt]
  | f + 1, x => by
    have hp : (8 : Int) ^ (f + 1) = 8 ^ f * 8 := Int.pow_succ _ _
    have h8 : (1 : Int) ≤ 8 ^ f := by
      have : (0 : Int) < 8 ^ f := Int.pow_pos (by omega)
      omega
    cases hx : ix T.bf x T.bn with
    | none => rw [wt_no hx]; have := dwt_le O x; omega
    | some j =>
      rw [wt_bkt hx]
      have h := sumW_le (fun y => wt_le O f y) (T.L j)
      have hl := (O.bkt.each j (ix_some hx).1).2.2.2.2
      refine ⟨h.1, Int.le_trans h.2 ?_⟩
      have : ((T.L j).length : Int) * (8 * 8 ^ f) ≤ 8 * (8 * 8 ^ f) := Int.mul_le_mul_of_nonneg_right (by omega) (by omega)
      rw [hp]; omega
theorem sumW_snoc (w : Int → Int) (l : List Int) (y : Int) : sumW w (l ++ [y]) = sumW w l + w y := by simp [sumW]
end Go.Proofs.Ytigaoimnhebegaa.Tm

/-
  The weight of a thing: in the program.
-/
namespace Go.Proofs.Ytigaoimnhebegaa.Tm
open Go.RowKit Go.Proofs.Ytigaoimnhebegaa.GfI Go.Proofs.Ytigaoimnhebegaa.GfS Go.Proofs.Ytigaoimnhebegaa.MixC
open Go.Proofs.Ytigaoimnhebegaa.It (lay chain)
open Go.Proofs.Ytigaoimnhebegaa.Bk (Bks tval bval)
open Go.Proofs.Ytigaoimnhebegaa.Sg (BxN)
set_option linter.unusedVariables false
set_option linter.unusedSimpArgs false

theorem pow8 : ∀ {f : Nat}, f ≤ 4 → (8 : Int) ^ f ≤ 4096
  | 0, _ => by decide
  | 1, _ => by decide
  | 2, _ => by decide
  | 3, _ => by decide
  | 4, _ => by decide
  | f + 5, h => by omega
theorem wt_top {T : TD} (O : T.Ok) {f : Nat} (hf : f ≤ 4) (y : Int) : 0 ≤ wt T f y ∧ wt T f y ≤ 32768 := by
  have h := wt_le O f y
  have := pow8 hf
  omega
theorem weightML (d f : Nat) (w : World) : (method (f + 10) 208 (.pointer (some ⟨d, 0, none⟩)) "loop.example/g00849/impl.weight").run Try.prog w = .ok (225, .pointer (some ⟨d, 0, none⟩)) w := by kernel_rfl
theorem weightMB (d f : Nat) (w : World) : (method (f + 10) 209 (.pointer (some ⟨d, 0, none⟩)) "loop.example/g00849/impl.weight").run Try.prog w = .ok (226, .pointer (some ⟨d, 0, none⟩)) w := by kernel_rfl
theorem leafWeight (b : Nat) (x : Int) (w : World) (c2 : w.cell? ⟨b, 2, none⟩ = some (.int .i64 x)) :
    Calls Try.prog 225 #[.pointer (some ⟨b, 0, none⟩)] w (Same (.int .i64 x) w) := by
  go_enter Try.func225, Try.ntmps225
  go_wp2
  go_ret
  exact ⟨rfl, rfl⟩
/-- A thing that is there: how its weight is had. -/
def HasW (T : TD) (p q f : Nat) (y : Int) (w : World) : Prop :=
  ∃ t d, thg T p q T.dn T.bn y = .iface t (.pointer (some ⟨d, 0, none⟩)) ∧
    ((t = 208 ∧ Calls Try.prog 225 #[.pointer (some ⟨d, 0, none⟩)] w (Same (.int .i64 (wt T f y)) w)) ∨
     (t = 209 ∧ Calls Try.prog 226 #[.pointer (some ⟨d, 0, none⟩)] w (Same (.int .i64 (wt T f y)) w)))
theorem ix_dev {T : TD} (O : T.Ok) {i : Nat} (hi : i < T.dn) : ix T.df (T.df i) T.dn = some i := ix_at hi (fun k hk e => by have := O.dev.lt hk hi; omega)
theorem ix_devb {T : TD} (O : T.Ok) {i : Nat} (hi : i < T.dn) : ix T.bf (T.df i) T.bn = none := ix_none.2 (fun j hj e => by have := (O.dev.each i hi).1; have := (O.bkt.each j hj).2.1; omega)
theorem hasW {T : TD} {mb p q : Nat} {w : World} (h : Whole T mb p q w) {f : Nat} {y : Int} (h0 : 0 ≤ T.kd y) (IH : ∀ j, j < T.bn → T.bf j = y → Calls Try.prog 226 #[.pointer (some ⟨q + 2 * j, 0, none⟩)] w (Same (.int .i64 (sumW (wt T f) (T.L j))) w)) :
    HasW T p q (f + 1) y w := by
  have O := h.ok
  rcases thg_cases (T := T) p q y with ⟨i, hi, e, hk, ht⟩ | ⟨j, hj, e, hk, ht⟩ | ⟨hk, ht⟩
  · refine ⟨_, _, ht, .inl ⟨rfl, ?_⟩⟩
    have c2 := (h.lf i hi).cells 2 _ rfl
    have : wt T (f + 1) y = T.dg i := by rw [← e, wt_no (ix_devb O hi)]; unfold dwt; rw [ix_dev O hi]
    rw [this]
    exact leafWeight _ _ w c2
  · refine ⟨_, _, ht, .inr ⟨rfl, ?_⟩⟩
    have : wt T (f + 1) y = sumW (wt T f) (T.L j) := wt_bkt (by rw [← e]; exact ix_bkt O hj)
    rw [this]
    exact IH j hj e
  · omega

set_option maxRecDepth 100000 in
set_option maxHeartbeats 1000000 in
theorem branchWeight (T : TD) (mb p q : Nat) (w : World) (h : Whole T mb p q w) : ∀ (f : Nat) (j : Nat), f ≤ 3 → j < T.bn → T.bg j ≤ f →
    Calls Try.prog 226 #[.pointer (some ⟨q + 2 * j, 0, none⟩)] w (Same (.int .i64 (sumW (wt T f) (T.L j))) w)
  | 0, j, _, hj, hg => by have := (h.ok.bkt.each j hj).2.2.1; omega
  | f + 1, j, hf, hj, hg => by
    obtain ⟨s, u, lo, hi, X, R⟩ := h.br j hj
    have O := h.ok
    have IT := Lib.hid (fun y (hy : y ∈ T.L j) => hasW h (f := f) (kd_up O hj hy).1 (fun j' hj' e => branchWeight T mb p q w h f j' (by omega) hj' (by
      have k := kd_up O hj hy
      rw [← e, TD.kd_bkt O.dev O.bkt hj'] at k
      omega)))
    have TOP := Lib.hid (fun y => wt_top O (f := f + 1) (by omega) y)
    have h8 := (O.bkt.each j hj).2.2.2.2
    have c4 := X.cells 4 _ rfl
    obtain ⟨a, cap, rfl, hr⟩ := R
    unfold things at c4 hr
    rw [List.length_map] at c4
    generalize T.L j = l at *
    obtain ⟨n, hn⟩ : ∃ n, n = l.length := ⟨_, rfl⟩
    rw [← hn] at c4 h8
    have HN := Lib.hid hn
    clear hn X hg hj
    go_enter Try.func226, Try.ntmps226
    go_wp2
    go_loop [3, 11] (fun s i => ∃ k : Nat, k ≤ n ∧ i = .int .i64 k ∧ s = .int .i64 (sumW (wt T (f + 1)) (l.take k))) (fun _ i => n - (intOf i).toNat)
    case atStart => exact ⟨0, by omega, rfl, rfl⟩
    case round =>
      obtain ⟨k, hk, rfl, rfl⟩ := hrel
      by_cases hlt : k < n
      · have hl : k < l.length := by rw [← HN.out]; exact hlt
        obtain ⟨b, off, rfl, -, -, -, hc⟩ := hr.resolve_left (by intro e; have := congrArg List.length e; rw [List.length_map] at this; simp at this; rw [this] at hl; simp at hl)
        have d := hc k (thg T p q T.dn T.bn (l.getD k 0)) (by rw [List.getElem?_map, List.getElem?_eq_getElem hl, List.getD_eq_getElem?_getD, List.getElem?_eq_getElem hl]; rfl)
        have SN := Lib.hid (show sumW (wt T (f + 1)) (l.take (k + 1)) = sumW (wt T (f + 1)) (l.take k) + wt T (f + 1) (l.getD k 0) from by rw [take_snoc _ _ hl, sumW_snoc])
        have S1 := sumW_le (w := wt T (f + 1)) (m := 32768) TOP.out (l.take k)
        have S2 := TOP.out (l.getD k 0)
        have l8 : (l.take k).length ≤ 8 := by rw [List.length_take]; omega
        obtain ⟨t, dd, ht, hcall⟩ := IT.out _ (getD_mem hl)
        rw [ht] at d
        have B1 : 0 ≤ sumW (wt T (f + 1)) (l.take k) ∧ sumW (wt T (f + 1)) (l.take k) ≤ 262144 := by
          have : ((l.take k).length : Int) * 32768 ≤ 8 * 32768 := Int.mul_le_mul_of_nonneg_right (by omega) (by omega)
          omega
        have W : IntKind.i64.wrap (sumW (wt T (f + 1)) (l.take k) + wt T (f + 1) (l.getD k 0)) = sumW (wt T (f + 1)) (l.take k) + wt T (f + 1) (l.getD k 0) := by rw [IntKind.wrap_i64]; omega
        clear hc S1 l8
        generalize sumW (wt T (f + 1)) (l.take k) = s0 at *
        generalize wt T (f + 1) (l.getD k 0) = wv at *
        rcases hcall with ⟨rfl, CL⟩ | ⟨rfl, CL⟩
        · have M := weightML dd
          have CL := Lib.hid CL
          go_wp2_with fail
          refine CL.out.mono ?_
          rintro e w2 ⟨rfl, rfl⟩
          go_wp2
          go_round
          case rel => exact ⟨k + 1, by omega, by go_num, by rw [SN.out]⟩
          case measure => simp [intOf]; omega
        · have M := weightMB dd
          have CL := Lib.hid CL
          go_wp2_with fail
          refine CL.out.mono ?_
          rintro e w2 ⟨rfl, rfl⟩
          go_wp2
          go_round
          case rel => exact ⟨k + 1, by omega, by go_num, by rw [SN.out]⟩
          case measure => simp [intOf]; omega
      · obtain rfl : k = n := by omega
        have E : l.take k = l := by rw [HN.out]; exact List.take_length
        rw [E]
        clear hr hk
        go_wp2
        go_ret
        exact ⟨rfl, rfl⟩
end Go.Proofs.Ytigaoimnhebegaa.Tm

/-
  A number into a rising list: the model's function.
-/
namespace Go.Proofs.Ytigaoimnhebegaa.Tm
open Go.RowKit Go.Proofs.Ytigaoimnhebegaa.GfI Go.Proofs.Ytigaoimnhebegaa.GfS Go.Proofs.Ytigaoimnhebegaa.MixC
open Go.Proofs.Ytigaoimnhebegaa.Gf2 (Ib wpList_append_int)
open Go.Proofs.Ytigaoimnhebegaa.It (lay chain)
set_option linter.unusedVariables false
set_option linter.unusedSimpArgs false

theorem put_lt {n : Int} {s : List Int} : ∀ {t : List Int}, (∀ z, z ∈ t → z < n) → put n (t ++ s) = t ++ put n s
  | [], _ => rfl
  | a :: t, h => by
    have h1 := h a List.mem_cons_self
    show put n (a :: (t ++ s)) = a :: (t ++ put n s)
    conv => lhs; unfold put
    rw [if_neg (by omega), put_lt (fun z hz => h z (List.mem_cons_of_mem _ hz))]
theorem put_ge {n : Int} {s : List Int} : ∀ {t : List Int}, (∃ z, z ∈ t ∧ n ≤ z) → put n (t ++ s) = put n t ++ s
  | [], h => by obtain ⟨z, hz, _⟩ := h; cases hz
  | a :: t, h => by
    show put n (a :: (t ++ s)) = put n (a :: t) ++ s
    unfold put
    by_cases h1 : n ≤ a
    · rw [if_pos h1, if_pos h1]; split <;> rfl
    · rw [if_neg h1, if_neg h1, put_ge (t := t) (by
        obtain ⟨z, hz, hn⟩ := h
        rcases List.mem_cons.1 hz with rfl | hz
        · exact absurd hn h1
        · exact ⟨z, hz, hn⟩)]; rfl
/-- What is built when the numbers t have been met. -/
structure PutI (n : Int) (t : List Int) (d : Bool) (zs : List Int) : Prop where
  no : d = false → zs = t ∧ ∀ z, z ∈ t → z < n
  yes : d = true → zs = put n t ∧ ∃ z, z ∈ t ∧ n ≤ z
theorem PutI.lt {n : Int} {t zs : List Int} {y : Int} (h : PutI n t false zs) (hy : y < n) : PutI n (t ++ [y]) false (zs ++ [y]) := by
  obtain ⟨e, k⟩ := h.no rfl
  exact ⟨fun _ => ⟨by rw [e], fun z hz => by
    rcases List.mem_append.1 hz with hz | hz
    · exact k z hz
    · have : z = y := by simpa using hz
      omega⟩, fun q => by cases q⟩
theorem PutI.gt {n : Int} {t zs : List Int} {y : Int} (h : PutI n t false zs) (hy : n < y) : PutI n (t ++ [y]) true (zs ++ [n] ++ [y]) := by
  obtain ⟨e, k⟩ := h.no rfl
  refine ⟨(fun q => by cases q), fun _ => ⟨?_, y, by simp, by omega⟩⟩
  rw [put_lt k, e]; unfold put; rw [if_pos (by omega), if_pos hy]; simp
theorem PutI.eq {n : Int} {t zs : List Int} {y : Int} (h : PutI n t false zs) (hy : y = n) : PutI n (t ++ [y]) true (zs ++ [y]) := by
  obtain ⟨e, k⟩ := h.no rfl
  refine ⟨(fun q => by cases q), fun _ => ⟨?_, y, by simp, by omega⟩⟩
  rw [put_lt k, e]; unfold put; rw [if_pos (by omega), if_neg (by omega)]
theorem PutI.more {n : Int} {t zs : List Int} {y : Int} (h : PutI n t true zs) : PutI n (t ++ [y]) true (zs ++ [y]) := by
  obtain ⟨e, z, hz, k⟩ := h.yes rfl
  refine ⟨(fun q => by cases q), fun _ => ⟨?_, z, by simp [hz], k⟩⟩
  rw [put_ge ⟨z, hz, k⟩, e]
theorem PutI.last {n : Int} {t zs : List Int} (h : PutI n t false zs) : zs ++ [n] = put n t := by
  obtain ⟨e, k⟩ := h.no rfl
  have := put_lt (s := []) k
  rw [List.append_nil] at this
  rw [this, e]; rfl
theorem PutI.len {n : Int} {t zs : List Int} {d : Bool} (h : PutI n t d zs) : zs.length ≤ t.length + 1 := by
  cases d
  · rw [(h.no rfl).1]; omega
  · rw [(h.yes rfl).1]; exact put_len n t
/-- A list handed back. -/
def ListR (zs : List Int) (w : World) (e : Ending) (w' : World) : Prop := ∃ a cap, e = .returned (.slice a zs.length cap) ∧ Words w' a zs ∧ Below w.heap.size w w'
theorem ListR.of {w0 w : World} {v : Value} {zs : List Int} (h : Ib w0.heap.size w v zs) (b : Below w0.heap.size w0 w) : ListR zs w0 (.returned v) w := by
  obtain ⟨a, L, cap, rfl⟩ := h.shape
  obtain ⟨O, rfl⟩ := Gf2.Ib.own (w0 := w0) h (Nat.le_refl _)
  exact ⟨a, cap, rfl, O.words, b⟩

set_option maxRecDepth 100000 in
set_option maxHeartbeats 2000000 in
theorem l00Put (a : Option Addr) (cap : Nat) (l : List Int) (n : Int) (w : World) (hl : l.length ≤ 100000) (h : Words w a l) :
    Calls Try.prog 130 #[.slice a l.length cap, .int .i64 n] w (ListR (put n l) w) := by
  obtain ⟨m, hm⟩ := (⟨_, rfl⟩ : ∃ m, m = l.length)
  have HM := Lib.hid hm
  have HW := Lib.hid h
  have LH := Lib.hid (lay w (.cells #[] 2))
  have J0 := Lib.hid (show Ib w.heap.size (w.alloc (.cells #[] 2)) (.slice (some ⟨w.heap.size, 0, none⟩) 0 0) [] from World.ownsRow_made _ #[] 0 (Nat.le_refl _) (by unfold maxLen; omega) (by simp))
  rw [← hm] at hl ⊢
  clear hm h
  go_enter Try.func130, Try.ntmps130
  go_wp2
  go_loopw [5, 6, 7] (fun v d i wr => ∃ (k : Nat) (b : Bool) (zs : List Int), k ≤ m ∧ i = .int .i64 k ∧ d = .bool b ∧ PutI n (l.take k) b zs ∧ Ib w.heap.size wr v zs ∧ Below w.heap.size w wr) (fun _ _ i _ => m - (intOf i).toNat)
  case atStart => exact ⟨0, false, [], by omega, rfl, rfl, ⟨fun _ => ⟨rfl, fun z hz => by cases hz⟩, fun q => by cases q⟩, J0.out, LH.out⟩
  case round =>
    clear J0 LH
    obtain ⟨k, b, zs, hk, rfl, rfl, P, J, hw⟩ := hrel
    have PH := Lib.hid P
    have WH := Lib.hid hw
    have zl : zs.length ≤ 100001 := by have := P.len; rw [List.length_take] at this; omega
    have LE := hw.size
    clear P
    by_cases hlt : k < m
    · have hkl : k < l.length := by rw [← HM.out]; exact hlt
      obtain ⟨bb, off, rfl, hB, nums⟩ := HW.out.resolve_left (by intro e; rw [e] at hkl; simp at hkl)
      have d0 := nums k hkl
      have TS := Lib.hid (take_snoc l k hkl)
      generalize l.getD k 0 = y at *
      have CELL := Lib.hid (fun w' (b : Below w.heap.size w w') => (b.cell (p := ⟨bb, off + k, none⟩) hB).trans d0)
      have d := CELL.out _ hw
      clear nums hw d0
      have JH := Lib.hid J
      cases b
      · by_cases h1 : y < n
        · have G := Lib.hid (PH.out.lt h1)
          clear J
          go_wp2_with (at_builtin; refine wpList_append_int rfl (.tmp 35) (.tmp 40) rfl w.heap.size _ zs rfl y JH.out rfl (by omega) (by omega) ?_; intro v' w3 J3 g3)
          have B3 := Lib.hid (WH.out.trans (Below.mono (JH.out.grown (by omega) _ g3) (Nat.le_refl _)))
          have J3H := Lib.hid J3
          clear J3 g3
          go_roundw
          case rel => exact ⟨k + 1, false, _, by omega, by go_num, rfl, by rw [TS.out]; exact G.out, J3H.out, B3.out⟩
          case measure => simp [intOf]; omega
        · by_cases h2 : n < y
          · have G := Lib.hid (PH.out.gt h2)
            clear J
            go_wp2_with (first
              | (at_builtin; refine wpList_append_int rfl (.tmp 31) (.tmp 33) rfl w.heap.size _ zs rfl n JH.out rfl (by omega) (by omega) ?_; intro v' w3 J3 g3; have B3 := Lib.hid (WH.out.trans (Below.mono (JH.out.grown (by omega) _ g3) (Nat.le_refl _))); have d3 := CELL.out w3 B3.out; have sz3 := B3.out.size; have J3H := Lib.hid J3; clear J3 g3)
              | (at_builtin; refine wpList_append_int rfl (.tmp 35) (.tmp 40) rfl w.heap.size _ (zs ++ [n]) rfl y J3H.out rfl (by simp; omega) (by omega) ?_; intro v'' w4 J4 g4))
            have B4 := Lib.hid (B3.out.trans (Below.mono (J3H.out.grown (by omega) _ g4) (Nat.le_refl _)))
            have J4H := Lib.hid J4
            clear J4 g4
            go_roundw
            case rel => exact ⟨k + 1, true, _, by omega, by go_num, rfl, by rw [TS.out]; exact G.out, J4H.out, B4.out⟩
            case measure => simp [intOf]; omega
          · have G := Lib.hid (PH.out.eq (y := y) (by omega))
            obtain rfl : y = n := by omega
            clear J h1 h2
            go_wp2_with (at_builtin; refine wpList_append_int rfl (.tmp 35) (.tmp 40) rfl w.heap.size _ zs rfl y JH.out rfl (by omega) (by omega) ?_; intro v' w3 J3 g3)
            have B3 := Lib.hid (WH.out.trans (Below.mono (JH.out.grown (by omega) _ g3) (Nat.le_refl _)))
            have J3H := Lib.hid J3
            clear J3 g3
            go_roundw
            case rel => exact ⟨k + 1, true, _, by omega, by go_num, rfl, by rw [TS.out]; exact G.out, J3H.out, B3.out⟩
            case measure => simp [intOf]; omega
      · have G := Lib.hid (PH.out.more (y := y))
        clear J
        go_wp2_with (at_builtin; refine wpList_append_int rfl (.tmp 35) (.tmp 40) rfl w.heap.size _ zs rfl y JH.out rfl (by omega) (by omega) ?_; intro v' w3 J3 g3)
        have B3 := Lib.hid (WH.out.trans (Below.mono (JH.out.grown (by omega) _ g3) (Nat.le_refl _)))
        have J3H := Lib.hid J3
        clear J3 g3
        go_roundw
        case rel => exact ⟨k + 1, true, _, by omega, by go_num, rfl, by rw [TS.out]; exact G.out, J3H.out, B3.out⟩
        case measure => simp [intOf]; omega
    · obtain rfl : k = m := by omega
      have E : l.take k = l := by rw [HM.out]; exact List.take_length
      rw [E] at PH
      have JH := Lib.hid J
      clear J hw E
      cases b
      · have G := Lib.hid (PH.out.last)
        go_wp2_with (at_builtin; refine wpList_append_int rfl (.tmp 44) (.tmp 46) rfl w.heap.size _ zs rfl n JH.out rfl (by omega) (by omega) ?_; intro v' w3 J3 g3)
        have B3 := Lib.hid (WH.out.trans (Below.mono (JH.out.grown (by omega) _ g3) (Nat.le_refl _)))
        have J3H := Lib.hid (show Ib w.heap.size w3 v' (put n l) from by rw [← G.out]; exact J3)
        clear J3 g3
        go_ret
        exact ListR.of J3H.out B3.out
      · have G := (PH.out.yes rfl).1
        subst G
        go_wp2
        go_ret
        exact ListR.of JH.out WH.out
end Go.Proofs.Ytigaoimnhebegaa.Tm
