/-
  Which bucket each thing of a tree hangs under, while the buckets are taken one after another; what a map of the parts holds. No program runs.
-/
import Derived.Test.YtigaoimnhebegaaTval
import Derived.Test.YtigaoimnhebegaaPmap
import Derived.Test.YtigaoimnhebegaaMatRes2
import Derived.Handy
import Derived.BigQuiet
import Derived.Deep.QuietTactic
import Derived.Deep.RegionHeld3
import Derived.BigRegion
namespace Go.Proofs.Ytigaoimnhebegaa.Tm
open Go.RowKit
open Go.Proofs.Ytigaoimnhebegaa.Sg (BxN)
set_option linter.unusedVariables false

/-- After k buckets and i items of the next, U x is the bucket above x. -/
structure Up (T : TD) (k i : Nat) (U : Int → Option Nat) : Prop where
  nd : (seenL T k i).Nodup
  no : ∀ x, U x = none ↔ x ∉ seenL T k i
  so : ∀ x j, U x = some j → j < T.bn ∧ x ∈ T.L j
theorem Up.start (T : TD) : Up T 0 0 (fun _ => none) := ⟨by simp [seenL, flatL], fun x => by simp [seenL, flatL], fun x j h => by cases h⟩
theorem Up.next {T : TD} {k : Nat} {U : Int → Option Nat} (h : Up T k (T.L k).length U) : Up T (k + 1) 0 U := by
  have e : seenL T (k + 1) 0 = seenL T k (T.L k).length := by rw [seen_end, seen_zero]
  exact ⟨by rw [e]; exact h.nd, fun x => by rw [e]; exact h.no x, h.so⟩
def upU (U : Int → Option Nat) (x : Int) (k : Nat) : Int → Option Nat := fun y => if y = x then some k else U y
theorem Up.step {T : TD} {k i : Nat} {U : Int → Option Nat} (h : Up T k i U) (hk : k < T.bn) (hi : i < (T.L k).length) (hx : U ((T.L k).getD i 0) = none) : Up T k (i + 1) (upU U ((T.L k).getD i 0) k) := by
  have hs := seen_snoc T hi
  refine ⟨?_, fun y => ?_, fun y j hy => ?_⟩
  · rw [hs]; exact nodup_snoc h.nd ((h.no _).1 hx)
  · rw [hs]; unfold upU
    by_cases e : y = (T.L k).getD i 0
    · rw [if_pos e, ← e]; simp
    · rw [if_neg e, h.no y, List.mem_append, List.mem_singleton]; exact ⟨fun q r => r.elim q e, fun q r => q (.inl r)⟩
  · unfold upU at hy
    split at hy
    · rename_i e
      obtain rfl : k = j := by simpa using hy
      rw [e]; exact ⟨hk, getD_mem hi⟩
    · exact h.so y j hy
theorem Up.bad {T : TD} {k i : Nat} {U : Int → Option Nat} (h : Up T k i U) (hk : k < T.bn) (hi : i < (T.L k).length) (hx : U ((T.L k).getD i 0) ≠ none) : ¬ T.Once := by
  intro d
  refine d.bad hk hi ?_
  exact Classical.byContradiction fun q => hx ((h.no _).2 q)
theorem Up.once {T : TD} {U : Int → Option Nat} (h : Up T T.bn 0 U) : T.Once := once_of (by have := h.nd; rwa [seen_zero] at this)
theorem Up.iff {T : TD} {U : Int → Option Nat} (h : Up T T.bn 0 U) (x : Int) (j : Nat) : U x = some j ↔ j < T.bn ∧ x ∈ T.L j := by
  constructor
  · exact h.so x j
  · rintro ⟨hj, hx⟩
    have hm : x ∈ seenL T T.bn 0 := by rw [seen_zero]; exact mem_flatL.2 ⟨j, hj, hx⟩
    cases q : U x with
    | none => exact absurd hm ((h.no x).1 q)
    | some j' =>
      obtain ⟨a, b⟩ := h.so x j' q
      have O := h.once
      rcases Nat.lt_trichotomy j j' with e | e | e
      · exact (O.two j j' e a x hx b).elim
      · rw [e]
      · exact (O.two j' j e hj x b hx).elim

/-- The thing of number x, if the first d devices and b buckets are there; they lie at every second block from p, and from q. -/
def thg (T : TD) (p q d b : Nat) (x : Int) : Value := match ix T.df x d with
  | some i => .iface 208 (.pointer (some ⟨p + 2 * i, 0, none⟩))
  | none => match ix T.bf x b with
    | some j => .iface 209 (.pointer (some ⟨q + 2 * j, 0, none⟩))
    | none => .nilIface
theorem thg_none (T : TD) (p q : Nat) (x : Int) : thg T p q 0 0 x = .nilIface := rfl
theorem ix_succ {f : Nat → Int} {x : Int} {n : Nat} (h : f n ≠ x) : ix f x (n + 1) = ix f x n := by
  show (match ix f x n with | some i => some i | none => if f n = x then some n else none) = _
  cases ix f x n with
  | some i => rfl
  | none => dsimp only; rw [if_neg h]
theorem thg_dev {T : TD} (D : T.DevOk) (p q : Nat) {i : Nat} (hi : i < T.dn) : Pm.upd (thg T p q i 0) (T.df i) (.iface 208 (.pointer (some ⟨p + 2 * i, 0, none⟩))) = thg T p q (i + 1) 0 := by
  funext y
  unfold Pm.upd thg
  by_cases e : y = T.df i
  · rw [if_pos e, e, ix_at (n := i + 1) (i := i) (by omega) (fun j hj e2 => by have := D.lt hj hi; omega)]
  · rw [if_neg e, ix_succ (fun e2 => e e2.symm)]
theorem thg_bkt {T : TD} (D : T.DevOk) (B : T.BktOk) (p q : Nat) {j : Nat} (hj : j < T.bn) : Pm.upd (thg T p q T.dn j) (T.bf j) (.iface 209 (.pointer (some ⟨q + 2 * j, 0, none⟩))) = thg T p q T.dn (j + 1) := by
  funext y
  unfold Pm.upd thg
  by_cases e : y = T.bf j
  · rw [if_pos e, e, ix_none.2 (fun i hi e2 => by have := (D.each i hi).1; have := (B.each j hj).2.1; omega)]
    dsimp only
    rw [ix_at (n := j + 1) (i := j) (by omega) (fun j' hj' e2 => by have := B.lt hj' hj; omega)]
  · rw [if_neg e, ix_succ (fun e2 => e e2.symm)]
/-- The thing of a number: a device, a bucket, or nothing. -/
theorem thg_cases {T : TD} (p q : Nat) (x : Int) : (∃ i, i < T.dn ∧ T.df i = x ∧ T.kd x = 0 ∧ thg T p q T.dn T.bn x = .iface 208 (.pointer (some ⟨p + 2 * i, 0, none⟩)))
    ∨ (∃ j, j < T.bn ∧ T.bf j = x ∧ T.kd x = T.bg j ∧ thg T p q T.dn T.bn x = .iface 209 (.pointer (some ⟨q + 2 * j, 0, none⟩)))
    ∨ (T.kd x = -1 ∧ thg T p q T.dn T.bn x = .nilIface) := by
  unfold TD.kd thg
  cases h : ix T.df x T.dn with
  | some i => obtain ⟨a, b, _⟩ := ix_some h; exact .inl ⟨i, a, b, rfl, rfl⟩
  | none =>
    dsimp only
    cases r : ix T.bf x T.bn with
    | some j => obtain ⟨a, b, _⟩ := ix_some r; exact .inr (.inl ⟨j, a, b, rfl, rfl⟩)
    | none => exact .inr (.inr ⟨rfl, rfl⟩)
/-- A pointer to the bucket above. -/
def upv (q : Nat) : Option Nat → Value
  | none => .pointer none
  | some j => .pointer (some ⟨q + 2 * j, 0, none⟩)
end Go.Proofs.Ytigaoimnhebegaa.Tm

/-
  The parts of a tree in memory: a map, a box for each device and bucket, a row of parts for each bucket; the small functions on a part.
-/
namespace Go.Proofs.Ytigaoimnhebegaa.Tm
open Go.RowKit Go.Proofs.Ytigaoimnhebegaa.GfI Go.Proofs.Ytigaoimnhebegaa.GfS Go.Proofs.Ytigaoimnhebegaa.MixC
open Go.Proofs.Ytigaoimnhebegaa.It (lay chain)
open Go.Proofs.Ytigaoimnhebegaa.Sg (BxN)
set_option linter.unusedVariables false
set_option linter.unusedSimpArgs false

def holdB (g k : Int) : Bool := decide (k = g - 1 ∨ g = 3 ∧ k = 1)
/-- An answer, and the world as it was. -/
def Same (v : Value) (w : World) (e : Ending) (w' : World) : Prop := e = .returned v ∧ w = w'
set_option maxRecDepth 100000 in
theorem mayHold (g k : Int) (h1 : 1 ≤ g) (h3 : g ≤ 3) (w : World) : Calls Try.prog 196 #[.int .i64 g, .int .i64 k] w (Same (.bool (holdB g k)) w) := by
  have E : IntKind.i64.wrap (g - 1) = g - 1 := by rw [IntKind.wrap_i64]; omega
  by_cases a : k = g - 1
  · have R : holdB g k = true := decide_eq_true (.inl a)
    have a' : (k == g - 1) = true := by simpa using a
    rw [R]
    clear R a
    go_enter Try.func196, Try.ntmps196
    go_wp2
    go_ret
    exact ⟨rfl, rfl⟩
  · have a' : (k == g - 1) = false := by simpa using a
    by_cases b : g = 3
    · subst b
      by_cases c : k = 1
      · subst c
        rw [show holdB 3 1 = true from rfl]
        go_enter Try.func196, Try.ntmps196
        go_wp2
        go_ret
        exact ⟨rfl, rfl⟩
      · have R : holdB 3 k = false := decide_eq_false (by omega)
        have c' : (k == 1) = false := by simpa using c
        have a2 : (k == 2) = false := a'
        rw [R]
        clear R a c a'
        go_enter Try.func196, Try.ntmps196
        go_wp2
        go_ret
        exact ⟨rfl, rfl⟩
    · have R : holdB g k = false := decide_eq_false (by omega)
      have b' : (g == 3) = false := by simpa using b
      rw [R]
      clear R a b
      go_enter Try.func196, Try.ntmps196
      go_wp2
      go_ret
      exact ⟨rfl, rfl⟩

theorem asLL (v : Value) (w : World) : (Instr.typeAssert (.iface 208 v) 179 208 true).run Try.prog w = .ok (.tuple #[v, .bool true]) w := by kernel_rfl
theorem asBL (v : Value) (w : World) : (Instr.typeAssert (.iface 209 v) 179 208 true).run Try.prog w = .ok (.tuple #[.pointer none, .bool false]) w := by kernel_rfl
theorem asBB (v : Value) (w : World) : (Instr.typeAssert (.iface 209 v) 179 209 true).run Try.prog w = .ok (.tuple #[v, .bool true]) w := by kernel_rfl
theorem asNL (w : World) : (Instr.typeAssert .nilIface 179 208 true).run Try.prog w = .ok (.tuple #[.pointer none, .bool false]) w := by kernel_rfl
theorem asNB (w : World) : (Instr.typeAssert .nilIface 179 209 true).run Try.prog w = .ok (.tuple #[.pointer none, .bool false]) w := by kernel_rfl

set_option maxRecDepth 100000 in
theorem kindOf (T : TD) (p q : Nat) (x : Int) (w : World) (hb : ∀ j, j < T.bn → w.cell? ⟨q + 2 * j, 2, none⟩ = some (.int .i64 (T.bg j))) :
    Calls Try.prog 179 #[thg T p q T.dn T.bn x] w (Same (.int .i64 (T.kd x)) w) := by
  rcases thg_cases (T := T) p q x with ⟨i, hi, hx, hk, ht⟩ | ⟨j, hj, hx, hk, ht⟩ | ⟨hk, ht⟩
  · rw [ht, hk]
    clear ht hk hb hi hx
    have A := asLL (.pointer (some ⟨p + 2 * i, 0, none⟩)) w
    go_enter Try.func179, Try.ntmps179
    go_wp2
    go_ret
    exact ⟨rfl, rfl⟩
  · rw [ht, hk]
    have c2 := hb j hj
    clear ht hk hb hj hx
    generalize T.bg j = g at *
    generalize q + 2 * j = b at *
    have A := asBL (.pointer (some ⟨b, 0, none⟩)) w
    have A2 := asBB (.pointer (some ⟨b, 0, none⟩)) w
    go_enter Try.func179, Try.ntmps179
    go_wp2
    go_ret
    exact ⟨rfl, rfl⟩
  · rw [ht, hk]
    clear ht hk hb
    have A := asNL w
    have A2 := asNB w
    go_enter Try.func179, Try.ntmps179
    go_wp2
    go_ret
    exact ⟨rfl, rfl⟩

set_option maxRecDepth 100000 in
theorem hang_no (b c r : Nat) (w : World) (c0 : w.cell? ⟨b, 0, none⟩ = some (.pointer (some ⟨r, 0, none⟩))) :
    Calls Try.prog 224 #[.pointer (some ⟨b, 0, none⟩), .pointer (some ⟨c, 0, none⟩)] w (Same (.bool false) w) := by
  go_enter Try.func224, Try.ntmps224
  go_wp2
  go_ret
  exact ⟨rfl, rfl⟩
set_option maxRecDepth 100000 in
theorem hang_yes (b c : Nat) (w : World) (c0 : w.cell? ⟨b, 0, none⟩ = some (.pointer none)) (f0 : w.frozen? ⟨b, 0, none⟩ = false) :
    Calls Try.prog 224 #[.pointer (some ⟨b, 0, none⟩), .pointer (some ⟨c, 0, none⟩)] w (fun e w' => e = .returned (.bool true) ∧ w' = w.setCell ⟨b, 0, none⟩ (.pointer (some ⟨c, 0, none⟩))) := by
  go_enter Try.func224, Try.ntmps224
  go_wp2
  go_ret
  exact ⟨rfl, rfl⟩
end Go.Proofs.Ytigaoimnhebegaa.Tm

/-
  The state of a tree's parts while items are hung; what one step does to it. No program runs.
-/
namespace Go.Proofs.Ytigaoimnhebegaa.Tm
open Go.RowKit Go.Proofs.Ytigaoimnhebegaa.GfI Go.Proofs.Ytigaoimnhebegaa.GfS Go.Proofs.Ytigaoimnhebegaa.MixC
open Go.Proofs.Ytigaoimnhebegaa.It (lay chain)
open Go.Proofs.Ytigaoimnhebegaa.Sg (BxN)
set_option linter.unusedVariables false
set_option linter.unusedSimpArgs false

/-- A row of values that is read only; its block lies from lo on, below hi. -/
def Rw (w : World) (lo hi : Nat) (v : Value) (L : List Value) : Prop :=
  ∃ a cap, v = .slice a L.length cap ∧ (L = [] ∨ ∃ b off, a = some ⟨b, off, none⟩ ∧ lo ≤ b ∧ b < hi ∧ b < w.heap.size ∧ ∀ i x, L[i]? = some x → w.cell? ⟨b, off + i, none⟩ = some x)
theorem Rw.grown {w w' : World} {lo hi : Nat} {v : Value} {L : List Value} {r : Option Nat} (h : Rw w lo hi v L) (g : w.grownBy w' r) (hr : ∀ c, r = some c → c < lo ∨ hi ≤ c) : Rw w' lo hi v L := by
  obtain ⟨a, cap, hv, h⟩ := h
  refine ⟨a, cap, hv, ?_⟩
  rcases h with h | ⟨b, off, ha, h1, h2, h3, hc⟩
  · exact .inl h
  · refine .inr ⟨b, off, ha, h1, h2, Nat.lt_of_lt_of_le h3 g.size, fun i x hx => ?_⟩
    have e : w'.heap[b]? = w.heap[b]? := g.block b h3 (fun q => by rcases hr b q.symm with k | k <;> omega)
    exact (World.cell?_of_block e).trans (hc i x hx)
theorem Rw.mono {w : World} {lo hi hi' : Nat} {v : Value} {L : List Value} (h : Rw w lo hi v L) (k : hi ≤ hi') : Rw w lo hi' v L := by
  obtain ⟨a, cap, hv, h⟩ := h
  refine ⟨a, cap, hv, ?_⟩
  rcases h with h | ⟨b, off, ha, h1, h2, h3, hc⟩
  · exact .inl h
  · exact .inr ⟨b, off, ha, h1, by omega, h3, hc⟩
theorem grown_set (w : World) (p : Addr) (v : Value) : w.grownBy (w.setCell p v) (some p.block) :=
  ⟨rfl, rfl, rfl, by simp, fun c hc hne => Below.heap_setCell _ _ _ _ (fun e => hne (by rw [e]))⟩
theorem Rw.of {w : World} {lo base n : Nat} {v : Value} {L : List Value} (h : w.ownsRow base 179 1 v n L) (hn : n = L.length) (hlo : lo ≤ base) : Rw w lo w.heap.size v L := by
  have h' := h
  rcases h with ⟨hl, ⟨rfl, h0⟩ | ⟨g, cap, cur, rfl, hb, hg, hn2, hcm, hcs, htake⟩⟩
  · exact ⟨none, 0, by rw [← hn, h0], .inl (List.length_eq_zero_iff.1 (by omega))⟩
  · refine ⟨some ⟨g, 0, none⟩, cap, by rw [hn], .inr ⟨g, 0, rfl, by omega, (h'.lt g rfl).2, (h'.lt g rfl).2, fun i x hx => ?_⟩⟩
    have := h'.cells (g := g) rfl i x hx
    rwa [Addr.add_lit] at this

/-- The things of a list of numbers. -/
def things (T : TD) (p q : Nat) (l : List Int) : List Value := l.map (thg T p q T.dn T.bn)
/-- Where the parts lie: the map at mb, device i at p + 2 i, bucket j at q + 2 j; rows from q + 2 bn on. -/
structure Prt (T : TD) (I : Nat → Option Addr) (C : Nat → Nat) (N0 mb p q k i base : Nat) (U : Int → Option Nat) (S : Nat → Value) (w : World) : Prop where
  map : Pm.Fun Try.prog 2 w mb (T.dn + T.bn) (thg T p q T.dn T.bn)
  lf : ∀ i, i < T.dn → BxN w (p + 2 * i) [upv q (U (T.df i)), .int .i64 (T.df i), .int .i64 (T.dg i)]
  br : ∀ j, j < T.bn → BxN w (q + 2 * j) [upv q (U (T.bf j)), .int .i64 (T.bf j), .int .i64 (T.bg j), .slice (I j) (T.L j).length (C j), S j]
  row : ∀ j, j < k → Rw w (q + 2 * T.bn - 1) base (S j) (things T p q (T.L j))
  cur : k < T.bn → w.ownsRow base 179 1 (S k) i (things T p q ((T.L k).take i))
  new : ∀ j, k < j → j < T.bn → S j = .slice none 0 0
  m0 : N0 ≤ mb
  mp : mb < p
  pq : p + 2 * T.dn ≤ q
  qb : q + 2 * T.bn ≤ base + 1
  hs : base ≤ w.heap.size
  bs : ∀ j, j < T.bn → w.cell? ⟨p + 2 * T.dn - 1, j, none⟩ = some (.pointer (some ⟨q + 2 * j, 0, none⟩))
variable {T : TD} {I : Nat → Option Addr} {C : Nat → Nat} {N0 mb p q k i base : Nat} {U : Int → Option Nat} {S : Nat → Value} {w : World}
theorem ownsRow_set {e : TypeId} {n : Nat} {v : Value} {xs : List Value} (h : w.ownsRow base e 1 v n xs) {a : Addr} (ha : a.block < base) (u : Value) : (w.setCell a u).ownsRow base e 1 v n xs :=
  h.kept (grown_set w a u) (by
    cases q : v.ownBlock with
    | none => exact .inl rfl
    | some b => right; intro e; have := (h.lt b q).1; have : b = a.block := by simpa using e
                omega)
/-- The part that is hung is a device: its cell turns. -/
theorem Prt.hangL (h : Prt T I C N0 mb p q k i base U S w) (D : T.DevOk) (B : T.BktOk) {x : Int} {d : Nat} (hd : d < T.dn) (hx : T.df d = x) :
    Prt T I C N0 mb p q k i base (upU U x k) S (w.setCell ⟨p + 2 * d, 0, none⟩ (.pointer (some ⟨q + 2 * k, 0, none⟩))) := by
  have h1 := h.mp
  have h2 := h.pq
  have h3 := h.qb
  refine ⟨h.map.set (by dsimp only; omega) _, fun i hi => ?_, fun j hj => ?_, fun j hj => ?_, fun hk => ownsRow_set (h.cur hk) (by dsimp only; omega) _, h.new, h.m0, h1, h2, h3, by simpa using h.hs, fun j hj => (World.cell?_setCell_other _ _ _ _ (fun e => by have := congrArg Addr.block e; dsimp only at this; omega)).trans (h.bs j hj)⟩
  · by_cases e : i = d
    · subst e
      have := (h.lf i hi).put 0 (by simp) (.pointer (some ⟨q + 2 * k, 0, none⟩))
      unfold upU; rw [if_pos hx]; exact this
    · have n : T.df i ≠ x := fun e2 => by
        rcases Nat.lt_or_gt_of_ne e with k | k
        · have := D.lt k hd; omega
        · have := D.lt k hi; omega
      unfold upU; rw [if_neg n]
      exact (h.lf i hi).far (by dsimp only; omega) _
  · have n : T.bf j ≠ x := fun e2 => by have := (D.each d hd).1; have := (B.each j hj).2.1; omega
    unfold upU; rw [if_neg n]
    exact (h.br j hj).far (by dsimp only; omega) _
  · exact (h.row j hj).grown (grown_set w _ _) (fun c hc => .inl (by have e : p + 2 * d = c := (by simpa using hc); omega))
/-- .. a bucket. -/
theorem Prt.hangB (h : Prt T I C N0 mb p q k i base U S w) (D : T.DevOk) (B : T.BktOk) {x : Int} {d : Nat} (hd : d < T.bn) (hx : T.bf d = x) :
    Prt T I C N0 mb p q k i base (upU U x k) S (w.setCell ⟨q + 2 * d, 0, none⟩ (.pointer (some ⟨q + 2 * k, 0, none⟩))) := by
  have h1 := h.mp
  have h2 := h.pq
  have h3 := h.qb
  refine ⟨h.map.set (by dsimp only; omega) _, fun i hi => ?_, fun j hj => ?_, fun j hj => ?_, fun hk => ownsRow_set (h.cur hk) (by dsimp only; omega) _, h.new, h.m0, h1, h2, h3, by simpa using h.hs, fun j hj => (World.cell?_setCell_other _ _ _ _ (fun e => by have := congrArg Addr.block e; dsimp only at this; omega)).trans (h.bs j hj)⟩
  · have n : T.df i ≠ x := fun e2 => by have := (D.each i hi).1; have := (B.each d hd).2.1; omega
    unfold upU; rw [if_neg n]
    exact (h.lf i hi).far (by dsimp only; omega) _
  · by_cases e : j = d
    · subst e
      have := (h.br j hj).put 0 (by simp) (.pointer (some ⟨q + 2 * k, 0, none⟩))
      unfold upU; rw [if_pos hx]; exact this
    · have n : T.bf j ≠ x := fun e2 => by
        rcases Nat.lt_or_gt_of_ne e with k | k
        · have := B.lt k hd; omega
        · have := B.lt k hj; omega
      unfold upU; rw [if_neg n]
      exact (h.br j hj).far (by dsimp only; omega) _
  · exact (h.row j hj).grown (grown_set w _ _) (fun c hc => .inl (by have e : q + 2 * d = c := (by simpa using hc); omega))
theorem Prt.later (h : Prt T I C N0 mb p q k i base U S w) {w' : World} (b : Below w.heap.size w w') : Prt T I C N0 mb p q k i base U S w' := by
  have g : w.grownBy w' none := ⟨b.os, b.tape, b.output, b.size, fun c hc _ => b.block c hc⟩
  exact ⟨h.map.later b, fun i hi => (h.lf i hi).later b, fun j hj => (h.br j hj).later b, fun j hj => (h.row j hj).grown g (fun c hc => by cases hc), fun hk => (h.cur hk).kept g (by
    cases q : (S k).ownBlock with
    | none => exact .inl rfl
    | some b => right; simp), h.new, h.m0, h.mp, h.pq, h.qb, by have := h.hs; have := b.size; omega, fun j hj => (b.cell (p := ⟨p + 2 * T.dn - 1, j, none⟩) (by have := h.mp; have := h.pq; have := h.qb; have := h.hs; dsimp only; omega)).trans (h.bs j hj)⟩
theorem infoP : (Try.prog.info? 179).map (fun i => (i.zero, i.size, i.bytes)) = some (some .nilIface, 1, 16) := by kernel_rfl
/-- A part is appended to a row. -/
theorem wpList_append_part {w0 : World} {ops : Array Oper} {rest : List Oper} {o : Oper} {a : Act} {Q : Exit → Act → World → Prop} (hgd : o.guard = none) (s x : Operand)
    (ho : o.op = .call { callee := .builtin .append, args := #[s, x], argTypes := #[215, 215] }) (B : Nat) (v : Value) (n : Nat) (zs : List Value) (hs : a.eval s = v) (c : Value) (hc : c.oneCell' = true) (hb : w0.ownsRow B 179 1 v n zs)
    (hx : a.eval x = .slice (some ⟨w0.heap.size, 0, none⟩) 1 1) (hlen : n ≤ 1000000) (hB : B ≤ w0.heap.size)
    (h : ∀ v' w', w'.ownsRow B 179 1 v' (n + 1) (zs ++ [c]) → (w0.alloc (.cells #[c] 179)).grownBy w' v.ownBlock → wpList Try.prog ops Q rest (a.put o.dst v') w') : wpList Try.prog ops Q (o :: rest) a (w0.alloc (.cells #[c] 179)) := by
  obtain ⟨i0, hi, hz0, hz1, hz2⟩ := info_parts infoP
  exact wpList_append_own _ hgd s x 215 ho B 179 i0 .nilIface 1 16 Try.underlying215 hi hz0 hz1 hz2 rfl (by decide) v n zs hs (World.ownsRow.alloc hb _) ⟨w0.heap.size, 0, none⟩ 1 1 [c] hx rfl (cell_one_new _ _ _) (by intro u hu; simp at hu; subst hu; exact hc) (by unfold maxLen; omega) (by omega) (by simp; omega) (fun v' w' ho' hg' _ => h v' w' ho' hg')
def upS (S : Nat → Value) (k : Nat) (v : Value) : Nat → Value := fun j => if j = k then v else S j
/-- The row of the bucket at hand has grown (w1), and is stored. -/
theorem Prt.push (h : Prt T I C N0 mb p q k i base U S w) (hk : k < T.bn) (hi : i < (T.L k).length) {o : Obj} {w2 : World} {v' : Value} (g : (w.alloc o).grownBy w2 (S k).ownBlock)
    (ho : w2.ownsRow base 179 1 v' (i + 1) (things T p q ((T.L k).take i) ++ [thg T p q T.dn T.bn ((T.L k).getD i 0)])) :
    Prt T I C N0 mb p q k (i + 1) base U (upS S k v') (w2.setCell ⟨q + 2 * k, 4, none⟩ v') := by
  have h1 := h.mp
  have h2 := h.pq
  have h3 := h.qb
  have g0 := lay w o
  have R := (h.cur hk).lt
  have BX : ∀ {b : Nat} {vs : List Value}, BxN w b vs → b < base → BxN w2 b vs := fun hb hlt => (hb.later g0).grown g (fun c hc e => by have := (R c hc).1; omega)
  refine ⟨?_, fun i hi => ?_, fun j hj => ?_, fun j hj => ?_, fun hk => ?_, fun j hkj hj => ?_, h.m0, h1, h2, h3, ?_, fun j hj => ?_⟩
  · refine Pm.Fun.set ?_ (by dsimp only; omega) _
    exact (h.map.later g0).kept g (fun e => by have := (R mb e.symm).1; omega)
  · exact (BX (h.lf i hi) (by omega)).far (by dsimp only; omega) _
  · by_cases e : j = k
    · subst e
      have := (BX (h.br j hj) (by omega)).put 4 (by simp) v'
      unfold upS; rw [if_pos rfl]; exact this
    · unfold upS; rw [if_neg e]
      exact (BX (h.br j hj) (by omega)).far (by dsimp only; omega) _
  · unfold upS; rw [if_neg (by omega)]
    refine Rw.grown ?_ (grown_set w2 _ _) (fun c hc => .inl (by have e : q + 2 * k = c := (by simpa using hc); omega))
    refine Rw.grown ?_ g (fun c hc => by have := (R c hc).1; right; omega)
    exact (h.row j hj).grown (World.grownBy_alloc w o none) (fun c hc => by cases hc)
  · unfold upS; rw [if_pos rfl]
    refine ownsRow_set ?_ (by dsimp only; omega) _
    rw [take_snoc _ _ hi]
    unfold things at ho ⊢
    rw [List.map_append]
    exact ho
  · unfold upS; rw [if_neg (by omega)]; exact h.new j hkj hj
  · have := g.size; have := h.hs; simp at *; omega
  · refine (World.cell?_setCell_other _ _ _ _ (fun e => by have := congrArg Addr.block e; dsimp only at this; omega)).trans ?_
    exact g.cell ((g0.cell (p := ⟨p + 2 * T.dn - 1, j, none⟩) (by have := h.hs; dsimp only; omega)).trans (h.bs j hj)) (fun e => by have := (R _ e.symm).1; dsimp only at this; omega)
/-- All items of a bucket are hung: on to the next. -/
theorem Prt.next (h : Prt T I C N0 mb p q k (T.L k).length base U S w) (hk : k < T.bn) : Prt T I C N0 mb p q (k + 1) 0 w.heap.size U S w := by
  have h3 := h.qb
  refine ⟨h.map, h.lf, h.br, fun j hj => ?_, fun hk2 => ?_, fun j hkj hj => h.new j (by omega) hj, h.m0, h.mp, h.pq, by have := h.hs; omega, Nat.le_refl _, h.bs⟩
  · by_cases e : j = k
    · subst e
      have := h.cur hk
      rw [List.take_length] at this
      exact Rw.of this (by unfold things; rw [List.length_map]) (by omega)
    · exact (h.row j (by omega)).mono h.hs
  · rw [h.new (k + 1) (by omega) hk2]
    exact World.ownsRow_nil _ _ _ _
end Go.Proofs.Ytigaoimnhebegaa.Tm

/-
  A bucket's items are hung: the program's method on the map of the parts.
-/
namespace Go.Proofs.Ytigaoimnhebegaa.Tm
open Go.RowKit Go.Proofs.Ytigaoimnhebegaa.GfI Go.Proofs.Ytigaoimnhebegaa.GfS Go.Proofs.Ytigaoimnhebegaa.MixC
open Go.Proofs.Ytigaoimnhebegaa.It (lay chain)
open Go.Proofs.Ytigaoimnhebegaa.Sg (BxN)
open Go.Maps (Keyed)
set_option linter.unusedVariables false
set_option linter.unusedSimpArgs false

theorem keyed64 : Keyed Try.prog 2 := Maps.int_keyed Try.underlying2
theorem Prt.look {T : TD} {I : Nat → Option Addr} {C : Nat → Nat} {N0 mb p q k i base : Nat} {U : Int → Option Nat} {S : Nat → Value} {w : World} (h : Prt T I C N0 mb p q k i base U S w) (x : Int) (hx : (Lit.int .i64 x).wf = true) (n : Nat) :
    (Instr.lookup 95 (.map (some mb)) (.int .i64 x) false).run Try.prog (w.drewN n) = .ok (thg T p q T.dn T.bn x) (w.drewN n) :=
  (h.map.later (below_drewN (Below.refl _ _) n)).look keyed64 Try.underlying95 Try.underlying2 (by kernel_rfl) x hx
/-- What hanging a bucket's items answers, and leaves behind. -/
def Hung (T : TD) (I : Nat → Option Addr) (C : Nat → Nat) (w0 : World) (mb p q k : Nat) (e : Ending) (w' : World) : Prop :=
  ∃ b, e = .returned (.bool b) ∧ Below w0.heap.size w0 w' ∧ (b = false → ¬ T.Ok) ∧ (b = true → T.Fit1 k ∧ ∃ U' S', Up T (k + 1) 0 U' ∧ Prt T I C w0.heap.size mb p q (k + 1) 0 w'.heap.size U' S' w')
def FitK (T : TD) (k n : Nat) : Prop := ∀ i x, i < n → (T.L k)[i]? = some x → mayBe (T.bg k) (T.kd x) (T.kd ((T.L k).getD 0 0))

theorem hangML (d f : Nat) (w : World) : (method (f + 10) 208 (.pointer (some ⟨d, 0, none⟩)) "loop.example/g00849/impl.hang").run Try.prog w = .ok (224, .pointer (some ⟨d, 0, none⟩)) w := by kernel_rfl
theorem hangMB (d f : Nat) (w : World) : (method (f + 10) 209 (.pointer (some ⟨d, 0, none⟩)) "loop.example/g00849/impl.hang").run Try.prog w = .ok (224, .pointer (some ⟨d, 0, none⟩)) w := by kernel_rfl
theorem Same.run {P : Program} {f : FuncId} {args : Array Value} {v : Value} {w : World} (h : Calls P f args w (Same v w)) (Q : Ending → World → Prop) (hq : Q (.returned v) w) : Calls P f args w Q := h.mono (by rintro e w' ⟨rfl, rfl⟩; exact hq)
theorem row_shape {w : World} {base : Nat} {e : TypeId} {size n : Nat} {v : Value} {xs : List Value} (h : w.ownsRow base e size v n xs) : ∃ a L c, v = .slice a L c := by
  rcases h with ⟨_, ⟨rfl, _⟩ | ⟨g, cap, cur, rfl, _⟩⟩
  · exact ⟨_, _, _, rfl⟩
  · exact ⟨_, _, _, rfl⟩
theorem quiet_again {P : Program} {f : FuncId} {args : Array Value} {v : Value} {w : World} {a b : Nat} (h : Calls P f args (w.drewN (a + b)) (Same v (w.drewN (a + b)))) :
    Calls P f args (w.drewN (a + b)) fun e w'' => e = .returned v ∧ ∃ n, w'' = w.drewN (a + n) := h.mono fun _ _ q => ⟨q.1, b, q.2.symm⟩
set_option maxRecDepth 100000 in
set_option maxHeartbeats 4000000 in
theorem hangItems (T : TD) (I : Nat → Option Addr) (C : Nat → Nat) (w0 w : World) (mb p q k base : Nat) (U : Int → Option Nat) (S : Nat → Value) (hw : Below w0.heap.size w0 w) (D : T.DevOk) (B : T.BktOk) (hk : k < T.bn)
    (WF : ∀ x, x ∈ T.L k → (Lit.int .i64 x).wf = true) (HI : Words w0 (I k) (T.L k)) (HU : Up T k 0 U) (HP : Prt T I C w0.heap.size mb p q k 0 base U S w) :
    Calls Try.prog 177 #[.map (some mb), .pointer (some ⟨q + 2 * k, 0, none⟩)] w (Hung T I C w0 mb p q k) := by
  obtain ⟨n, hn⟩ : ∃ n, n = (T.L k).length := ⟨_, rfl⟩
  have HN := Lib.hid hn
  have h8 : n ≤ 8 := by rw [hn]; exact (B.each k hk).2.2.2.2
  have PH := Lib.hid HP
  have UH := Lib.hid HU
  have WH := Lib.hid hw
  have BX := Lib.hid (HP.br k hk)
  have c3 := (HP.br k hk).cells 3 _ rfl
  rw [← hn] at c3
  clear hn HP HU hw
  go_enter Try.func177, Try.ntmps177
  go_wp2
  go_loopw [15] (fun i wr => ∃ (m : Nat) (U : Int → Option Nat) (S : Nat → Value), m ≤ n ∧ i = .int .i64 m ∧ FitK T k m ∧ Up T k m U ∧ Prt T I C w0.heap.size mb p q k m base U S wr ∧ Below w0.heap.size w0 wr) (fun i _ => n - (intOf i).toNat)
  case atStart => exact ⟨0, U, S, by omega, rfl, fun i x hi => by omega, UH.out, PH.out, WH.out⟩
  case round =>
    clear PH UH WH BX
    obtain ⟨m, U, S, hm, rfl, F, HU, HP, hw⟩ := hrel
    by_cases hlt : m < n
    · have hlen : m < (T.L k).length := by rw [← HN.out]; exact hlt
      have hlen0 : 0 < (T.L k).length := by omega
      have hw1 := HI.below hw
      obtain ⟨b, off, eI, hB, nums⟩ := hw1.resolve_left (by intro e; rw [e] at hlen; simp at hlen)
      have d1 := nums m hlen
      have d0 := nums 0 hlen0
      rw [Nat.add_zero] at d0
      have n0 : 0 < n := by omega
      have c2 := (HP.br k hk).cells 2 _ rfl
      have c3 := (HP.br k hk).cells 3 _ rfl
      have c4 := (HP.br k hk).cells 4 _ rfl
      rw [eI, ← HN.out] at c3
      rw [eI]
      have X1 := HP.look _ (WF _ (getD_mem hlen))
      have X0 := HP.look _ (WF _ (getD_mem hlen0))
      have G13 : 1 ≤ T.bg k ∧ T.bg k ≤ 3 := ⟨(B.each k hk).2.2.1, (B.each k hk).2.2.2.1⟩
      have KX := Lib.hid (fun w' (b : Below wr.heap.size wr w') => kindOf T p q ((T.L k).getD m 0) w' (fun j hj => ((HP.br j hj).later b).cells 2 _ rfl))
      have KY := Lib.hid (fun w' (b : Below wr.heap.size wr w') => kindOf T p q ((T.L k).getD 0 0) w' (fun j hj => ((HP.br j hj).later b).cells 2 _ rfl))
      have MH := fun w' => mayHold (T.bg k) (T.kd ((T.L k).getD m 0)) G13.1 G13.2 w'
      have hx : (T.L k)[m]? = some ((T.L k).getD m 0) := by rw [List.getD_eq_getElem?_getD, List.getElem?_eq_getElem hlen]; rfl
      have NOF := Lib.hid (show ¬ mayBe (T.bg k) (T.kd ((T.L k).getD m 0)) (T.kd ((T.L k).getD 0 0)) → ¬ T.Ok from fun h d => h (d.fit k hk m _ hx))
      have YES := Lib.hid (show mayBe (T.bg k) (T.kd ((T.L k).getD m 0)) (T.kd ((T.L k).getD 0 0)) → FitK T k (m + 1) from fun h i z hi hz => by
        by_cases e : i = m
        · subst e; rw [hx] at hz; obtain rfl := Option.some.inj hz; exact h
        · exact F i z (by omega) hz)
      have NOO := Lib.hid (show U ((T.L k).getD m 0) ≠ none → ¬ T.Ok from fun h d => HU.bad hk hlen h d.once)
      have UPS := Lib.hid (HU.step hk hlen)
      have PUSH := Lib.hid (fun (U' : Int → Option Nat) w' (H : Prt T I C w0.heap.size mb p q k m base U' S w') o w2 v' => H.push (o := o) (w2 := w2) (v' := v') hk hlen)
      have TC := thg_cases (T := T) p q ((T.L k).getD m 0)
      have PH := Lib.hid HP
      have WH := Lib.hid hw
      have DH := Lib.hid D
      have BH := Lib.hid B
      clear hw1 nums eI HU HP hw F
      generalize thg T p q T.dn T.bn ((T.L k).getD m 0) = vx at *
      generalize thg T p q T.dn T.bn ((T.L k).getD 0 0) = vy at *
      generalize T.kd ((T.L k).getD m 0) = kx at *
      generalize T.kd ((T.L k).getD 0 0) = ky at *
      generalize T.bg k = g at *
      generalize (T.L k).getD m 0 = x at *
      generalize (T.L k).getD 0 0 = y at *
      have QX := Lib.hid (fun a b => quiet_again (KX.out (wr.drewN (a + b)) (below_drewN (Below.refl _ _) _)))
      have QY := Lib.hid (fun a b => quiet_again (KY.out (wr.drewN (a + b)) (below_drewN (Below.refl _ _) _)))
      have QM := fun a b => quiet_again (MH (wr.drewN (a + b)))
      cases HB : holdB g kx
      · rw [HB] at QM
        have QM := Lib.hid QM
        have G := Lib.hid (NOF.out (fun h => by have := of_decide_eq_false HB; exact this h.1))
        clear HB TC MH KX KY
        go_wp2
        go_quiet (fail)
        go_wp2
        go_quiet (first
          | (go_at_call 179; with_reducible exact QX.out _ _)
          | (go_at_call 196; with_reducible exact QM.out _ _))
        go_wp2
        go_ret
        exact ⟨false, rfl, WH.out.trans (below_drewN (below_drewN (Below.refl _ _) _) _), fun _ => G.out, fun e => by cases e⟩
      · rw [HB] at QM MH
        have QM := Lib.hid QM
        have MH := Lib.hid MH
        by_cases hxy : kx = ky
        · have hne : (kx != ky) = false := by simpa using hxy
          have GY := Lib.hid (YES.out ⟨of_decide_eq_true HB, hxy⟩)
          have HPB : Hid (∃ t d, vx = .iface t (.pointer (some ⟨d, 0, none⟩)) ∧ (t = 208 ∨ t = 209) ∧ wr.cell? ⟨d, 0, none⟩ = some (upv q (U x)) ∧ wr.frozen? ⟨d, 0, none⟩ = false ∧ d < wr.heap.size ∧ w0.heap.size ≤ d ∧
              ∀ w', Prt T I C w0.heap.size mb p q k m base U S w' → Prt T I C w0.heap.size mb p q k m base (upU U x k) S (w'.setCell ⟨d, 0, none⟩ (.pointer (some ⟨q + 2 * k, 0, none⟩)))) := by
            show ∃ t d, _
            rcases TC with ⟨d, hd, hdx, hkx, hvx⟩ | ⟨d, hd, hdx, hkx, hvx⟩ | ⟨hkx, hvx⟩
            · have X := PH.out.lf d hd
              have := X.cells 0 _ rfl
              rw [hdx] at this
              exact ⟨_, _, hvx, .inl rfl, this, X.free 0, X.lt, by have := PH.out.m0; have := PH.out.mp; omega, fun w' h => h.hangL DH.out BH.out hd hdx⟩
            · have X := PH.out.br d hd
              have := X.cells 0 _ rfl
              rw [hdx] at this
              exact ⟨_, _, hvx, .inr rfl, this, X.free 0, X.lt, by have := PH.out.m0; have := PH.out.mp; have := PH.out.pq; omega, fun w' h => h.hangB DH.out BH.out hd hdx⟩
            · exfalso; rw [hkx] at HB; have := of_decide_eq_true HB; omega
          clear HB TC NOF YES hxy hx
          obtain ⟨t, d, rfl, ht, hc, hf, hlt, hN0, hP⟩ := HPB.out
          have HP := Lib.hid hP
          have HLT := Lib.hid hlt
          clear hP hlt
          cases hU : U x with
          | some r =>
            rw [hU] at hc
            have G := Lib.hid (NOO.out (by rw [hU]; simp))
            have QH := Lib.hid (fun a b => quiet_again (hang_no d (q + 2 * k) (q + 2 * r) (wr.drewN (a + b)) (((below_drewN (Below.refl _ _) _).cell (p := ⟨d, 0, none⟩) HLT.out).trans hc)))
            clear hc hf HP KX KY MH
            rcases ht with rfl | rfl
            · have M := hangML d
              go_wp2
              go_quiet (fail)
              go_wp2
              go_quiet (first
                | (go_at_call 179; with_reducible exact QX.out _ _)
                | (go_at_call 179; with_reducible exact QY.out _ _)
                | (go_at_call 196; with_reducible exact QM.out _ _)
                | (go_at_call 224; with_reducible exact QH.out _ _))
              go_wp2
              go_ret
              exact ⟨false, rfl, WH.out.trans (below_drewN (below_drewN (Below.refl _ _) _) _), fun _ => G.out, fun e => by cases e⟩
            · have M := hangMB d
              go_wp2
              go_quiet (fail)
              go_wp2
              go_quiet (first
                | (go_at_call 179; with_reducible exact QX.out _ _)
                | (go_at_call 179; with_reducible exact QY.out _ _)
                | (go_at_call 196; with_reducible exact QM.out _ _)
                | (go_at_call 224; with_reducible exact QH.out _ _))
              go_wp2
              go_ret
              exact ⟨false, rfl, WH.out.trans (below_drewN (below_drewN (Below.refl _ _) _) _), fun _ => G.out, fun e => by cases e⟩
          | none =>
            rw [hU] at hc
            have HY := Lib.hid (fun w' (b : Below wr.heap.size wr w') => hang_yes d (q + 2 * k) w' ((b.cell (p := ⟨d, 0, none⟩) HLT.out).trans hc) ((b.frozen (p := ⟨d, 0, none⟩) HLT.out).trans hf))
            have UX := Lib.hid (UPS.out hU)
            have S2 : ∀ a v, ((wr.drewN a).setCell ⟨d, 0, none⟩ v).cell? ⟨q + 2 * k, 2, none⟩ = some (.int .i64 g) := fun a v => (World.cell?_setCell_other _ _ _ _ (by simp)).trans c2
            have RX := Lib.hid (fun a Q hq => Same.run (KX.out (wr.drewN a) (below_drewN (Below.refl _ _) _)) Q hq)
            have RY := Lib.hid (fun a Q hq => Same.run (KY.out (wr.drewN a) (below_drewN (Below.refl _ _) _)) Q hq)
            have RM := Lib.hid (fun w' Q hq => Same.run (MH.out w') Q hq)
            clear hc hf NOO UPS QX QY QM KX KY MH
            rcases ht with rfl | rfl
            · have M := hangML d
              go_wp2
              go_quiet (fail)
              go_wp2
              go_region_held3 (fun w' => w'.cell? ⟨q + 2 * k, 2, none⟩ = some (.int .i64 g)) (go_keep)
                (first
                  | (go_at_call 179; with_reducible refine RX.out _ _ ?_)
                  | (go_at_call 179; with_reducible refine RY.out _ _ ?_)
                  | (go_at_call 196; with_reducible refine RM.out _ _ ?_)
                  | (go_at_call 224; refine (HY.out _ (below_drewN (Below.refl _ _) _)).mono ?_; rintro e w2 ⟨rfl, rfl⟩))
              clear RX RY RM HY S2 M X1 X0
              have P2 := Lib.hid (HP.out _ (PH.out.later (below_drewN (Below.refl _ _) (nq + 1))))
              have B2 := Lib.hid ((WH.out.trans (below_drewN (Below.refl _ _) (nq + 1))).setCell (p := ⟨d, 0, none⟩) hN0 (.pointer (some ⟨q + 2 * k, 0, none⟩)))
              generalize (wr.drewN (nq + 1)).setCell ⟨d, 0, none⟩ (.pointer (some ⟨q + 2 * k, 0, none⟩)) = w4 at *
              have BX4 := Lib.hid (P2.out.br k hk)
              have e4 := BX4.out.cells 4 _ rfl
              have CU := Lib.hid (P2.out.cur hk)
              have SZ := P2.out.hs
              have QB := P2.out.qb
              have N0B : w0.heap.size ≤ base := by have := P2.out.m0; have := P2.out.mp; have := P2.out.pq; omega
              clear HP HLT hN0 c2 c3 c4 d1 d0 PH WH
              go_wp2_with (at_builtin; refine wpList_append_part rfl (.tmp 57) (.tmp 59) rfl base (S k) m (things T p q ((T.L k).take m)) rfl _ rfl CU.out rfl (by omega) SZ ?_; intro v' w5 ho hg; obtain ⟨va, vl, vc, rfl⟩ := row_shape ho; have X5 := (BX4.out.later (lay _ _)).grown hg (fun c hc e => by have := (CU.out.lt c hc).1; omega); have f4 := X5.cells 4 _ rfl; have g4 := X5.free 4)
              have B5 := Lib.hid (((B2.out.alloc (by omega) _).grown hg (by rw [World.size_alloc]; omega) (fun c hc => by have := (CU.out.lt c hc).1; omega)).setCell (p := ⟨q + 2 * k, 4, none⟩) (by have := P2.out.m0; have := P2.out.mp; have := P2.out.pq; dsimp only; omega) (.slice va vl vc))
              have P5 := Lib.hid (PUSH.out _ _ P2.out _ _ _ hg ho)
              clear X5 hg ho PUSH P2 B2 BX4 CU
              go_roundw
              case rel => exact ⟨m + 1, _, _, by omega, by go_num, GY.out, UX.out, P5.out, B5.out⟩
              case measure => simp [intOf]; omega
            · have M := hangMB d
              go_wp2
              go_quiet (fail)
              go_wp2
              go_region_held3 (fun w' => w'.cell? ⟨q + 2 * k, 2, none⟩ = some (.int .i64 g)) (go_keep)
                (first
                  | (go_at_call 179; with_reducible refine RX.out _ _ ?_)
                  | (go_at_call 179; with_reducible refine RY.out _ _ ?_)
                  | (go_at_call 196; with_reducible refine RM.out _ _ ?_)
                  | (go_at_call 224; refine (HY.out _ (below_drewN (Below.refl _ _) _)).mono ?_; rintro e w2 ⟨rfl, rfl⟩))
              clear RX RY RM HY S2 M X1 X0
              have P2 := Lib.hid (HP.out _ (PH.out.later (below_drewN (Below.refl _ _) (nq + 1))))
              have B2 := Lib.hid ((WH.out.trans (below_drewN (Below.refl _ _) (nq + 1))).setCell (p := ⟨d, 0, none⟩) hN0 (.pointer (some ⟨q + 2 * k, 0, none⟩)))
              generalize (wr.drewN (nq + 1)).setCell ⟨d, 0, none⟩ (.pointer (some ⟨q + 2 * k, 0, none⟩)) = w4 at *
              have BX4 := Lib.hid (P2.out.br k hk)
              have e4 := BX4.out.cells 4 _ rfl
              have CU := Lib.hid (P2.out.cur hk)
              have SZ := P2.out.hs
              have QB := P2.out.qb
              have N0B : w0.heap.size ≤ base := by have := P2.out.m0; have := P2.out.mp; have := P2.out.pq; omega
              clear HP HLT hN0 c2 c3 c4 d1 d0 PH WH
              go_wp2_with (at_builtin; refine wpList_append_part rfl (.tmp 57) (.tmp 59) rfl base (S k) m (things T p q ((T.L k).take m)) rfl _ rfl CU.out rfl (by omega) SZ ?_; intro v' w5 ho hg; obtain ⟨va, vl, vc, rfl⟩ := row_shape ho; have X5 := (BX4.out.later (lay _ _)).grown hg (fun c hc e => by have := (CU.out.lt c hc).1; omega); have f4 := X5.cells 4 _ rfl; have g4 := X5.free 4)
              have B5 := Lib.hid (((B2.out.alloc (by omega) _).grown hg (by rw [World.size_alloc]; omega) (fun c hc => by have := (CU.out.lt c hc).1; omega)).setCell (p := ⟨q + 2 * k, 4, none⟩) (by have := P2.out.m0; have := P2.out.mp; have := P2.out.pq; dsimp only; omega) (.slice va vl vc))
              have P5 := Lib.hid (PUSH.out _ _ P2.out _ _ _ hg ho)
              clear X5 hg ho PUSH P2 B2 BX4 CU
              go_roundw
              case rel => exact ⟨m + 1, _, _, by omega, by go_num, GY.out, UX.out, P5.out, B5.out⟩
              case measure => simp [intOf]; omega
        · have G := Lib.hid (NOF.out (fun h => hxy h.2))
          have hne : (kx != ky) = true := by simpa using hxy
          clear HB TC MH KX KY hxy
          go_wp2
          go_quiet (fail)
          go_wp2
          go_quiet (first
            | (go_at_call 179; with_reducible exact QX.out _ _)
            | (go_at_call 179; with_reducible exact QY.out _ _)
            | (go_at_call 196; with_reducible exact QM.out _ _))
          go_wp2
          go_ret
          exact ⟨false, rfl, WH.out.trans (below_drewN (below_drewN (Below.refl _ _) _) _), fun _ => G.out, fun e => by cases e⟩
    · obtain rfl : m = n := by omega
      rw [HN.out] at HU HP F
      have G := Lib.hid (show T.Fit1 k ∧ ∃ U' S', Up T (k + 1) 0 U' ∧ Prt T I C w0.heap.size mb p q (k + 1) 0 wr.heap.size U' S' wr from ⟨fun i x hx => F i x (getD_of hx).1 hx, U, S, HU.next, HP.next hk⟩)
      have WH := Lib.hid hw
      clear HU HP F hw
      go_wp2
      go_ret
      exact ⟨true, rfl, WH.out, (fun e => by cases e), fun _ => G.out⟩
end Go.Proofs.Ytigaoimnhebegaa.Tm

/-
  The parts of a tree are made: first the devices' boxes, then the buckets'. No program runs.
-/
namespace Go.Proofs.Ytigaoimnhebegaa.Tm
open Go.RowKit Go.Proofs.Ytigaoimnhebegaa.GfI Go.Proofs.Ytigaoimnhebegaa.GfS Go.Proofs.Ytigaoimnhebegaa.MixC
open Go.Proofs.Ytigaoimnhebegaa.It (lay chain)
open Go.Proofs.Ytigaoimnhebegaa.Sg (BxN)
set_option linter.unusedVariables false
set_option linter.unusedSimpArgs false

/-- The first i devices have their boxes. -/
structure Ph1 (T : TD) (w0 : World) (mb p i : Nat) (vs : List Value) (wr : World) : Prop where
  map : Pm.Fun Try.prog 2 wr mb i (thg T p 0 i 0)
  lf : ∀ j, j < i → BxN wr (p + 2 * j) [.pointer none, .int .i64 (T.df j), .int .i64 (T.dg j)]
  hs : wr.heap.size + 1 = p + 2 * i
  mp : mb + 2 = p
  m0 : w0.heap.size < mb
  box : BxN wr w0.heap.size vs
  below : Below w0.heap.size w0 wr
theorem thg_zero (T : TD) (p q q' d : Nat) : thg T p q d 0 = thg T p q' d 0 := by
  funext x; unfold thg; cases ix T.df x d <;> rfl
theorem Ph1.start {T : TD} {w0 w2 : World} {vs : List Value} (b : BxN w2 w0.heap.size vs) (h : Below w0.heap.size w0 w2) : Ph1 T w0 w2.heap.size (w2.heap.size + 2) 0 vs (w2.alloc (.map #[] 0)) := by
  refine ⟨?_, fun j hj => by omega, by simp, rfl, b.lt, b.later (lay _ _), h.trans ((lay _ _).mono h.size)⟩
  have := Pm.Fun.made Try.prog 2 w2
  exact this
theorem Ph1.step {T : TD} {w0 : World} {mb p i : Nat} {vs : List Value} {wr : World} (h : Ph1 T w0 mb p i vs wr) (D : T.DevOk) (hi : i < T.dn) {o1 : Obj} {E : TypeId} {w3 : World}
    (F3 : Pm.Fun Try.prog 2 w3 mb (i + 1) (Pm.upd (thg T p 0 i 0) (T.df i) (.iface 208 (.pointer (some ⟨wr.heap.size + 1, 0, none⟩)))))
    (g3 : ((wr.alloc o1).alloc (.cells #[.pointer none, .int .i64 (T.df i), .int .i64 (T.dg i)] E)).grownBy w3 (some mb)) (s3 : w3.heap.size = ((wr.alloc o1).alloc (.cells #[.pointer none, .int .i64 (T.df i), .int .i64 (T.dg i)] E)).heap.size) :
    Ph1 T w0 mb p (i + 1) vs w3 := by
  have e := h.hs
  have mp := h.mp
  have m0 := h.m0
  have NEW := BxN.new (wr.alloc o1) #[.pointer none, .int .i64 (T.df i), .int .i64 (T.dg i)] E
  have G : ∀ {b : Nat} {vs : List Value}, BxN wr b vs → b ≠ mb → BxN w3 b vs := fun hb hne => ((hb.later (lay _ o1)).later (lay _ _)).grown g3 (fun c hc e => hne (by rw [e]; exact (Option.some.inj hc).symm))
  have e1 : wr.heap.size + 1 = p + 2 * i := e
  rw [e1, thg_dev D p 0 hi] at F3
  refine ⟨F3, fun j hj => ?_, ?_, mp, m0, G h.box (by omega), ?_⟩
  · by_cases q : j = i
    · subst q
      have := NEW.grown g3 (fun c hc e2 => by have e3 : mb = c := Option.some.inj hc; rw [World.size_alloc] at e2; omega)
      rw [World.size_alloc, e1] at this
      exact this
    · exact G (h.lf j (by omega)) (by omega)
  · rw [s3, World.size_alloc, World.size_alloc]; omega
  · have hsz := h.below.size
    exact ((h.below.alloc hsz o1).alloc (by rw [World.size_alloc]; omega) _).grown g3 (by rw [World.size_alloc, World.size_alloc]; omega) (fun c hc => by have e3 : mb = c := Option.some.inj hc; omega)

/-- The first j buckets have their boxes; sb lists them. -/
structure Ph2 (T : TD) (I : Nat → Option Addr) (C : Nat → Nat) (w0 : World) (mb p q sb j : Nat) (vs : List Value) (wr : World) : Prop where
  map : Pm.Fun Try.prog 2 wr mb (T.dn + j) (thg T p q T.dn j)
  lf : ∀ i, i < T.dn → BxN wr (p + 2 * i) [.pointer none, .int .i64 (T.df i), .int .i64 (T.dg i)]
  br : ∀ i, i < j → BxN wr (q + 2 * i) [.pointer none, .int .i64 (T.bf i), .int .i64 (T.bg i), .slice (I i) (T.L i).length (C i), .slice none 0 0]
  bs : ∀ i, i < j → wr.cell? ⟨sb, i, none⟩ = some (.pointer (some ⟨q + 2 * i, 0, none⟩))
  bt : ∀ i, i < T.bn → ∃ u, wr.cell? ⟨sb, i, none⟩ = some u
  bz : ∀ i, wr.frozen? ⟨sb, i, none⟩ = false
  hs : wr.heap.size + 1 = q + 2 * j
  pq : sb + 2 ≤ q
  sp : sb + 1 = p + 2 * T.dn
  mp : mb + 2 = p
  m0 : w0.heap.size < mb
  box : BxN wr w0.heap.size vs
  below : Below w0.heap.size w0 wr
theorem Ph2.start {T : TD} {I : Nat → Option Addr} {C : Nat → Nat} {w0 : World} {mb p : Nat} {vs : List Value} {wr w1 : World} {E : TypeId} {xs : List Value} (h : Ph1 T w0 mb p T.dn vs wr)
    (ho : w1.ownsRow wr.heap.size E 1 (.slice (some ⟨wr.heap.size, 0, none⟩) T.bn T.bn) T.bn xs) (g : wr.grownBy w1 none) : Ph2 T I C w0 mb p (w1.heap.size + 1) wr.heap.size 0 vs w1 := by
  have e := h.hs
  have mp := h.mp
  have lt := (ho.lt wr.heap.size rfl).2
  have G : ∀ {b : Nat} {vs : List Value}, BxN wr b vs → BxN w1 b vs := fun hb => hb.grown g (fun c hc => by cases hc)
  have hl := ho.1
  refine ⟨?_, fun i hi => G (h.lf i hi), fun i hi => by omega, fun i hi => by omega, fun i hi => ⟨xs[i]'(by omega), (ho.cellAt i (by omega)).trans (List.getElem?_eq_getElem (by omega))⟩, fun i => ho.frozenAt i, by omega, by omega, by omega, mp, h.m0, G h.box, h.below.grown g h.below.size (fun c hc => by cases hc)⟩
  rw [thg_zero T p _ 0]
  exact h.map.kept g (fun e => by cases e)
theorem Ph2.step {T : TD} {I : Nat → Option Addr} {C : Nat → Nat} {w0 : World} {mb p q sb j : Nat} {vs : List Value} {wr W2 w3 : World} (h : Ph2 T I C w0 mb p q sb j vs wr) (D : T.DevOk) (B : T.BktOk) (hj : j < T.bn) {o1 : Obj} {E : TypeId}
    (hW : W2 = ((wr.setCell ⟨sb, j, none⟩ (.pointer (some ⟨wr.heap.size + 1, 0, none⟩))).alloc o1).alloc (.cells #[.pointer none, .int .i64 (T.bf j), .int .i64 (T.bg j), .slice (I j) (T.L j).length (C j), .slice none 0 0] E))
    (F3 : Pm.Fun Try.prog 2 w3 mb (T.dn + j + 1) (Pm.upd (thg T p q T.dn j) (T.bf j) (.iface 209 (.pointer (some ⟨wr.heap.size + 1, 0, none⟩)))))
    (g3 : W2.drew.grownBy w3 (some mb)) (s3 : w3.heap.size = W2.drew.heap.size) :
    Ph2 T I C w0 mb p q sb (j + 1) vs w3 := by
  have e := h.hs
  have mp := h.mp
  have m0 := h.m0
  have sp := h.sp
  have pq := h.pq
  have hsb : sb < wr.heap.size := by omega
  obtain ⟨Ws, hWs⟩ : ∃ Ws, Ws = wr.setCell ⟨sb, j, none⟩ (.pointer (some ⟨wr.heap.size + 1, 0, none⟩)) := ⟨_, rfl⟩
  have zs : Ws.heap.size = wr.heap.size := by rw [hWs]; simp
  have FAR : ∀ {b : Nat} {vs : List Value}, BxN wr b vs → b ≠ sb → BxN Ws b vs := fun hb h1 => by rw [hWs]; exact hb.far (p := ⟨sb, j, none⟩) (fun e => h1 e.symm) _
  have CS : ∀ {i u}, i ≠ j → wr.cell? ⟨sb, i, none⟩ = some u → Ws.cell? ⟨sb, i, none⟩ = some u := fun {i u} hi hu => by rw [hWs]; exact (World.cell?_setCell_other _ _ _ _ (fun e => hi (congrArg Addr.off e).symm)).trans hu
  have CSJ : Ws.cell? ⟨sb, j, none⟩ = some (.pointer (some ⟨q + 2 * j, 0, none⟩)) := by
    obtain ⟨u, hu⟩ := h.bt j hj
    rw [← e, hWs]; exact World.cell?_setCell_same _ _ _ hu
  have ZS : ∀ i, Ws.frozen? ⟨sb, i, none⟩ = false := fun i => by rw [hWs]; exact (World.frozen?_setCell _ _ _ _).trans (h.bz i)
  have BS : Below w0.heap.size w0 Ws := by rw [hWs]; exact h.below.setCell (p := ⟨sb, j, none⟩) (by dsimp only; omega) _
  rw [← hWs] at hW
  clear hWs
  have NEW := BxN.new (Ws.alloc o1) #[.pointer none, .int .i64 (T.bf j), .int .i64 (T.bg j), .slice (I j) (T.L j).length (C j), .slice none 0 0] E
  have b0 : Below Ws.heap.size Ws ((Ws.alloc o1).alloc (.cells #[.pointer none, .int .i64 (T.bf j), .int .i64 (T.bg j), .slice (I j) (T.L j).length (C j), .slice none 0 0] E)) := (lay _ o1).trans ((lay _ _).mono (by rw [World.size_alloc]; omega))
  have z0 : ((Ws.alloc o1).alloc (.cells #[.pointer none, .int .i64 (T.bf j), .int .i64 (T.bg j), .slice (I j) (T.L j).length (C j), .slice none 0 0] E)).heap.size = wr.heap.size + 2 := by rw [World.size_alloc, World.size_alloc, zs]
  rw [World.size_alloc, zs, e] at NEW
  rw [← hW] at NEW b0 z0
  have z2 : W2.drew.heap.size = wr.heap.size + 2 := z0
  have GW : ∀ {b : Nat} {vs : List Value}, BxN W2 b vs → b ≠ mb → BxN w3 b vs := fun {b vs} hb h2 => hb.drew.grown g3 (fun c hc e => h2 (by rw [e]; exact (Option.some.inj hc).symm))
  have G : ∀ {b : Nat} {vs : List Value}, BxN wr b vs → b ≠ sb → b ≠ mb → BxN w3 b vs := fun hb h1 h2 => GW ((FAR hb h1).later b0) h2
  rw [e, thg_bkt D B p q hj] at F3
  have C3 : ∀ {i u}, Ws.cell? ⟨sb, i, none⟩ = some u → w3.cell? ⟨sb, i, none⟩ = some u := fun {i u} hu => g3.cell (a := ⟨sb, i, none⟩) (show W2.drew.cell? _ = _ from (b0.cell (p := ⟨sb, i, none⟩) (by dsimp only; omega)).trans hu) (fun e => by have e2 := Option.some.inj e; dsimp only at e2; omega)
  have CB : ∀ {i u}, i ≠ j → wr.cell? ⟨sb, i, none⟩ = some u → w3.cell? ⟨sb, i, none⟩ = some u := fun {i u} hi hu => C3 (CS hi hu)
  have CJ : w3.cell? ⟨sb, j, none⟩ = some (.pointer (some ⟨q + 2 * j, 0, none⟩)) := C3 CSJ
  have hsz := h.below.size
  have hsb2 : sb < W2.drew.heap.size := by omega
  refine ⟨F3, fun i hi => G (h.lf i hi) (by omega) (by omega), fun i hi => ?_, fun i hi => ?_, fun i hi => ?_, fun i => ?_, by omega, pq, sp, mp, m0, G h.box (by omega) (by omega), ?_⟩
  · by_cases q : i = j
    · subst q
      exact GW NEW (by omega)
    · exact G (h.br i (by omega)) (by omega) (by omega)
  · by_cases q : i = j
    · subst q; exact CJ
    · exact CB q (h.bs i (by omega))
  · by_cases q : i = j
    · subst q; exact ⟨_, CJ⟩
    · obtain ⟨u, hu⟩ := h.bt i hi
      exact ⟨u, CB q hu⟩
  · have b3 := g3.block sb hsb2 (fun e => by have e2 := Option.some.inj e; omega)
    refine (World.frozen?_of_block (a := ⟨sb, i, none⟩) b3).trans ?_
    show W2.frozen? _ = false
    exact (b0.frozen (p := ⟨sb, i, none⟩) (by dsimp only; omega)).trans (ZS i)
  · exact (BS.trans (b0.mono (by omega))).drew.grown g3 (by omega) (fun c hc => by have e3 : mb = c := Option.some.inj hc; omega)
/-- All boxes are there: nothing hangs yet. -/
theorem Ph2.parts {T : TD} {I : Nat → Option Addr} {C : Nat → Nat} {w0 : World} {mb p q sb : Nat} {vs : List Value} {wr : World} (h : Ph2 T I C w0 mb p q sb T.bn vs wr) :
    Prt T I C w0.heap.size mb p q 0 0 wr.heap.size (fun _ => none) (fun _ => .slice none 0 0) wr := by
  have e := h.hs
  have mp := h.mp
  have m0 := h.m0
  have sp := h.sp
  have pq := h.pq
  refine ⟨h.map, fun i hi => h.lf i hi, fun j hj => h.br j hj, fun j hj => by omega, fun _ => World.ownsRow_nil _ _ _ _, fun _ _ _ => rfl, by omega, by omega, by omega, by omega, Nat.le_refl _, fun j hj => ?_⟩
  rw [show p + 2 * T.dn - 1 = sb from by omega]; exact h.bs j hj
end Go.Proofs.Ytigaoimnhebegaa.Tm

/-
  The parts of a tree, and whether it is valid: the program's function.
-/
namespace Go.Proofs.Ytigaoimnhebegaa.Tm
open Go.RowKit Go.Proofs.Ytigaoimnhebegaa.GfI Go.Proofs.Ytigaoimnhebegaa.GfS Go.Proofs.Ytigaoimnhebegaa.MixC
open Go.Proofs.Ytigaoimnhebegaa.It (lay chain)
open Go.Proofs.Ytigaoimnhebegaa.Rc (Recs)
open Go.Proofs.Ytigaoimnhebegaa.Bk (Bks tval bval)
open Go.Proofs.Ytigaoimnhebegaa.Sg (BxN)
set_option linter.unusedVariables false
set_option linter.unusedSimpArgs false

/-- The parts of a valid tree; nothing of another. -/
def PartsB (T : TD) (I : Nat → Option Addr) (C : Nat → Nat) (w0 : World) (e : Ending) (w' : World) : Prop := Below w0.heap.size w0 w' ∧
  ((¬ T.Ok ∧ e = .returned (.tuple #[.map none, .bool false])) ∨
   (T.Ok ∧ ∃ (mb p q base : Nat) (U : Int → Option Nat) (S : Nat → Value), e = .returned (.tuple #[.map (some mb), .bool true]) ∧ Up T T.bn 0 U ∧ Prt T I C w0.heap.size mb p q T.bn 0 base U S w'))
theorem PartsB.no {T : TD} {I : Nat → Option Addr} {C : Nat → Nat} {w0 w' : World} (h : ¬ T.Ok) (b : Below w0.heap.size w0 w') : PartsB T I C w0 (.returned (.tuple #[.map none, .bool false])) w' := ⟨b, .inl ⟨h, rfl⟩⟩
/-- All numbers that stand for items are such. -/
def TD.Wf (T : TD) : Prop := ∀ j, j < T.bn → ∀ x, x ∈ T.L j → (Lit.int .i64 x).wf = true

theorem infoPB : (Try.prog.info? 209).map (fun i => (i.zero, i.size, i.bytes)) = some (some (.pointer none), 1, 8) := by kernel_rfl
set_option maxRecDepth 100000 in
set_option maxHeartbeats 4000000 in
theorem partsOf (T : TD) (A : TA) (w : World) (Z : T.Sz) (WF : T.Wf) (h : TIn w T A) :
    Calls Try.prog 125 #[A.val T] w (PartsB T A.I A.C w) := by
  have CD := Lib.hid (fun w' (b : Below w.heap.size w w') => devicesOk T A.da A.dc w' Z.dn (h.below b).devs)
  have CB := Lib.hid (fun w' (b : Below w.heap.size w w') => bucketsOk T A.ba A.bc A.I A.C w' Z.bn Z.L (h.below b).bkts)
  have HD := Lib.hid h.devs
  have HB := Lib.hid h.bkts
  clear h Z
  obtain ⟨da, dc, ba, bc, I, C⟩ := A
  dsimp only at CD CB HD HB ⊢
  obtain ⟨dn, hdn⟩ : ∃ dn, dn = T.dn := ⟨_, rfl⟩
  obtain ⟨bn, hbn⟩ : ∃ bn, bn = T.bn := ⟨_, rfl⟩
  have E : TA.val ⟨da, dc, ba, bc, I, C⟩ T = tval (.slice da dn dc) (.slice ba bn bc) := by rw [hdn, hbn]
  rw [E]
  rw [← hdn] at CD HD
  rw [← hbn] at CB HB
  have HDN := Lib.hid hdn
  have HBN := Lib.hid hbn
  clear E hdn hbn
  have LH := Lib.hid (lay w (.cells #[.slice da dn dc, .slice ba bn bc] 33))
  have X := Lib.hid (BxN.new w #[.slice da dn dc, .slice ba bn bc] 33)
  have hmm := @run_makeMap Try.prog
  go_enter Try.func125, Try.ntmps125
  go_wp2_with fail
  refine (CD.out _ LH.out).mono ?_
  rintro e w1 ⟨bb1, rfl, H1, b1⟩
  have B1 := Lib.hid (chain LH.out b1)
  have X1 := Lib.hid (X.out.later b1)
  have x0 := X1.out.cells 0 _ rfl
  have x1 := X1.out.cells 1 _ rfl
  clear b1
  cases bb1
  · have G := Lib.hid (show ¬ T.Ok from fun k => by have := H1.2 k.dev; cases this)
    clear H1
    go_wp2
    go_ret2
    exact PartsB.no G.out B1.out
  · have DV := Lib.hid (H1.1 rfl)
    clear H1
    go_wp2_with fail
    refine (CB.out _ B1.out).mono ?_
    rintro e w2 ⟨bb2, rfl, H2, b2⟩
    have B2 := Lib.hid (chain B1.out b2)
    have X2 := Lib.hid (X1.out.later b2)
    clear x0 x1
    have x0 := X2.out.cells 0 _ rfl
    have x1 := X2.out.cells 1 _ rfl
    clear b2
    cases bb2
    · have G := Lib.hid (show ¬ T.Ok from fun k => by have := H2.2 k.bkt; cases this)
      clear H2
      go_wp2
      go_ret2
      exact PartsB.no G.out B2.out
    · have BV := Lib.hid (H2.1 rfl)
      clear H2
      have P0 := Lib.hid (Ph1.start (T := T) X2.out B2.out)
      have y0 := P0.out.box.cells 0 _ rfl
      have y1 := P0.out.box.cells 1 _ rfl
      clear x0 x1 X X1 X2 LH CD CB
      have D16 : dn ≤ 16 := by rw [HDN.out]; exact DV.out.n
      have B12 : bn ≤ 12 := by rw [HBN.out]; exact BV.out.n
      go_wp2
      generalize w2.heap.size = mb at *
      clear hmm
      obtain ⟨p, hp⟩ : ∃ p, p = mb + 2 := ⟨_, rfl⟩
      rw [← hp] at P0
      go_loopw [26] (fun i wr => ∃ k : Nat, k ≤ dn ∧ i = .int .i64 k ∧ Ph1 T w mb p k [.slice da dn dc, .slice ba bn bc] wr) (fun i _ => dn - (intOf i).toNat)
      case atStart => exact ⟨0, by omega, rfl, P0.out⟩
      case round =>
        clear P0 y0 y1 B1 B2
        obtain ⟨k, hk, rfl, P⟩ := hrel
        have PH := Lib.hid P
        clear P
        by_cases hlt : k < dn
        · have hkT : k < T.dn := by rw [← HDN.out]; exact hlt
          obtain ⟨b, off, rfl, hBz, hcc⟩ := (HD.out.below PH.out.below).resolve_left (by omega)
          obtain ⟨c0, c1⟩ := hcc k hlt
          have FM := Lib.hid (((PH.out.map).later (lay _ (.cells #[.int .i64 (T.df k), .int .i64 (T.dg k)] 106))).later (lay _ (.cells #[.pointer none, .int .i64 (T.df k), .int .i64 (T.dg k)] 213)))
          have STEP := Lib.hid (fun w3 => @Ph1.step T w mb p k _ wr PH.out DV.out hkT (.cells #[.int .i64 (T.df k), .int .i64 (T.dg k)] 106) 213 w3)
          have WFK : (Lit.int .i64 (T.df k)).wf = true := by have := DV.out.each k hkT; exact WalkArith.wf_i64 (by omega)
          clear hcc hBz
          generalize thg T p 0 k 0 = F at *
          generalize T.df k = x at *
          generalize T.dg k = y at *
          go_wp2_with (at_mapUpdate; refine Pm.wpList_store2 _ rfl _ _ _ 95 rfl 2 179 keyed64 Try.underlying95 Try.underlying2 mb k F rfl FM.out (by unfold maxLen; omega) x _ rfl rfl rfl WFK ?_; intro w3 F3 g3 s3)
          exact ⟨⟨k + 1, by omega, by go_num, STEP.out w3 F3 g3 s3⟩, by simp [intOf]; omega⟩
        · obtain rfl : k = dn := by omega
          obtain ⟨i0, hi, hz0, hz1, hz2⟩ := info_parts infoPB
          have y1 := PH.out.box.cells 1 _ rfl
          have P2S := Lib.hid (fun w3 xs (ho : w3.ownsRow wr.heap.size 209 1 (.slice (some ⟨wr.heap.size, 0, none⟩) bn bn) bn xs) (g : wr.grownBy w3 none) => Ph2.start (I := I) (C := C) (HDN.out ▸ PH.out) (HBN.out ▸ ho) g)
          clear hlt hk
          go_wp2_with (at_make; refine wpList_make_full _ rfl _ _ 214 rfl wr.heap.size 209 i0 (.pointer none) 1 Try.underlying214 hi hz0 hz1 .i64 .i64 bn bn bn rfl rfl rfl rfl (by rw [hz2]; omega) (by unfold maxLen; omega) (Nat.le_refl _) ?_; intro w3 hown3 hgrow3; have P2 := Lib.hid (P2S.out _ _ hown3 hgrow3); have y2 := P2.out.box.cells 1 _ rfl)
          obtain ⟨q, hq⟩ : ∃ q, q = w3.heap.size + 1 := ⟨_, rfl⟩
          obtain ⟨sb, hsb⟩ : ∃ sb, sb = wr.heap.size := ⟨_, rfl⟩
          rw [← hq, ← hsb] at P2
          rw [← hsb]
          clear P2S hown3 hgrow3 PH y1 y2 hz0 hz1 hz2 hi i0 hq hsb HD HDN hp D16
          go_loopw [45] (fun i wr => ∃ j : Nat, j ≤ bn ∧ i = .int .i64 j ∧ Ph2 T I C w mb p q sb j [.slice da T.dn dc, .slice ba bn bc] wr) (fun i _ => bn - (intOf i).toNat)
          case atStart => exact ⟨0, by omega, rfl, P2.out⟩
          case round =>
            clear P2
            obtain ⟨j, hj, rfl, P⟩ := hrel
            have PH := Lib.hid P
            clear P
            by_cases hlt : j < bn
            · have hjT : j < T.bn := by rw [← HBN.out]; exact hlt
              obtain ⟨b, off, rfl, hBz, hcc⟩ := (HB.out.below PH.out.below).resolve_left (by omega)
              obtain ⟨c0, c1, c2, -⟩ := hcc j hlt
              obtain ⟨u, d0⟩ := PH.out.bt j hjT
              have f0 := PH.out.bz j
              have hsb : sb < wr.heap.size := by have := PH.out.hs; have := PH.out.pq; omega
              have WFX : (Lit.int .i64 (T.bf j)).wf = true := by have := BV.out.each j hjT; exact WalkArith.wf_i64 (by omega)
              obtain ⟨W2, hW2⟩ : ∃ W2, W2 = ((wr.setCell ⟨sb, j, none⟩ (.pointer (some ⟨wr.heap.size + 1, 0, none⟩))).alloc (.cells #[.int .i64 (T.bf j), .int .i64 (T.bg j), .slice (I j) (T.L j).length (C j)] 165)).alloc (.cells #[.pointer none, .int .i64 (T.bf j), .int .i64 (T.bg j), .slice (I j) (T.L j).length (C j), .slice none 0 0] 217) := ⟨_, rfl⟩
              have FM : Pm.Fun Try.prog 2 W2.drew mb (T.dn + j) (thg T p q T.dn j) := by
                rw [hW2]
                exact ((((PH.out.map).set (p := ⟨sb, j, none⟩) (by have := PH.out.sp; have := PH.out.mp; dsimp only; omega) (.pointer (some ⟨wr.heap.size + 1, 0, none⟩))).later (lay _ _)).later (lay _ _)).drew
              have e0 : W2.cell? ⟨wr.heap.size, 0, none⟩ = some (.int .i64 (T.bf j)) := by
                rw [hW2]
                refine ((lay _ _).cell (p := ⟨wr.heap.size, 0, none⟩) (by rw [World.size_alloc]; simp)).trans ?_
                have := World.cell?_alloc_new (wr.setCell ⟨sb, j, none⟩ (.pointer (some ⟨wr.heap.size + 1, 0, none⟩))) #[.int .i64 (T.bf j), .int .i64 (T.bg j), .slice (I j) (T.L j).length (C j)] 165 0
                simpa using this
              have e1 : W2.cell? ⟨sb, j, none⟩ = some (.pointer (some ⟨wr.heap.size + 1, 0, none⟩)) := by
                rw [hW2]
                refine ((lay _ _).cell (p := ⟨sb, j, none⟩) (by rw [World.size_alloc]; simp; omega)).trans (((lay _ _).cell (p := ⟨sb, j, none⟩) (by simpa using hsb)).trans ?_)
                exact World.cell?_setCell_same _ _ _ d0
              obtain ⟨w4, hrun, F4, g4, s4⟩ := FM.update keyed64 Try.underlying95 Try.underlying2 (by have := BV.out.n; have := DV.out.n; unfold maxLen; omega) (T.bf j) WFX (.iface 209 (.pointer (some ⟨wr.heap.size + 1, 0, none⟩))) rfl
              have P3 := Lib.hid (PH.out.step DV.out BV.out hjT hW2 F4 g4 s4)
              clear hcc hBz FM F4 g4 s4 WFX PH
              generalize T.bf j = x at *
              generalize T.bg j = g at *
              generalize (T.L j).length = lj at *
              generalize I j = ij at *
              generalize C j = cj at *
              go_wp2
              rw [← hW2]
              clear hW2
              go_region
              go_wp2
              go_roundw
              case rel => exact ⟨j + 1, by omega, by go_num, P3.out⟩
              case measure => simp [intOf]; omega
            · obtain rfl : j = bn := by omega
              have hsb : sb = p + 2 * T.dn - 1 := by have := PH.out.sp; omega
              have P4 : Hid (Prt T I C w.heap.size mb p q 0 0 wr.heap.size (fun _ => none) (fun _ => .slice none 0 0) wr) := by
                have := PH.out
                rw [HBN.out] at this
                exact this.parts
              have B4 := Lib.hid PH.out.below
              rw [hsb]
              clear PH hsb
              go_wp2
              go_loopw [67] (fun i wr => ∃ (r base : Nat) (U : Int → Option Nat) (S : Nat → Value), r ≤ j ∧ i = .int .i64 r ∧ (∀ z, z < r → T.Fit1 z) ∧ Up T r 0 U ∧ Prt T I C w.heap.size mb p q r 0 base U S wr ∧ Below w.heap.size w wr) (fun i _ => j - (intOf i).toNat)
              case atStart => exact ⟨0, _, _, _, by omega, rfl, fun z hz => by omega, Up.start T, P4.out, B4.out⟩
              case round =>
                clear P4 B4
                obtain ⟨r, base, U, S, hr, rfl, FT, UP, PP, hw⟩ := hrel
                by_cases hlt : r < j
                · have hrT : r < T.bn := by rw [← HBN.out]; exact hlt
                  have HW := (HB.out.resolve_left (by omega))
                  obtain ⟨b, off, -, -, hcc⟩ := HW
                  have HG := Lib.hid (hangItems T I C w wr mb p q r base U S hw DV.out BV.out hrT (WF r hrT) (hcc r hlt).2.2.2 UP PP)
                  have d0 := PP.bs r hrT
                  have FH := Lib.hid FT
                  clear hcc UP PP hw FT
                  generalize p + 2 * T.dn - 1 = sb at *
                  go_wp2_with fail
                  refine HG.out.mono ?_
                  rintro e w5 ⟨bb, rfl, B5, no, yes⟩
                  cases bb
                  · have G := Lib.hid (no rfl)
                    have B5 := Lib.hid B5
                    clear no yes HG
                    go_wp2
                    go_ret2
                    exact PartsB.no G.out B5.out
                  · obtain ⟨fit, U', S', UP', PP'⟩ := yes rfl
                    have G := Lib.hid (show ∀ z, z < r + 1 → T.Fit1 z from fun z hz => if e : z = r then by rw [e]; exact fit else FH.out z (by omega))
                    have B5 := Lib.hid B5
                    have UP' := Lib.hid UP'
                    have PP' := Lib.hid PP'
                    clear no yes HG fit
                    go_wp2
                    go_roundw
                    case rel => exact ⟨r + 1, _, _, _, by omega, by go_num, G.out, UP'.out, PP'.out, B5.out⟩
                    case measure => simp [intOf]; omega
                · obtain rfl : r = j := by omega
                  have e : r = T.bn := HBN.out
                  have G := Lib.hid (show PartsB T I C w (.returned (.tuple #[.map (some mb), .bool true])) wr from ⟨hw, .inr ⟨⟨DV.out, BV.out, (e ▸ UP).once, fun z hz => FT z (by omega)⟩, mb, p, q, base, U, S, rfl, e ▸ UP, e ▸ PP⟩⟩)
                  clear UP PP hw FT
                  go_wp2
                  go_ret2
                  exact G.out
end Go.Proofs.Ytigaoimnhebegaa.Tm
