/-
  Marks laid into a tree that the law itself copied.
-/
import Derived.Test.YtgfpngjfhmiphaaTre4
import Derived.Test.YtgfpngjfhmiphaaMarkItem
import Derived.Test.YtgfpngjfhmiphaaMarkI
namespace Go.Proofs.Ytgfpngjfhmiphaa.Bk
open Go.RowKit Go.Proofs.Ytgfpngjfhmiphaa.At Go.Proofs.Ytgfpngjfhmiphaa.MixC Go.Proofs.Ytgfpngjfhmiphaa.Ml
open Go.Proofs.Ytgfpngjfhmiphaa.It (lay chain)
open Go.Proofs.Ytgfpngjfhmiphaa.Rc (Recs Copied2 There MarkB grown_set)
open Go.Proofs.Ytgfpngjfhmiphaa.Sg (BxN)
set_option linter.unusedVariables false
set_option linter.unusedSimpArgs false

/-- Only blocks from lo to hi have turned. -/
structure Span (lo hi : Nat) (w w' : World) : Prop where
  os : w'.os = w.os
  tape : w'.tape = w.tape
  output : w'.output = w.output
  size : w.heap.size ≤ w'.heap.size
  block : ∀ k, k < w.heap.size → (k < lo ∨ hi ≤ k) → w'.heap[k]? = w.heap[k]?
theorem Span.refl (lo hi : Nat) (w : World) : Span lo hi w w := ⟨rfl, rfl, rfl, Nat.le_refl _, fun _ _ _ => rfl⟩
theorem Span.trans {lo hi : Nat} {a b c : World} (h : Span lo hi a b) (k : Span lo hi b c) : Span lo hi a c :=
  ⟨k.os.trans h.os, k.tape.trans h.tape, k.output.trans h.output, Nat.le_trans h.size k.size, fun i hi' ho => (k.block i (Nat.lt_of_lt_of_le hi' h.size) ho).trans (h.block i hi' ho)⟩
theorem Span.ofGrown {lo hi : Nat} {w w' : World} {r : Option Nat} (g : w.grownBy w' r) (hr : ∀ c, r = some c → lo ≤ c ∧ c < hi) : Span lo hi w w' :=
  ⟨g.os, g.tape, g.output, g.size, fun k hk ho => g.block k hk (fun e => by have := hr k e.symm; omega)⟩
theorem Span.ofBelow {lo hi : Nat} {w w' : World} (b : Below w.heap.size w w') : Span lo hi w w' := ⟨b.os, b.tape, b.output, b.size, fun k hk _ => b.block k hk⟩
theorem Span.set {lo hi : Nat} {w : World} (p : Addr) (h0 : lo ≤ p.block) (h1 : p.block < hi) (v : Value) : Span lo hi w (w.setCell p v) :=
  ⟨rfl, rfl, rfl, by simp, fun k hk ho => Below.heap_setCell _ _ _ _ (by intro e; omega)⟩
theorem Span.below {lo hi B : Nat} {W w w' : World} (b : Below B W w) (h : Span lo hi w w') (hl : B ≤ lo) (hB : B ≤ w.heap.size) : Below B W w' :=
  ⟨h.os.trans b.os, h.tape.trans b.tape, h.output.trans b.output, Nat.le_trans b.size h.size, fun k hk => (h.block k (by omega) (.inl (by omega))).trans (b.block k hk)⟩

theorem mine_block {w w' : World} {g n : Nat} (h : Mine w (some ⟨g, 0, none⟩) n) (e : w'.heap[g]? = w.heap[g]?) (sz : w.heap.size ≤ w'.heap.size) : Mine w' (some ⟨g, 0, none⟩) n := by
  rcases h with h | ⟨g', e', hg, hc, hf⟩
  · exact .inl h
  · obtain rfl : g = g' := by simpa using e'
    exact .inr ⟨g, rfl, Nat.lt_of_lt_of_le hg sz, fun i hi => by obtain ⟨v, hv⟩ := hc i hi; exact ⟨v, (World.cell?_of_block e).trans hv⟩, fun i => (World.frozen?_of_block e).trans (hf i)⟩
/-- The buckets from k on can be marked: three cells each in block q, the items in block J i. -/
structure ThB (lo hi : Nat) (w : World) (q n k : Nat) (J : Nat → Nat) (c : Nat → Nat) : Prop where
  lt : q < w.heap.size
  q0 : lo ≤ q
  q1 : q < hi
  num : ∀ i, k ≤ i → i < n → (∃ u, w.cell? ⟨q, i * 3, none⟩ = some u) ∧ (∃ u, w.cell? ⟨q, i * 3 + 1, none⟩ = some u) ∧ w.cell? ⟨q, i * 3 + 2, none⟩ = some (.slice (some ⟨J i, 0, none⟩) (c i) (c i))
  free : ∀ o, w.frozen? ⟨q, o, none⟩ = false
  inn : ∀ i, k ≤ i → i < n → q < J i ∧ J i < hi ∧ J i < w.heap.size ∧ Mine w (some ⟨J i, 0, none⟩) (c i)
  asc : ∀ i i', i < i' → i' < n → J i < J i'
theorem ThB.put {lo hi : Nat} {w : World} {q n k : Nat} {J c : Nat → Nat} (h : ThB lo hi w q n k J c) (o : Nat) (ho : o = k * 3 ∨ o = k * 3 + 1) (v : Value) : ThB lo hi (w.setCell ⟨q, o, none⟩ v) q n k J c := by
  have keep : ∀ p : Nat, (∃ u, w.cell? ⟨q, p, none⟩ = some u) → ∃ u, (w.setCell ⟨q, o, none⟩ v).cell? ⟨q, p, none⟩ = some u := by
    rintro p ⟨u, hu⟩
    by_cases e : o = p
    · subst e; exact ⟨v, World.cell?_setCell_same _ _ _ hu⟩
    · exact ⟨u, (World.cell?_setCell_other _ _ _ _ (fun x => e (congrArg Addr.off x))).trans hu⟩
  refine ⟨by simpa using h.lt, h.q0, h.q1, fun i hi hn => ?_, fun p => (World.frozen?_setCell _ _ _ _).trans (h.free p), fun i hi hn => ?_, h.asc⟩
  · obtain ⟨a, b, d⟩ := h.num i hi hn
    exact ⟨keep _ a, keep _ b, (World.cell?_setCell_other _ _ _ _ (fun x => by have : o = i * 3 + 2 := congrArg Addr.off x; omega)).trans d⟩
  · obtain ⟨a, b, d, e⟩ := h.inn i hi hn
    exact ⟨a, b, by simpa using d, mine_block e (Below.heap_setCell _ _ _ _ (by show J i ≠ q; omega)) (by simp)⟩
theorem ThB.next {lo hi : Nat} {w w' : World} {q n k : Nat} {J c : Nat → Nat} (h : ThB lo hi w q n k J c) (hk : k < n) (g : w.grownBy w' (some (J k))) : ThB lo hi w' q n (k + 1) J c := by
  obtain ⟨a0, _⟩ := h.inn k (Nat.le_refl _) hk
  have eq : w'.heap[q]? = w.heap[q]? := g.block q h.lt (fun e => by have : q = J k := (by simpa using e); omega)
  refine ⟨Nat.lt_of_lt_of_le h.lt g.size, h.q0, h.q1, fun i hi hn => ?_, fun p => (World.frozen?_of_block eq).trans (h.free p), fun i hi hn => ?_, h.asc⟩
  · obtain ⟨⟨u, a⟩, ⟨v, b⟩, d⟩ := h.num i (by omega) hn
    exact ⟨⟨u, (World.cell?_of_block eq).trans a⟩, ⟨v, (World.cell?_of_block eq).trans b⟩, (World.cell?_of_block eq).trans d⟩
  · obtain ⟨a, b, d, e⟩ := h.inn i (by omega) hn
    have := h.asc k i (by omega) hn
    exact ⟨a, b, Nat.lt_of_lt_of_le d g.size, mine_block e (g.block _ d (fun x => by have x : J i = J k := (by simpa using x); omega)) g.size⟩
theorem ThB.later {lo hi : Nat} {w w' : World} {q n k : Nat} {J c : Nat → Nat} (h : ThB lo hi w q n k J c) (b : Below w.heap.size w w') : ThB lo hi w' q n k J c := by
  have eq : w'.heap[q]? = w.heap[q]? := b.block q h.lt
  refine ⟨Nat.lt_of_lt_of_le h.lt b.size, h.q0, h.q1, fun i hi hn => ?_, fun p => (World.frozen?_of_block eq).trans (h.free p), fun i hi hn => ?_, h.asc⟩
  · obtain ⟨⟨u, a⟩, ⟨v, b⟩, d⟩ := h.num i (by omega) hn
    exact ⟨⟨u, (World.cell?_of_block eq).trans a⟩, ⟨v, (World.cell?_of_block eq).trans b⟩, (World.cell?_of_block eq).trans d⟩
  · obtain ⟨a, c, d, e⟩ := h.inn i (by omega) hn
    exact ⟨a, c, Nat.lt_of_lt_of_le d b.size, mine_block e (b.block _ d) b.size⟩
/-- A part of memory that other blocks than q's and the items' have left. -/
theorem ThB.past {lo hi : Nat} {w w' : World} {q n k l : Nat} {J c : Nat → Nat} (h : ThB lo hi w q n k J c) (g : w.grownBy w' (some l)) (hl : l < q) : ThB lo hi w' q n k J c := by
  have eq : w'.heap[q]? = w.heap[q]? := g.block q h.lt (fun e => by have : q = l := (by simpa using e); omega)
  refine ⟨Nat.lt_of_lt_of_le h.lt g.size, h.q0, h.q1, fun i hi hn => ?_, fun p => (World.frozen?_of_block eq).trans (h.free p), fun i hi hn => ?_, h.asc⟩
  · obtain ⟨⟨u, a⟩, ⟨v, b⟩, d⟩ := h.num i (by omega) hn
    exact ⟨⟨u, (World.cell?_of_block eq).trans a⟩, ⟨v, (World.cell?_of_block eq).trans b⟩, (World.cell?_of_block eq).trans d⟩
  · obtain ⟨a, c, d, e⟩ := h.inn i (by omega) hn
    exact ⟨a, c, Nat.lt_of_lt_of_le d g.size, mine_block e (g.block _ d (fun x => by have x : J i = l := (by simpa using x); omega)) g.size⟩
theorem RndB.thB {w w' : World} {q n : Nat} {f g : Nat → Int} {L : Nat → List Int} {J : Nat → Nat} (h : RndB w w' q n n f g L J) : ThB w.heap.size w'.heap.size w' q n 0 J (fun i => (L i).length) := by
  refine ⟨h.lt, h.new, h.lt, fun i _ hi => ?_, h.free, fun i _ hi => ?_, h.asc⟩
  · obtain ⟨c0, c1, c2, _⟩ := h.cells i hi
    rw [Nat.zero_add] at c0 c1 c2
    exact ⟨⟨_, c0⟩, ⟨_, c1⟩, c2⟩
  · obtain ⟨_, _, _, j0, j1, wd, fr⟩ := h.cells i hi
    refine ⟨j0, j1, j1, ?_⟩
    by_cases e : (L i).length = 0
    · exact .inl e
    · obtain ⟨b, off, eb, hB, nums⟩ := wd.resolve_left (fun x => e (by rw [x]; rfl))
      simp only [Option.some.injEq, Addr.mk.injEq, and_true] at eb
      obtain ⟨rfl, rfl⟩ := eb
      exact .inr ⟨J i, rfl, hB, fun t ht => ⟨_, by have := nums t ht; rwa [Nat.zero_add] at this⟩, fr⟩
/-- How many items there are in the first k. -/
def tcN (c : Nat → Nat) : Nat → Nat
  | 0 => 0
  | k + 1 => tcN c k + c k
theorem tcN_mono (c : Nat → Nat) {i : Nat} : ∀ {j : Nat}, i ≤ j → tcN c i ≤ tcN c j
  | 0, h => by obtain rfl : i = 0 := by omega
               exact Nat.le_refl _
  | j + 1, h => by
    by_cases e : i = j + 1
    · subst e; exact Nat.le_refl _
    · exact Nat.le_trans (tcN_mono c (j := j) (by omega)) (Nat.le_add_right _ _)
theorem totB_tc (n : Nat) (L : Nat → List Int) : ∀ k, totB n L k = n + tcN (fun i => (L i).length) k
  | 0 => rfl
  | k + 1 => by
    show totB n L k + (L k).length = n + (tcN (fun i => (L i).length) k + (L k).length)
    rw [totB_tc n L k]; omega

set_option maxRecDepth 100000 in
set_option maxHeartbeats 1000000 in
theorem markDeviceS (q cap n : Nat) (m0 : Int) (h0 : 0 ≤ m0) (h1 : m0 ≤ 1000000) (hn : n ≤ 2097152) (w : World) (h : There w q n) :
    Calls Try.prog 53 #[.slice (some ⟨q, 0, none⟩) n cap, .int .i64 m0] w (MarkB q (m0 + 2 * n) w) := by
  go_enter Try.func53, Try.ntmps53
  go_wp2
  go_loopw [1, 5] (fun m i wr => ∃ k : Nat, k ≤ n ∧ i = .int .i64 k ∧ m = .int .i64 (m0 + 2 * k) ∧ There wr q n ∧ w.grownBy wr (some q)) (fun _ i _ => n - (intOf i).toNat)
  case atStart => exact ⟨0, by omega, rfl, by simp, h, ⟨rfl, rfl, rfl, Nat.le_refl _, fun _ _ _ => rfl⟩⟩
  case round =>
    obtain ⟨k, hk, rfl, rfl, T, G⟩ := hrel
    by_cases hlt : k < n
    · obtain ⟨u0, c0⟩ := T.there (k * 2) (by omega)
      have f0 := T.free (k * 2)
      have T1 := T.put (k * 2) (by omega) (.int .i64 (m0 + 2 * k))
      obtain ⟨u1, c1⟩ := T1.there (k * 2 + 1) (by omega)
      have f1 := T1.free (k * 2 + 1)
      have T2 := Lib.hid (T1.put (k * 2 + 1) (by omega) (.int .i64 (m0 + 2 * k + 1)))
      have G2 := Lib.hid (grown_set (grown_set G (k * 2) (.int .i64 (m0 + 2 * k))) (k * 2 + 1) (.int .i64 (m0 + 2 * k + 1)))
      clear T T1 G h
      go_wp2
      go_roundw
      case rel => exact ⟨k + 1, by omega, by go_num, by go_num, T2.out, G2.out⟩
      case measure => simp [intOf]; omega
    · obtain rfl : k = n := by omega
      have F := Lib.hid (show MarkB q (m0 + 2 * k) w (.returned (.int .i64 (m0 + 2 * k))) wr from ⟨rfl, G⟩)
      clear G T
      go_wp2
      go_ret
      exact F.out

/-- Marks laid: a number handed back; nothing but blocks from lo to hi has turned. -/
def MarkS (lo hi : Nat) (m : Int) (w : World) (e : Ending) (w' : World) : Prop := e = .returned (.int .i64 m) ∧ Span lo hi w w'

set_option maxRecDepth 100000 in
set_option maxHeartbeats 1000000 in
theorem markBucketS (lo hi q cap n : Nat) (J c : Nat → Nat) (m0 : Int) (h0 : 0 ≤ m0) (h1 : m0 ≤ 3000000) (hn : n ≤ 1048576) (hc : tcN c n ≤ 1048576) (w : World) (h : ThB lo hi w q n 0 J c) :
    Calls Try.prog 54 #[.slice (some ⟨q, 0, none⟩) n cap, .int .i64 m0] w (MarkS lo hi (m0 + 2 * n + tcN c n) w) := by
  have HC := Lib.hid hc
  have HH := Lib.hid h
  clear h hc
  go_enter Try.func54, Try.ntmps54
  go_wp2
  go_loopw [1, 5] (fun m i wr => ∃ k : Nat, k ≤ n ∧ i = .int .i64 k ∧ m = .int .i64 (m0 + 2 * k + tcN c k) ∧ ThB lo hi wr q n k J c ∧ Span lo hi w wr) (fun _ i _ => n - (intOf i).toNat)
  case atStart => exact ⟨0, by omega, rfl, by simp [tcN], HH.out, Span.refl _ _ _⟩
  case round =>
    clear HH
    obtain ⟨k, hk, rfl, rfl, T, G⟩ := hrel
    by_cases hlt : k < n
    · obtain ⟨mm, hmm⟩ : ∃ mm : Int, mm = m0 + 2 * k + tcN c k := ⟨_, rfl⟩
      have M1 : mm + 2 + c k = m0 + 2 * (k + 1 : Nat) + tcN c (k + 1) := by show _ = m0 + 2 * ((k + 1 : Nat) : Int) + ((tcN c k + c k : Nat) : Int); omega
      have M2 := tcN_mono c (i := k + 1) (j := n) (by omega)
      have M5 : c k ≤ 1048576 := by have := HC.out; have e : tcN c (k + 1) = tcN c k + c k := rfl; omega
      have M3 : mm + 2 + c k ≤ 10000000 := by have := HC.out; have e : tcN c (k + 1) = tcN c k + c k := rfl; omega
      have M4 : 0 ≤ mm := by omega
      rw [← hmm]
      have M1 := Lib.hid M1
      clear hmm M2
      obtain ⟨⟨u0, c0⟩, -, -⟩ := T.num k (Nat.le_refl _) hlt
      have f0 := T.free (k * 3)
      have T1 := T.put (k * 3) (.inl rfl) (.int .i64 mm)
      obtain ⟨-, ⟨u1, c1⟩, -⟩ := T1.num k (Nat.le_refl _) hlt
      have f1 := T1.free (k * 3 + 1)
      have T2 := T1.put (k * 3 + 1) (.inr rfl) (.int .i64 (mm + 1))
      obtain ⟨-, -, c2⟩ := T2.num k (Nat.le_refl _) hlt
      obtain ⟨j0, j1, j2, mi⟩ := T2.inn k (Nat.le_refl _) hlt
      have G2 := Lib.hid ((G.trans (Span.set ⟨q, k * 3, none⟩ T.q0 T.q1 (.int .i64 mm))).trans (Span.set ⟨q, k * 3 + 1, none⟩ T.q0 T.q1 (.int .i64 (mm + 1))))
      have MK := Lib.hid (Ml.markInt64S (some ⟨J k, 0, none⟩) (c k) (c k) (mm + 1 + 1) (by omega) (by omega) (by omega) _ mi)
      have T2 := Lib.hid T2
      have JL : lo ≤ J k := by have := T.q0; omega
      have TC := Lib.hid (show m0 + 2 * ((k + 1 : Nat) : Int) + tcN c (k + 1) = mm + 1 + 1 + c k from by have := M1.out; omega)
      clear T T1 G mi M1
      generalize c k = ck at *
      go_wp2_with fail
      refine MK.out.mono ?_
      rintro e w3 ⟨rfl, -, g3⟩
      have T3 := Lib.hid (T2.out.next hlt g3)
      have G3 := Lib.hid (G2.out.trans (Span.ofGrown g3 (fun x hx => by have : J k = x := (by simpa [rowOf] using hx); omega)))
      clear g3 T2 G2
      go_wp2
      go_roundw
      case rel => exact ⟨k + 1, by omega, by go_num, by rw [TC.out], T3.out, G3.out⟩
      case measure => simp [intOf]; omega
    · obtain rfl : k = n := by omega
      have F := Lib.hid (show MarkS lo hi (m0 + 2 * k + tcN c k) w (.returned (.int .i64 (m0 + 2 * k + tcN c k))) wr from ⟨rfl, G⟩)
      clear G T
      generalize m0 + 2 * (k : Int) + tcN c k = mm at *
      go_wp2
      go_ret
      exact F.out

theorem bxn_grown {w w1 : World} {b : Nat} {vs : List Value} {r : Option Nat} (h : BxN w b vs) (g : w.grownBy w1 r) (hr : ∀ c, r = some c → b ≠ c) : BxN w1 b vs := by
  have e : w1.heap[b]? = w.heap[b]? := g.block b h.lt (fun q => hr b q.symm rfl)
  exact ⟨Nat.lt_of_lt_of_le h.lt g.size, fun i v hv => (World.cell?_of_block e).trans (h.cells i v hv), fun i => (World.frozen?_of_block e).trans (h.free i)⟩

/-- A copied tree that can be marked. -/
structure MT (lo hi : Nat) (w : World) (p q dn bn : Nat) (J c : Nat → Nat) : Prop where
  dev : There w p dn
  d0 : lo ≤ p
  pq : p < q
  bkt : ThB lo hi w q bn 0 J c
theorem MT.later {lo hi : Nat} {w w' : World} {p q dn bn : Nat} {J c : Nat → Nat} (h : MT lo hi w p q dn bn J c) (b : Below w.heap.size w w') : MT lo hi w' p q dn bn J c := ⟨h.dev.below b, h.d0, h.pq, h.bkt.later b⟩

set_option maxRecDepth 100000 in
set_option maxHeartbeats 1000000 in
theorem markTree (lo hi p q dn bn dc bc : Nat) (J c : Nat → Nat) (hd : dn ≤ 1048576) (hn : bn ≤ 1048576) (hc : tcN c bn ≤ 1048576) (w : World) (h : MT lo hi w p q dn bn J c) :
    Calls Try.prog 17 #[tval (.slice (some ⟨p, 0, none⟩) dn dc) (.slice (some ⟨q, 0, none⟩) bn bc), .int .i64 1] w (fun e w' => ∃ m : Int, 0 ≤ m ∧ e = .returned (.int .i64 m) ∧ ∃ w1, Below w.heap.size w w1 ∧ w1.heap.size = w.heap.size + 1 ∧ Span lo hi w1 w') := by
  have X := BxN.new w #[.slice (some ⟨p, 0, none⟩) dn dc, .slice (some ⟨q, 0, none⟩) bn bc] 33
  have L := Lib.hid (lay w (.cells #[.slice (some ⟨p, 0, none⟩) dn dc, .slice (some ⟨q, 0, none⟩) bn bc] 33))
  have T := h.later L.out
  have SZ : (w.alloc (.cells #[.slice (some ⟨p, 0, none⟩) dn dc, .slice (some ⟨q, 0, none⟩) bn bc] 33)).heap.size = w.heap.size + 1 := World.size_alloc _ _
  have MD := Lib.hid (markDeviceS p dc dn 1 (by omega) (by omega) (by omega) _ T.dev)
  have pl := T.dev.lt
  have plw := h.dev.lt
  have qw := h.bkt.lt
  have XH := Lib.hid X
  have TH := Lib.hid T
  have SZ := Lib.hid SZ
  clear T h X
  go_enter Try.func17, Try.ntmps17
  go_wp2_with fail
  refine MD.out.mono ?_
  rintro e w2 ⟨rfl, g2⟩
  have X2 := bxn_grown XH.out g2 (fun x hx => by have : p = x := (by simpa using hx); omega)
  have T2 := TH.out.bkt.past g2 TH.out.pq
  have x1 := X2.cells 1 _ rfl
  have MB := Lib.hid (markBucketS lo hi q bc bn J c (1 + 2 * (dn : Int)) (by omega) (by omega) hn hc w2 T2)
  have S2 := Lib.hid (Span.ofGrown (lo := lo) (hi := hi) g2 (fun x hx => by have : p = x := (by simpa using hx); have := TH.out.d0; have := TH.out.pq; have := TH.out.bkt.q1; omega))
  clear g2 X2 T2
  have M0 : 0 ≤ 1 + 2 * (dn : Int) + 2 * (bn : Int) + tcN c bn := by omega
  have M0 := Lib.hid M0
  generalize 1 + 2 * (dn : Int) + 2 * (bn : Int) + tcN c bn = mm at *
  go_wp2_with fail
  refine MB.out.mono ?_
  rintro e w3 ⟨rfl, S3⟩
  have S3 := Lib.hid (S2.out.trans S3)
  clear S2
  go_wp2
  go_ret
  exact ⟨mm, M0.out, rfl, _, L.out, SZ.out, S3.out⟩
end Go.Proofs.Ytgfpngjfhmiphaa.Bk
