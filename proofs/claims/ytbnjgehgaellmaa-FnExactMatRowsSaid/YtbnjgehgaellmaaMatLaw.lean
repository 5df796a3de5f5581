/-
  The laws' own helpers on matrices: a copy of a matrix that came in, whether two matrices hold the same, marks laid into one and found again.
-/
import Derived.Test.YtbnjgehgaellmaaInts
import Derived.Test.YtbnjgehgaellmaaGrid
namespace Go.Proofs.Ytbnjgehgaellmaa.Ml
open Go.RowKit Go.Proofs.Ytbnjgehgaellmaa.At Go.Proofs.Ytbnjgehgaellmaa.MixC
set_option linter.unusedVariables false

/-- A matrix as a value. -/
abbrev mval (h wd : Int) (c : Value) : Value := .agg #[.int .i64 h, .int .i64 wd, c]

set_option maxRecDepth 100000 in
theorem szInt64S (a : Option Addr) (len cap : Nat) (left : Int) (hl : len ≤ 9223372036854775807) (l0 : 0 ≤ left) (l1 : left ≤ 2097152) (w : World) :
    Calls Try.prog 37 #[.slice a len cap, .int .i64 left] w fun e w' => e = .returned (.int .i64 (if (len : Int) ≤ left then left - len else -1)) ∧ w = w' := by
  by_cases h : (len : Int) ≤ left
  · rw [if_pos h]
    go_enter Try.func37, Try.ntmps37
    go_wp2
    go_ret
    exact ⟨rfl, rfl⟩
  · rw [if_neg h]
    go_enter Try.func37, Try.ntmps37
    go_wp2
    go_ret
    exact ⟨rfl, rfl⟩

/-- A number, and memory that was there is as it was. -/
def IntB (n : Int) (w : World) (e : Ending) (w' : World) : Prop := e = .returned (.int .i64 n) ∧ Below w.heap.size w w'

set_option maxRecDepth 100000 in
theorem szMatrix (h wd : Int) (a : Option Addr) (len cap : Nat) (left : Int) (hl : len ≤ 9223372036854775807) (l0 : 0 ≤ left) (l1 : left ≤ 2097152) (w : World) :
    Calls Try.prog 9 #[mval h wd (.slice a len cap), .int .i64 left] w (IntB (if (len : Int) ≤ left then left - len else -1) w) := by
  by_cases q : (len : Int) ≤ left
  · rw [if_pos q]
    have C := szInt64S a len cap left hl l0 l1
    simp only [if_pos q] at C
    have C := Lib.hid C
    go_enter Try.func9, Try.ntmps9
    go_wp2_with fail
    refine (C.out _).mono ?_
    rintro e w1 ⟨rfl, rfl⟩
    go_wp2
    go_ret
    exact ⟨rfl, (Below.refl _ _).alloc (Nat.le_refl _) _⟩
  · rw [if_neg q]
    have C := szInt64S a len cap left hl l0 l1
    simp only [if_neg q] at C
    have C := Lib.hid C
    go_enter Try.func9, Try.ntmps9
    go_wp2_with fail
    refine (C.out _).mono ?_
    rintro e w1 ⟨rfl, rfl⟩
    go_wp2
    go_ret
    exact ⟨rfl, (Below.refl _ _).alloc (Nat.le_refl _) _⟩

theorem cfrom {w W w1 : World} {g : Nat} {zs : List Int} (K : Copied W w1 g zs) (b : Below w.heap.size w W) : Copied w w1 g zs :=
  ⟨Nat.le_trans b.size K.new, K.lt, K.nums, K.free, b.trans (K.below.mono b.size)⟩
theorem cset {w w1 : World} {g : Nat} {zs : List Int} (K : Copied w w1 g zs) {p : Addr} (hp : p.block ≠ g) (h0 : w.heap.size ≤ p.block) (v : Value) : Copied w (w1.setCell p v) g zs :=
  ⟨K.new, by simpa using K.lt, fun i hi => (World.cell?_setCell_other _ _ _ _ (fun e => hp (congrArg Addr.block e))).trans (K.nums i hi), fun i => (World.frozen?_setCell _ _ _ _).trans (K.free i), K.below.setCell h0 v⟩
/-- A box of three cells that lay in V on top, one block more. -/
theorem box3 {V w1 : World} {x y z : Value} {T : TypeId} (b : Below (V.alloc (.cells #[x, y, z] T)).heap.size (V.alloc (.cells #[x, y, z] T)) w1) :
    w1.cell? ⟨V.heap.size, 0, none⟩ = some x ∧ w1.cell? ⟨V.heap.size, 1, none⟩ = some y ∧ w1.cell? ⟨V.heap.size, 2, none⟩ = some z ∧ w1.frozen? ⟨V.heap.size, 0, none⟩ = false ∧ w1.frozen? ⟨V.heap.size, 1, none⟩ = false ∧ w1.frozen? ⟨V.heap.size, 2, none⟩ = false := by
  have c : ∀ i, w1.cell? ⟨V.heap.size, i, none⟩ = (V.alloc (.cells #[x, y, z] T)).cell? ⟨V.heap.size, i, none⟩ := fun i => b.cell (by simp)
  have f : ∀ i, w1.frozen? ⟨V.heap.size, i, none⟩ = false := fun i => (b.frozen (by simp)).trans (World.frozen?_alloc_at _ _ _ _ rfl)
  exact ⟨(c 0).trans (World.cell?_alloc_new _ _ _ _), (c 1).trans (World.cell?_alloc_new _ _ _ _), (c 2).trans (World.cell?_alloc_new _ _ _ _), f 0, f 1, f 2⟩
theorem box3' {V w1 : World} {x y z : Value} {T : TypeId} {O : Obj} (b : Below ((V.alloc (.cells #[x, y, z] T)).alloc O).heap.size ((V.alloc (.cells #[x, y, z] T)).alloc O) w1) :
    w1.cell? ⟨V.heap.size, 0, none⟩ = some x ∧ w1.cell? ⟨V.heap.size, 1, none⟩ = some y ∧ w1.cell? ⟨V.heap.size, 2, none⟩ = some z ∧ w1.frozen? ⟨V.heap.size, 0, none⟩ = false ∧ w1.frozen? ⟨V.heap.size, 1, none⟩ = false ∧ w1.frozen? ⟨V.heap.size, 2, none⟩ = false :=
  box3 (((Below.refl _ _).alloc (Nat.le_refl _) O).trans (b.mono (by rw [World.size_alloc _ O]; omega)))

/-- A copy of a matrix, its cells a new slice. -/
def MatCopy (h wd : Int) (zs : List Int) (w : World) (e : Ending) (w' : World) : Prop :=
  ∃ g, e = .returned (mval h wd (.slice (some ⟨g, 0, none⟩) zs.length zs.length)) ∧ Copied w w' g zs

set_option maxRecDepth 100000 in
theorem toMatrix (h wd : Int) (a : Option Addr) (cap : Nat) (zs : List Int) (w : World) (hl : zs.length ≤ 2097152) (hc : Words w a zs) :
    Calls Try.prog 11 #[mval h wd (.slice a zs.length cap)] w (MatCopy h wd zs w) := by
  obtain ⟨n, hn⟩ : ∃ n, n = zs.length := ⟨_, rfl⟩
  have hc2 : ∀ w', Below w.heap.size w w' → Words w' a zs := fun w' b => hc.below b
  have HC := Lib.hid hc2
  clear hc2 hc
  have C := Lib.hid (fun w' (b : Below w.heap.size w w') => toInt64S a cap zs w' hl (HC.out w' b))
  have FIN : ∀ g e w', e = Ending.returned (mval h wd (.slice (some ⟨g, 0, none⟩) n n)) → Copied w w' g zs → MatCopy h wd zs w e w' := by
    intro g e w' h1 h2; rw [hn] at h1; exact ⟨g, h1, h2⟩
  have FIN := Lib.hid FIN
  rw [← hn] at C ⊢
  have HN := Lib.hid hn
  clear HC hn
  go_enter Try.func11, Try.ntmps11
  go_wp2_with fail
  have b0 : Below w.heap.size w (((w.alloc (Obj.cells #[Value.int IntKind.i64 h, Value.int IntKind.i64 wd, Value.slice a n cap] 24)).alloc (Obj.cells #[Value.int IntKind.i64 0, Value.int IntKind.i64 0, Value.slice none 0 0] 26)).alloc (Obj.cells #[Value.int IntKind.i64 h, Value.int IntKind.i64 wd, Value.slice none 0 0] 26)) :=
    (((Below.refl _ _).alloc (Nat.le_refl _) _).alloc (by simp) _).alloc (by simp; omega) _
  refine (C.out _ b0).mono ?_
  rintro e w1 ⟨g, rfl, K⟩
  have r1 := box3 K.below
  have r2 := box3' K.below
  have kn := K.new
  simp only [World.size_alloc] at r1 r2 kn
  obtain ⟨c0, c1, c2, f0, f1, f2⟩ := r1
  obtain ⟨d0, d1, d2, k0, k1, k2⟩ := r2
  have K' := Lib.hid (cfrom K b0)
  have HN2 := Lib.hid HN.out.symm
  rw [HN2.out]
  clear K b0
  go_wp2
  refine bodyPost_ret (v := mval h wd (.slice (some ⟨g, 0, none⟩) n n)) (by simp [results, Try.results11, go_sem, *]) rfl (FIN.out g _ _ rfl ?_)
  exact cset (cset (cset (cset K'.out (by show w.heap.size + 1 + 1 ≠ g; omega) (by show _ ≤ w.heap.size + 1 + 1; omega) _) (by show w.heap.size + 1 ≠ g; omega) (by show _ ≤ w.heap.size + 1; omega) _) (by show w.heap.size + 1 ≠ g; omega) (by show _ ≤ w.heap.size + 1; omega) _) (by show w.heap.size + 1 ≠ g; omega) (by show _ ≤ w.heap.size + 1; omega) _

def TrueB (w : World) (e : Ending) (w' : World) : Prop := e = .returned (.bool true) ∧ Below w.heap.size w w'

set_option maxRecDepth 100000 in
theorem eqMatrix (h wd : Int) (a b : Option Addr) (cap1 cap2 : Nat) (zs : List Int) (w : World) (hl : zs.length ≤ 2097152) (ha : Words w a zs) (hb : Words w b zs) :
    Calls Try.prog 14 #[mval h wd (.slice a zs.length cap1), mval h wd (.slice b zs.length cap2)] w (TrueB w) := by
  have C := Lib.hid (fun w' (x : Below w.heap.size w w') => eqInt64S a b cap1 cap2 zs w' hl (ha.below x) (hb.below x))
  obtain ⟨n, hn⟩ : ∃ n, n = zs.length := ⟨_, rfl⟩
  rw [← hn] at C ⊢
  clear ha hb hn hl
  have b0 : ∀ x y, Below w.heap.size w ((w.alloc x).alloc y) := fun x y => ((Below.refl _ _).alloc (Nat.le_refl _) _).alloc (by simp) _
  have B0 := Lib.hid b0
  clear b0
  go_enter Try.func14, Try.ntmps14
  go_wp2_with fail
  refine (C.out _ (B0.out _ _)).mono ?_
  rintro e w1 ⟨rfl, q, rfl⟩
  go_wp2
  go_ret
  exact ⟨rfl, below_drewN (B0.out _ _) q⟩

/-- The n cells of a slice are there and may be written. -/
def Mine (w : World) (a : Option Addr) (n : Nat) : Prop :=
  n = 0 ∨ ∃ g, a = some ⟨g, 0, none⟩ ∧ g < w.heap.size ∧ (∀ i, i < n → ∃ v, w.cell? ⟨g, i, none⟩ = some v) ∧ ∀ i, w.frozen? ⟨g, i, none⟩ = false
/-- The n cells of a slice hold the numbers from k on. -/
def Marks (w : World) (a : Option Addr) (n : Nat) (k : Int) : Prop :=
  n = 0 ∨ ∃ g, a = some ⟨g, 0, none⟩ ∧ g < w.heap.size ∧ ∀ i : Nat, i < n → w.cell? ⟨g, i, none⟩ = some (.int .i64 (k + i))
def rowOf (a : Option Addr) : Option Nat := a.map Addr.block
def Marked (w : World) (a : Option Addr) (n : Nat) (k : Int) (e : Ending) (w' : World) : Prop :=
  e = .returned (.int .i64 (k + n)) ∧ Marks w' a n k ∧ w.grownBy w' (rowOf a)
theorem Marks.below {w w' : World} {a : Option Addr} {n : Nat} {k : Int} (h : Marks w a n k) (b : Below w.heap.size w w') : Marks w' a n k := by
  rcases h with h | ⟨g, ha, hg, hc⟩
  · exact .inl h
  · exact .inr ⟨g, ha, Nat.lt_of_lt_of_le hg b.size, fun i hi => (b.cell hg).trans (hc i hi)⟩
theorem Mine.below {w w' : World} {a : Option Addr} {n : Nat} (h : Mine w a n) (b : Below w.heap.size w w') : Mine w' a n := by
  rcases h with h | ⟨g, ha, hg, hc, hf⟩
  · exact .inl h
  · exact .inr ⟨g, ha, Nat.lt_of_lt_of_le hg b.size, fun i hi => by obtain ⟨v, hv⟩ := hc i hi; exact ⟨v, (b.cell hg).trans hv⟩, fun i => (b.frozen hg).trans (hf i)⟩
theorem grown_of_below {w w' : World} (b : Below w.heap.size w w') (r : Option Nat) : w.grownBy w' r := ⟨b.os, b.tape, b.output, b.size, fun k hk _ => b.block k hk⟩
theorem grown_trans {a b c : World} {r : Option Nat} (h : a.grownBy b r) (k : b.grownBy c r) : a.grownBy c r :=
  ⟨k.os.trans h.os, k.tape.trans h.tape, k.output.trans h.output, Nat.le_trans h.size k.size, fun i hi hne => (k.block i (Nat.lt_of_lt_of_le hi h.size) hne).trans (h.block i hi hne)⟩
theorem grown_of_part {w w' : World} {g i : Nat} {f : Nat → Int} (p : Gr.Part .i64 w w' g 0 f i) : w.grownBy w' (some g) :=
  ⟨p.os, p.tape, p.output, p.size, fun c hc hne => p.block c hc (fun e => hne (by rw [e]))⟩

set_option maxRecDepth 100000 in
theorem markInt64S (a : Option Addr) (n cap : Nat) (k : Int) (k0 : 0 ≤ k) (k1 : k ≤ 10000000) (hn : n ≤ 2097152) (w : World) (h : Mine w a n) :
    Calls Try.prog 17 #[.slice a n cap, .int .i64 k] w (Marked w a n k) := by
  by_cases h0 : n = 0
  · subst h0
    have F := Lib.hid (show Marked w a 0 k (.returned (.int .i64 k)) w from ⟨by simp, .inl rfl, grown_of_below (Below.refl _ _) _⟩)
    clear h
    go_enter Try.func17, Try.ntmps17
    go_wp2
    refine wp_loop_rounds 1 ?_
    rw [rounds_succ]
    go_wp2
    go_ret
    exact F.out
  · obtain ⟨g, rfl, hg, hc, hf⟩ := h.resolve_left h0
    have HC := Lib.hid hc
    have HF := Lib.hid hf
    clear hc hf h h0
    go_enter Try.func17, Try.ntmps17
    go_wp2
    go_loopw [1, 5] (fun m i wr => ∃ j : Nat, j ≤ n ∧ i = .int .i64 j ∧ m = .int .i64 (k + j) ∧ Gr.Part .i64 w wr g 0 (fun i => k + i) j) (fun _ i _ => n - (intOf i).toNat)
    case atStart => exact ⟨0, by omega, rfl, by simp, Gr.Part.zero⟩
    case round =>
      obtain ⟨j, hj, rfl, rfl, P⟩ := hrel
      by_cases hlt : j < n
      · obtain ⟨u, c⟩ := HC.out j hlt
        have c' : wr.cell? ⟨g, j, none⟩ = some u := by have := P.out j (.inr (by omega)); rw [this]; exact c
        have f := (P.free j).trans (HF.out j)
        have P2 := P.put (u := u) (by rw [Nat.zero_add]; exact c)
        rw [Nat.zero_add] at P2
        clear P c
        go_wp2
        go_roundw
        case rel => exact ⟨j + 1, by omega, by go_num, by go_num, P2⟩
        case measure => simp [intOf]; omega
      · obtain rfl : j = n := by omega
        have F := Lib.hid (show Marked w (some ⟨g, 0, none⟩) j k (.returned (.int .i64 (k + j))) wr from ⟨rfl, .inr ⟨g, rfl, Nat.lt_of_lt_of_le hg P.size, fun i hi => by have := P.cell i hi; rwa [Nat.zero_add] at this⟩, grown_of_part P⟩)
        clear P
        go_wp2
        go_ret
        exact F.out

set_option maxRecDepth 100000 in
theorem heldInt64S (a : Option Addr) (n cap : Nat) (k : Int) (k0 : 0 ≤ k) (k1 : k ≤ 10000000) (hn : n ≤ 2097152) (w : World) (h : Marks w a n k) :
    Calls Try.prog 46 #[.slice a n cap, .int .i64 k] w fun e w' => e = .returned (.int .i64 (k + n)) ∧ w = w' := by
  by_cases h0 : n = 0
  · subst h0
    have F := Lib.hid (show Ending.returned (.int .i64 k) = .returned (.int .i64 (k + ((0 : Nat) : Int))) from by simp)
    clear h
    go_enter Try.func46, Try.ntmps46
    go_wp2
    refine wp_loop_rounds 1 ?_
    rw [rounds_succ]
    go_wp2
    go_ret
    exact ⟨F.out, rfl⟩
  · obtain ⟨g, rfl, hg, hc⟩ := h.resolve_left h0
    have HC := Lib.hid hc
    clear hc h h0
    go_enter Try.func46, Try.ntmps46
    go_wp2
    go_loop [1, 5] (fun m i => ∃ j : Nat, j ≤ n ∧ i = .int .i64 j ∧ m = .int .i64 (k + j)) (fun _ i => n - (intOf i).toNat)
    case atStart => exact ⟨0, by omega, rfl, by simp⟩
    case round =>
      obtain ⟨j, hj, rfl, rfl⟩ := hrel
      by_cases hlt : j < n
      · have c := HC.out j hlt
        go_wp2
        go_round
        case rel => exact ⟨j + 1, by omega, by go_num, by go_num⟩
        case measure => simp [intOf]; omega
      · obtain rfl : j = n := by omega
        go_wp2
        go_ret
        exact ⟨rfl, rfl⟩

set_option maxRecDepth 100000 in
theorem markMatrix (h wd : Int) (a : Option Addr) (n cap : Nat) (k : Int) (k0 : 0 ≤ k) (k1 : k ≤ 10000000) (hn : n ≤ 2097152) (w : World) (hm : Mine w a n) :
    Calls Try.prog 16 #[mval h wd (.slice a n cap), .int .i64 k] w (Marked w a n k) := by
  have b0 : ∀ x, Below w.heap.size w (w.alloc x) := fun x => (Below.refl _ _).alloc (Nat.le_refl _) _
  have C := Lib.hid (fun x => markInt64S a n cap k k0 k1 hn (w.alloc x) (hm.below (b0 x)))
  have G := Lib.hid (fun x r => grown_of_below (b0 x) r)
  clear hm b0
  go_enter Try.func16, Try.ntmps16
  go_wp2_with fail
  refine (C.out _).mono ?_
  rintro e w1 ⟨rfl, M, g1⟩
  have F := Lib.hid (show Marked w a n k (.returned (.int .i64 (k + n))) w1 from ⟨rfl, M, grown_trans (G.out _ _) g1⟩)
  clear M g1
  go_wp2
  go_ret
  exact F.out

set_option maxRecDepth 100000 in
theorem heldMatrix (h wd : Int) (a : Option Addr) (n cap : Nat) (k : Int) (k0 : 0 ≤ k) (k1 : k ≤ 10000000) (hn : n ≤ 2097152) (w : World) (hm : Marks w a n k) :
    Calls Try.prog 18 #[mval h wd (.slice a n cap), .int .i64 k] w (IntB (k + n) w) := by
  have b0 : ∀ x, Below w.heap.size w (w.alloc x) := fun x => (Below.refl _ _).alloc (Nat.le_refl _) _
  have C := Lib.hid (fun x => heldInt64S a n cap k k0 k1 hn (w.alloc x) (hm.below (b0 x)))
  have B0 := Lib.hid b0
  clear hm b0
  go_enter Try.func18, Try.ntmps18
  go_wp2_with fail
  refine (C.out _).mono ?_
  rintro e w1 ⟨rfl, rfl⟩
  go_wp2
  go_ret
  exact ⟨rfl, B0.out _⟩
end Go.Proofs.Ytbnjgehgaellmaa.Ml
