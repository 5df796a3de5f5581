/-
  Slices of buckets (two numbers and a list of numbers): one that came in, and the laws' measure of it.
-/
import Derived.Test.YtigaoimnhebegaaDevS
import Derived.Test.YtigaoimnhebegaaInts
import Derived.Test.YtigaoimnhebegaaMatLaw
import Derived.OwnWalk
import Derived.Laws.MakeOwn
namespace Go.Proofs.Ytigaoimnhebegaa.Bk
open Go.RowKit Go.Proofs.Ytigaoimnhebegaa.It Go.Proofs.Ytigaoimnhebegaa.MixC
set_option linter.unusedVariables false

/-- The n buckets of a slice, nil or not. -/
def Bks (w : World) (a : Option Addr) (n : Nat) (f g : Nat → Int) (I : Nat → Option Addr) (L : Nat → List Int) (C : Nat → Nat) : Prop :=
  n = 0 ∨ ∃ b off, a = some ⟨b, off, none⟩ ∧ b < w.heap.size ∧ ∀ i, i < n → w.cell? ⟨b, off + i * 3, none⟩ = some (.int .i64 (f i)) ∧ w.cell? ⟨b, off + i * 3 + 1, none⟩ = some (.int .i64 (g i)) ∧
    w.cell? ⟨b, off + i * 3 + 2, none⟩ = some (.slice (I i) (L i).length (C i)) ∧ Words w (I i) (L i)
theorem Bks.below {w w' : World} {a : Option Addr} {n : Nat} {f g : Nat → Int} {I : Nat → Option Addr} {L : Nat → List Int} {C : Nat → Nat} (h : Bks w a n f g I L C) (hb : Below w.heap.size w w') : Bks w' a n f g I L C := by
  rcases h with h | ⟨b, off, rfl, hB, hc⟩
  · exact .inl h
  · exact .inr ⟨b, off, rfl, Nat.lt_of_lt_of_le hB hb.size, fun i hi => ⟨(hb.cell (p := ⟨b, off + i * 3, none⟩) hB).trans (hc i hi).1, (hb.cell (p := ⟨b, off + i * 3 + 1, none⟩) hB).trans (hc i hi).2.1,
      (hb.cell (p := ⟨b, off + i * 3 + 2, none⟩) hB).trans (hc i hi).2.2.1, (hc i hi).2.2.2.below hb⟩⟩
abbrev bval (x y : Int) (s : Value) : Value := .agg #[.int .i64 x, .int .i64 y, s]

theorem szInt64S (a : Option Addr) (len cap : Nat) (left : Int) (hl : len ≤ 9223372036854775807) (l0 : 0 ≤ left) (l1 : left ≤ 2097152) (w : World) :
    Calls Try.prog 73 #[.slice a len cap, .int .i64 left] w fun e w' => e = .returned (.int .i64 (if (len : Int) ≤ left then left - len else -1)) ∧ w = w' := by
  by_cases h : (len : Int) ≤ left
  · rw [if_pos h]
    go_enter Try.func73, Try.ntmps73
    go_wp2
    go_ret
    exact ⟨rfl, rfl⟩
  · rw [if_neg h]
    go_enter Try.func73, Try.ntmps73
    go_wp2
    go_ret
    exact ⟨rfl, rfl⟩

set_option maxRecDepth 100000 in
theorem szBucket (x y : Int) (a : Option Addr) (len cap : Nat) (left : Int) (hl : len ≤ 9223372036854775807) (l0 : 0 ≤ left) (l1 : left ≤ 2097152) (w : World) :
    Calls Try.prog 117 #[bval x y (.slice a len cap), .int .i64 left] w fun e w' => e = .returned (.int .i64 (if (len : Int) ≤ left then left - len else -1)) ∧ Below w.heap.size w w' := by
  have Z := fun w' => szInt64S a len cap left hl l0 l1 w'
  by_cases h : (len : Int) ≤ left
  · simp only [if_pos h] at Z ⊢
    have Z := Lib.hid Z
    have h0 : 0 ≤ left - (len : Int) := by omega
    go_enter Try.func117, Try.ntmps117
    go_wp2_with fail
    refine (Z.out _).mono ?_
    rintro e w1 ⟨rfl, rfl⟩
    go_wp2
    go_ret
    exact ⟨rfl, lay _ _⟩
  · simp only [if_neg h] at Z ⊢
    have Z := Lib.hid Z
    go_enter Try.func117, Try.ntmps117
    go_wp2_with fail
    refine (Z.out _).mono ?_
    rintro e w1 ⟨rfl, rfl⟩
    go_wp2
    go_ret
    exact ⟨rfl, lay _ _⟩

/-- How much the measure has taken after k buckets. -/
def totB (n : Nat) (L : Nat → List Int) : Nat → Nat
  | 0 => n
  | k + 1 => totB n L k + (L k).length
theorem totB_mono (n : Nat) (L : Nat → List Int) {i : Nat} : ∀ {j : Nat}, i ≤ j → totB n L i ≤ totB n L j
  | 0, h => by obtain rfl : i = 0 := by omega
               exact Nat.le_refl _
  | j + 1, h => by
    by_cases e : i = j + 1
    · rw [e]; exact Nat.le_refl _
    · have := totB_mono n L (i := i) (j := j) (by omega); have e1 : totB n L (j + 1) = totB n L j + (L j).length := rfl; omega

set_option maxRecDepth 100000 in
theorem szBucketS (a : Option Addr) (n cap : Nat) (f g : Nat → Int) (I : Nat → Option Addr) (L : Nat → List Int) (C : Nat → Nat) (left : Int) (hl : n ≤ 9223372036854775807) (hL : ∀ i, i < n → (L i).length ≤ 9223372036854775807) (l0 : 0 ≤ left) (l1 : left ≤ 2097152) (w : World) (hs : Bks w a n f g I L C) :
    Calls Try.prog 53 #[.slice a n cap, .int .i64 left] w fun e w' => e = .returned (.int .i64 (if (totB n L n : Int) ≤ left then left - totB n L n else -1)) ∧ Below w.heap.size w w' := by
  have T0 : totB n L 0 = n := rfl
  by_cases h0 : (n : Int) ≤ left
  · have T0 := Lib.hid T0
    go_enter Try.func53, Try.ntmps53
    go_wp2
    go_loopw [1, 5] (fun x i wr => ∃ k : Nat, k ≤ n ∧ i = .int .i64 k ∧ (totB n L k : Int) ≤ left ∧ x = .int .i64 (left - totB n L k) ∧ Below w.heap.size w wr) (fun _ i _ => n - (intOf i).toNat)
    case atStart => exact ⟨0, by omega, rfl, by rw [T0.out]; exact h0, by rw [T0.out], Below.refl _ _⟩
    case round =>
      obtain ⟨k, hk, rfl, hle, rfl, hw⟩ := hrel
      have HW := Lib.hid hw
      by_cases hlt : k < n
      · have hs1 := hs.below hw
        obtain ⟨b, off, rfl, hB, hc⟩ := hs1.resolve_left (by omega)
        obtain ⟨c0, c1, c2, -⟩ := hc k hlt
        have z := hL k hlt
        have TS : totB n L (k + 1) = totB n L k + (L k).length := rfl
        have TS := Lib.hid TS
        have TM := Lib.hid (totB_mono n L (show k + 1 ≤ n by omega))
        have lk : left - (totB n L k : Int) ≤ 2097152 := by omega
        have lk0 : 0 ≤ left - (totB n L k : Int) := by omega
        have Z := szBucket (f k) (g k) (I k) (L k).length (C k) (left - totB n L k) z lk0 lk wr
        generalize f k = x at *
        generalize g k = y at *
        generalize I k = ik at *
        generalize C k = ck at *
        generalize (L k).length = s at *
        clear hc hs1 hw
        by_cases hq : ((totB n L k + s : Nat) : Int) ≤ left
        · rw [if_pos (by omega)] at Z
          have Z := Lib.hid Z
          go_wp2_with fail
          refine Z.out.mono ?_
          rintro e w2 ⟨rfl, b2⟩
          have B2 := Lib.hid (chain HW.out b2)
          clear b2
          go_wp2
          go_roundw
          case rel => exact ⟨k + 1, by omega, by go_num, by rw [TS.out]; exact hq, by rw [TS.out]; go_num, B2.out⟩
          case measure => simp [intOf]; omega
        · rw [if_neg (by omega)] at Z
          have Z := Lib.hid Z
          have R : (if (totB n L n : Int) ≤ left then left - totB n L n else -1) = -1 := by rw [if_neg]; have := TM.out; have := TS.out; omega
          have R := Lib.hid R
          go_wp2_with fail
          refine Z.out.mono ?_
          rintro e w2 ⟨rfl, b2⟩
          have B2 := Lib.hid (chain HW.out b2)
          clear b2
          go_wp2
          go_ret
          exact ⟨rfl, B2.out⟩
      · obtain rfl : k = n := by omega
        have R : (if (totB k L k : Int) ≤ left then left - totB k L k else -1) = left - totB k L k := if_pos hle
        have R := Lib.hid R
        clear hs hw
        go_wp2
        go_ret
        exact ⟨rfl, HW.out⟩
  · have R : (if (totB n L n : Int) ≤ left then left - totB n L n else -1) = -1 := by rw [if_neg]; have := totB_mono n L (Nat.zero_le n); omega
    rw [R]
    clear R hs
    go_enter Try.func53, Try.ntmps53
    go_wp2
    go_ret
    exact ⟨rfl, Below.refl _ _⟩

/-- What a new bucket is. -/
def BktB (x y : Int) (zs : List Int) (w : World) (e : Ending) (w' : World) : Prop := ∃ q, e = .returned (bval x y (.slice (some ⟨q, 0, none⟩) zs.length zs.length)) ∧ Copied w w' q zs
end Go.Proofs.Ytigaoimnhebegaa.Bk

/-
  A bucket copied and compared by the laws' own helpers.
-/
namespace Go.Proofs.Ytigaoimnhebegaa.Bk
open Go.RowKit Go.Proofs.Ytigaoimnhebegaa.At Go.Proofs.Ytigaoimnhebegaa.MixC Go.Proofs.Ytigaoimnhebegaa.Ml
set_option linter.unusedVariables false

set_option maxRecDepth 100000 in
theorem toBucket (h wd : Int) (a : Option Addr) (cap : Nat) (zs : List Int) (w : World) (hl : zs.length ≤ 2097152) (hc : Words w a zs) :
    Calls Try.prog 124 #[mval h wd (.slice a zs.length cap)] w (MatCopy h wd zs w) := by
  obtain ⟨n, hn⟩ : ∃ n, n = zs.length := ⟨_, rfl⟩
  have hc2 : ∀ w', Below w.heap.size w w' → Words w' a zs := fun w' b => hc.below b
  have HC := Lib.hid hc2
  clear hc2 hc
  have C := Lib.hid (fun w' (b : Below w.heap.size w w') => toInt64S a cap zs w' hl (HC.out w' b))
  have FIN : ∀ g e w', e = Ending.returned (mval h wd (.slice (some ⟨g, 0, none⟩) n n)) → Copied w w' g zs → MatCopy h wd zs w e w' := by
    intro g e w' h1 h2; rw [hn] at h1; exact ⟨g, h1, h2⟩
  have FIN := Lib.hid FIN
  rw [← hn] at C ⊢
  have HN := Lib.hid hn
  clear HC hn
  go_enter Try.func124, Try.ntmps124
  go_wp2_with fail
  have b0 : Below w.heap.size w (((w.alloc (Obj.cells #[Value.int IntKind.i64 h, Value.int IntKind.i64 wd, Value.slice a n cap] 163)).alloc (Obj.cells #[Value.int IntKind.i64 0, Value.int IntKind.i64 0, Value.slice none 0 0] 165)).alloc (Obj.cells #[Value.int IntKind.i64 h, Value.int IntKind.i64 wd, Value.slice none 0 0] 165)) :=
    (((Below.refl _ _).alloc (Nat.le_refl _) _).alloc (by simp) _).alloc (by simp; omega) _
  refine (C.out _ b0).mono ?_
  rintro e w1 ⟨g, rfl, K⟩
  have r1 := box3 K.below
  have r2 := box3' K.below
  have kn := K.new
  simp only [World.size_alloc] at r1 r2 kn
  obtain ⟨c0, c1, c2, f0, f1, f2⟩ := r1
  obtain ⟨d0, d1, d2, k0, k1, k2⟩ := r2
  have K' := Lib.hid (cfrom K b0)
  have HN2 := Lib.hid HN.out.symm
  rw [HN2.out]
  clear K b0
  go_wp2
  refine bodyPost_ret (v := mval h wd (.slice (some ⟨g, 0, none⟩) n n)) (by simp [results, Try.results124, go_sem, *]) rfl (FIN.out g _ _ rfl ?_)
  exact cset (cset (cset (cset K'.out (by show w.heap.size + 1 + 1 ≠ g; omega) (by show _ ≤ w.heap.size + 1 + 1; omega) _) (by show w.heap.size + 1 ≠ g; omega) (by show _ ≤ w.heap.size + 1; omega) _) (by show w.heap.size + 1 ≠ g; omega) (by show _ ≤ w.heap.size + 1; omega) _) (by show w.heap.size + 1 ≠ g; omega) (by show _ ≤ w.heap.size + 1; omega) _


set_option maxRecDepth 100000 in
theorem eqBucket (h wd : Int) (a b : Option Addr) (cap1 cap2 : Nat) (zs : List Int) (w : World) (hl : zs.length ≤ 2097152) (ha : Words w a zs) (hb : Words w b zs) :
    Calls Try.prog 128 #[mval h wd (.slice a zs.length cap1), mval h wd (.slice b zs.length cap2)] w (TrueB w) := by
  have C := Lib.hid (fun w' (x : Below w.heap.size w w') => eqInt64S a b cap1 cap2 zs w' hl (ha.below x) (hb.below x))
  obtain ⟨n, hn⟩ : ∃ n, n = zs.length := ⟨_, rfl⟩
  rw [← hn] at C ⊢
  clear ha hb hn hl
  have b0 : ∀ x y, Below w.heap.size w ((w.alloc x).alloc y) := fun x y => ((Below.refl _ _).alloc (Nat.le_refl _) _).alloc (by simp) _
  have B0 := Lib.hid b0
  clear b0
  go_enter Try.func128, Try.ntmps128
  go_wp2_with fail
  refine (C.out _ (B0.out _ _)).mono ?_
  rintro e w1 ⟨rfl, q, rfl⟩
  go_wp2
  go_ret
  exact ⟨rfl, below_drewN (B0.out _ _) q⟩

end Go.Proofs.Ytigaoimnhebegaa.Bk

/-
  Slices of buckets copied by the laws' own helper.
-/
namespace Go.Proofs.Ytigaoimnhebegaa.Bk
open Go.RowKit Go.Proofs.Ytigaoimnhebegaa.At Go.Proofs.Ytigaoimnhebegaa.MixC Go.Proofs.Ytigaoimnhebegaa.Ml
open Go.Proofs.Ytigaoimnhebegaa.It (lay)
set_option linter.unusedVariables false

theorem infoB : (Try.prog.info? 165).map (fun i => (i.zero, i.size, i.bytes)) = some (some (.agg #[.int .i64 0, .int .i64 0, .slice none 0 0]), 3, 40) := by kernel_rfl
theorem words_set {w : World} {j : Nat} {zs : List Int} {p : Addr} (h : Words w (some ⟨j, 0, none⟩) zs) (hp : p.block ≠ j) (v : Value) : Words (w.setCell p v) (some ⟨j, 0, none⟩) zs := by
  rcases h with h | ⟨b, off, e, hB, hc⟩
  · exact .inl h
  · simp only [Option.some.injEq, Addr.mk.injEq, and_true] at e
    obtain ⟨rfl, rfl⟩ := e
    exact .inr ⟨_, _, rfl, by simpa using hB, fun i hi => (World.cell?_setCell_other _ _ _ _ (fun q => hp (congrArg Addr.block q))).trans (hc i hi)⟩

/-- After k rounds of a copy into block q of n buckets. -/
structure RndB (w wr : World) (q n k : Nat) (f g : Nat → Int) (L : Nat → List Int) (J : Nat → Nat) : Prop where
  new : w.heap.size ≤ q
  lt : q < wr.heap.size
  asc : ∀ i i', i < i' → i' < k → J i < J i'
  cells : ∀ i, i < k → wr.cell? ⟨q, 0 + i * 3, none⟩ = some (.int .i64 (f i)) ∧ wr.cell? ⟨q, 0 + i * 3 + 1, none⟩ = some (.int .i64 (g i)) ∧
    wr.cell? ⟨q, 0 + i * 3 + 2, none⟩ = some (.slice (some ⟨J i, 0, none⟩) (L i).length (L i).length) ∧ q < J i ∧ J i < wr.heap.size ∧ Words wr (some ⟨J i, 0, none⟩) (L i) ∧ ∀ o, wr.frozen? ⟨J i, o, none⟩ = false
  there : ∀ i, i < n * 3 → ∃ u, wr.cell? ⟨q, i, none⟩ = some u
  free : ∀ i, wr.frozen? ⟨q, i, none⟩ = false
  below : Below w.heap.size w wr
theorem RndB.made {w w1 : World} {E : TypeId} {n : Nat} {xs : List Value} (h : w1.ownsRow w.heap.size E 3 (.slice (some ⟨w.heap.size, 0, none⟩) n n) n xs) (f g : Nat → Int) (L : Nat → List Int) (b : Below w.heap.size w w1) : RndB w w1 w.heap.size n 0 f g L (fun _ => 0) :=
  ⟨Nat.le_refl _, (h.lt _ rfl).2, fun i i' _ hi => absurd hi (Nat.not_lt_zero _), fun i hi => absurd hi (Nat.not_lt_zero _), fun i hi => by have hl := h.1; exact ⟨xs[i]'(by omega), (h.cellAt i hi).trans (List.getElem?_eq_getElem (by omega))⟩, fun i => h.frozenAt i, b⟩
theorem RndB.later {w wr w' : World} {q n k : Nat} {f g : Nat → Int} {L : Nat → List Int} {J : Nat → Nat} (h : RndB w wr q n k f g L J) (b : Below wr.heap.size wr w') : RndB w w' q n k f g L J := by
  have hJ := h.cells
  have hn := h.new
  have hl := h.lt
  refine ⟨h.new, Nat.lt_of_lt_of_le h.lt b.size, h.asc, fun i hi => ?_, fun i hi => ?_, fun i => (b.frozen (p := ⟨q, i, none⟩) h.lt).trans (h.free i), h.below.trans (b.mono (by omega))⟩
  · obtain ⟨c0, c1, c2, j0, j1, wd, fr⟩ := hJ i hi
    exact ⟨(b.cell (p := ⟨q, 0 + i * 3, none⟩) hl).trans c0, (b.cell (p := ⟨q, 0 + i * 3 + 1, none⟩) hl).trans c1, (b.cell (p := ⟨q, 0 + i * 3 + 2, none⟩) hl).trans c2, j0, Nat.lt_of_lt_of_le j1 b.size, wd.below b, fun o => (b.frozen (p := ⟨J i, o, none⟩) j1).trans (fr o)⟩
  · obtain ⟨u, hu⟩ := h.there i hi
    exact ⟨u, (b.cell (p := ⟨q, i, none⟩) hl).trans hu⟩
theorem RndB.put {w wr : World} {q n k j : Nat} {f g : Nat → Int} {L : Nat → List Int} {J : Nat → Nat} (h : RndB w wr q n k f g L J) (hk : k < n) (ha : ∀ i, i < k → J i < j) (j0 : q < j) (j1 : j < wr.heap.size) (wj : Words wr (some ⟨j, 0, none⟩) (L k)) (fj : ∀ o, wr.frozen? ⟨j, o, none⟩ = false) :
    RndB w (((wr.setCell ⟨q, k * 3, none⟩ (.int .i64 (f k))).setCell ⟨q, k * 3 + 1, none⟩ (.int .i64 (g k))).setCell ⟨q, k * 3 + 2, none⟩ (.slice (some ⟨j, 0, none⟩) (L k).length (L k).length)) q n (k + 1) f g L (fun i => if i = k then j else J i) := by
  have hJ := h.cells
  have far : ∀ o, o ≠ k * 3 → o ≠ k * 3 + 1 → o ≠ k * 3 + 2 → (((wr.setCell ⟨q, k * 3, none⟩ (.int .i64 (f k))).setCell ⟨q, k * 3 + 1, none⟩ (.int .i64 (g k))).setCell ⟨q, k * 3 + 2, none⟩ (.slice (some ⟨j, 0, none⟩) (L k).length (L k).length)).cell? ⟨q, o, none⟩ = wr.cell? ⟨q, o, none⟩ := fun o h1 h2 h3 =>
    ((World.cell?_setCell_other _ _ _ _ (fun e => h3 (congrArg Addr.off e).symm)).trans (World.cell?_setCell_other _ _ _ _ (fun e => h2 (congrArg Addr.off e).symm))).trans (World.cell?_setCell_other _ _ _ _ (fun e => h1 (congrArg Addr.off e).symm))
  obtain ⟨u0, e0⟩ := h.there (k * 3) (by omega)
  obtain ⟨u1, e1⟩ := h.there (k * 3 + 1) (by omega)
  obtain ⟨u2, e2⟩ := h.there (k * 3 + 2) (by omega)
  have d0 := ((World.cell?_setCell_other ((wr.setCell ⟨q, k * 3, none⟩ (.int .i64 (f k))).setCell ⟨q, k * 3 + 1, none⟩ (.int .i64 (g k))) ⟨q, k * 3 + 2, none⟩ ⟨q, k * 3, none⟩ (.slice (some ⟨j, 0, none⟩) (L k).length (L k).length) (by simp)).trans (World.cell?_setCell_other (wr.setCell ⟨q, k * 3, none⟩ (.int .i64 (f k))) ⟨q, k * 3 + 1, none⟩ ⟨q, k * 3, none⟩ (.int .i64 (g k)) (by simp))).trans (World.cell?_setCell_same wr ⟨q, k * 3, none⟩ (.int .i64 (f k)) e0)
  have d1 := (World.cell?_setCell_other ((wr.setCell ⟨q, k * 3, none⟩ (.int .i64 (f k))).setCell ⟨q, k * 3 + 1, none⟩ (.int .i64 (g k))) ⟨q, k * 3 + 2, none⟩ ⟨q, k * 3 + 1, none⟩ (.slice (some ⟨j, 0, none⟩) (L k).length (L k).length) (by simp)).trans (World.cell?_setCell_same (wr.setCell ⟨q, k * 3, none⟩ (.int .i64 (f k))) ⟨q, k * 3 + 1, none⟩ (.int .i64 (g k)) ((World.cell?_setCell_other _ _ _ _ (by simp)).trans e1))
  have d2 := World.cell?_setCell_same ((wr.setCell ⟨q, k * 3, none⟩ (.int .i64 (f k))).setCell ⟨q, k * 3 + 1, none⟩ (.int .i64 (g k))) ⟨q, k * 3 + 2, none⟩ (.slice (some ⟨j, 0, none⟩) (L k).length (L k).length) ((World.cell?_setCell_other _ _ _ _ (by simp)).trans ((World.cell?_setCell_other _ _ _ _ (by simp)).trans e2))
  have ws : ∀ i zs, i ≠ q → Words wr (some ⟨i, 0, none⟩) zs → Words (((wr.setCell ⟨q, k * 3, none⟩ (.int .i64 (f k))).setCell ⟨q, k * 3 + 1, none⟩ (.int .i64 (g k))).setCell ⟨q, k * 3 + 2, none⟩ (.slice (some ⟨j, 0, none⟩) (L k).length (L k).length)) (some ⟨i, 0, none⟩) zs := fun i zs hi hw =>
    words_set (words_set (words_set hw (fun e => hi e.symm) _) (fun e => hi e.symm) _) (fun e => hi e.symm) _
  refine ⟨h.new, by simpa using h.lt, fun i i' hi hi' => ?_, fun i hi => ?_, fun i hi => ?_, fun i => ?_, ((h.below.setCell (by exact h.new) _).setCell (by exact h.new) _).setCell (by exact h.new) _⟩
  · show (if i = k then j else J i) < (if i' = k then j else J i')
    rw [if_neg (show ¬ i = k by omega)]
    by_cases e : i' = k
    · rw [if_pos e]; exact ha i (by omega)
    · rw [if_neg e]; exact h.asc i i' hi (by omega)
  · by_cases e : i = k
    · subst e; (try dsimp only); rw [Nat.zero_add, if_pos rfl]; exact ⟨d0, d1, d2, j0, by simpa using j1, ws _ _ (by omega) wj, fun o => by rw [World.frozen?_setCell, World.frozen?_setCell, World.frozen?_setCell]; exact fj o⟩
    · obtain ⟨c0, c1, c2, x0, x1, wd, fr⟩ := hJ i (by omega)
      (try dsimp only)
      rw [if_neg e]
      exact ⟨(far _ (by omega) (by omega) (by omega)).trans c0, (far _ (by omega) (by omega) (by omega)).trans c1, (far _ (by omega) (by omega) (by omega)).trans c2, x0, by simpa using x1, ws _ _ (by omega) wd, fun o => by rw [World.frozen?_setCell, World.frozen?_setCell, World.frozen?_setCell]; exact fr o⟩
  · by_cases q0 : i = k * 3
    · subst q0; exact ⟨_, d0⟩
    · by_cases q1 : i = k * 3 + 1
      · subst q1; exact ⟨_, d1⟩
      · by_cases q2 : i = k * 3 + 2
        · subst q2; exact ⟨_, d2⟩
        · obtain ⟨u, hu⟩ := h.there i hi; exact ⟨u, (far _ q0 q1 q2).trans hu⟩
  · rw [World.frozen?_setCell, World.frozen?_setCell, World.frozen?_setCell]; exact h.free i
/-- A copy made after world w. -/
def SliceOfB (n : Nat) (f g : Nat → Int) (L : Nat → List Int) (w : World) (e : Ending) (w' : World) : Prop := ∃ q J, e = .returned (.slice (some ⟨q, 0, none⟩) n n) ∧ RndB w w' q n n f g L J
theorem RndB.bks {w w' : World} {q n : Nat} {f g : Nat → Int} {L : Nat → List Int} {J : Nat → Nat} (h : RndB w w' q n n f g L J) : ∃ I, Bks w' (some ⟨q, 0, none⟩) n f g I L (fun i => (L i).length) := by
  have hJ := h.cells
  exact ⟨fun i => some ⟨J i, 0, none⟩, .inr ⟨q, 0, rfl, h.lt, fun i hi => ⟨(hJ i hi).1, (hJ i hi).2.1, (hJ i hi).2.2.1, (hJ i hi).2.2.2.2.2.1⟩⟩⟩
end Go.Proofs.Ytigaoimnhebegaa.Bk

/-
  Slices of buckets copied by the laws' own helper: the walk.
-/
namespace Go.Proofs.Ytigaoimnhebegaa.Bk
open Go.RowKit Go.Proofs.Ytigaoimnhebegaa.At Go.Proofs.Ytigaoimnhebegaa.MixC Go.Proofs.Ytigaoimnhebegaa.Ml
open Go.Proofs.Ytigaoimnhebegaa.It (lay)
set_option linter.unusedVariables false

set_option maxRecDepth 100000 in
theorem toBucketS (a : Option Addr) (cap n : Nat) (f g : Nat → Int) (I : Nat → Option Addr) (L : Nat → List Int) (C : Nat → Nat) (w : World) (hl : n ≤ 2097152) (hL : ∀ i, i < n → (L i).length ≤ 2097152) (hc : Bks w a n f g I L C) :
    Calls Try.prog 57 #[.slice a n cap] w (SliceOfB n f g L w) := by
  obtain ⟨i0, hi, hz0, hz1, hz2⟩ := info_parts infoB
  go_enter Try.func57, Try.ntmps57
  go_wp2_with (at_make; refine wpList_make_full _ rfl _ _ 31 rfl w.heap.size 165 i0 (.agg #[.int .i64 0, .int .i64 0, .slice none 0 0]) 3 Try.underlying31 hi hz0 hz1 .i64 .i64 n n n rfl rfl rfl rfl (by rw [hz2]; omega) (by unfold maxLen; omega) (Nat.le_refl _) ?_; intro w1 hown1 hgrow1)
  have R1 := RndB.made hown1 f g L ((Below.refl _ _).grown hgrow1 (Nat.le_refl _) (by intro k hk; cases hk))
  clear hown1 hgrow1
  go_loopw [4] (fun i wr => ∃ (k : Nat) (J : Nat → Nat), k ≤ n ∧ i = .int .i64 k ∧ RndB w wr w.heap.size n k f g L J) (fun i _ => n - (intOf i).toNat)
  case atStart => exact ⟨0, _, by omega, rfl, R1⟩
  case round =>
    obtain ⟨k, J, hk, rfl, R⟩ := hrel
    clear R1
    by_cases hlt : k < n
    · have hc1 := hc.below R.below
      obtain ⟨b, off, rfl, hB, hcc⟩ := hc1.resolve_left (by omega)
      obtain ⟨c0, c1, c2, wd⟩ := hcc k hlt
      have T := Lib.hid (toBucket (f k) (g k) (I k) (C k) (L k) wr (hL k hlt) wd)
      have RH := Lib.hid R
      have PUT := Lib.hid (fun w2 j (b2 : Below wr.heap.size wr w2) (x : wr.heap.size ≤ j) (y : j < w2.heap.size) (z : Words w2 (some ⟨j, 0, none⟩) (L k)) (fz : ∀ o, w2.frozen? ⟨j, o, none⟩ = false) => (RH.out.later b2).put hlt (fun i hi => Nat.lt_of_lt_of_le (RH.out.cells i hi).2.2.2.2.1 x) (Nat.lt_of_lt_of_le RH.out.lt x) y z fz)
      clear hcc hc hc1 R wd
      generalize f k = x at *
      generalize g k = y at *
      generalize L k = zs at *
      generalize I k = ik at *
      generalize C k = ck at *
      go_wp2_with fail
      refine T.out.mono ?_
      rintro e w2 ⟨j, rfl, K⟩
      have R2 := RH.out.later K.below
      obtain ⟨u0, d0⟩ := R2.there (k * 3) (by omega)
      obtain ⟨u1, d1⟩ := R2.there (k * 3 + 1) (by omega)
      obtain ⟨u2, d2⟩ := R2.there (k * 3 + 2) (by omega)
      have f0 := R2.free (k * 3)
      have f1 := R2.free (k * 3 + 1)
      have f2 := R2.free (k * 3 + 2)
      have R3 := Lib.hid (PUT.out w2 j K.below K.new K.lt K.words K.free)
      clear R2 RH K c0 c1 c2 PUT
      go_wp2
      go_roundw
      case rel => exact ⟨k + 1, _, by omega, by go_num, R3.out⟩
      case measure => simp [intOf]; omega
    · obtain rfl : k = n := by omega
      have F := Lib.hid (show SliceOfB k f g L w (.returned (.slice (some ⟨w.heap.size, 0, none⟩) k k)) wr from ⟨_, _, rfl, R⟩)
      clear R
      go_wp2
      go_ret
      exact F.out
end Go.Proofs.Ytigaoimnhebegaa.Bk

/-
  Slices of buckets compared by the laws' own helper.
-/
namespace Go.Proofs.Ytigaoimnhebegaa.Bk
open Go.RowKit Go.Proofs.Ytigaoimnhebegaa.At Go.Proofs.Ytigaoimnhebegaa.MixC Go.Proofs.Ytigaoimnhebegaa.Ml
open Go.Proofs.Ytigaoimnhebegaa.It (lay)
set_option linter.unusedVariables false

theorem drewB {V w1 : World} (h : Below V.drew.heap.size V.drew w1) : Below V.heap.size V w1 := ⟨h.os, h.tape, h.output, h.size, h.block⟩
set_option maxRecDepth 100000 in
set_option maxHeartbeats 2000000 in
theorem eqBucketS (a b : Option Addr) (cap1 cap2 n : Nat) (f g : Nat → Int) (I1 I2 : Nat → Option Addr) (L : Nat → List Int) (C1 C2 : Nat → Nat) (w : World) (hl : n ≤ 2097152) (hL : ∀ i, i < n → (L i).length ≤ 2097152) (ha : Bks w a n f g I1 L C1) (hb : Bks w b n f g I2 L C2) :
    Calls Try.prog 60 #[.slice a n cap1, .slice b n cap2] w (TrueB w) := by
  go_enter Try.func60, Try.ntmps60
  go_wp2
  go_loopw [5] (fun i wr => ∃ k : Nat, k ≤ n ∧ i = .int .i64 k ∧ Below w.heap.size w wr) (fun i _ => n - (intOf i).toNat)
  case atStart => exact ⟨0, by omega, rfl, Below.refl _ _⟩
  case round =>
    obtain ⟨k, hk, rfl, hw⟩ := hrel
    by_cases hlt : k < n
    · have ha1 := ha.below hw
      have hb1 := hb.below hw
      obtain ⟨b1, o1, rfl, _, c1⟩ := ha1.resolve_left (by omega)
      obtain ⟨b2, o2, rfl, _, c2⟩ := hb1.resolve_left (by omega)
      obtain ⟨d0, d1, d2, wd⟩ := c1 k hlt
      obtain ⟨e0, e1, e2, we⟩ := c2 k hlt
      have T := Lib.hid (fun w' (x : Below wr.heap.size wr w') => eqBucket (f k) (g k) (I1 k) (I2 k) (C1 k) (C2 k) (L k) w' (hL k hlt) (wd.below x) (we.below x))
      have HW := Lib.hid hw
      generalize f k = x at *
      generalize g k = y at *
      generalize I1 k = i1 at *
      generalize I2 k = i2 at *
      generalize C1 k = k1 at *
      generalize C2 k = k2 at *
      generalize (L k).length = zs at *
      clear hw c1 c2 ha hb ha1 hb1 wd we
      go_wp2
      go_region_with (go_at_call 128; refine (T.out _ (drewB (Below.refl _ _))).mono ?_; rintro e w2 ⟨rfl, b2⟩; have B2 := Lib.hid (HW.out.trans ((drewB b2).mono HW.out.size)))
      all_goals
        go_wp2
        go_roundw
        case rel => exact ⟨k + 1, by omega, by go_num, B2.out⟩
        case measure => simp [intOf]; omega
    · obtain rfl : k = n := by omega
      have HW := Lib.hid hw
      clear hw
      go_wp2
      go_ret
      exact ⟨rfl, HW.out⟩
end Go.Proofs.Ytigaoimnhebegaa.Bk
