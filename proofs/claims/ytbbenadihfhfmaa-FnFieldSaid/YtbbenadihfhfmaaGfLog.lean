/-
  What the program's GfLog returns: how often 1 must be doubled until it is the argument.
-/
import Derived.Test.YtbbenadihfhfmaaGfImpl
namespace Go.Proofs.Ytbbenadihfhfmaa.GfI
open Go.RowKit

set_option maxRecDepth 100000 in
theorem eq8 (x0 x1 x2 x3 x4 x5 x6 x7 y0 y1 y2 y3 y4 y5 y6 y7 : Int) (w : World) :
    (Op.equalIn 10000 68 (.agg #[.int .i64 x0, .int .i64 x1, .int .i64 x2, .int .i64 x3, .int .i64 x4, .int .i64 x5, .int .i64 x6, .int .i64 x7])
      (.agg #[.int .i64 y0, .int .i64 y1, .int .i64 y2, .int .i64 y3, .int .i64 y4, .int .i64 y5, .int .i64 y6, .int .i64 y7])).run Try.prog w
      = .ok (x0 == y0 && x1 == y1 && x2 == y2 && x3 == y3 && x4 == y4 && x5 == y5 && x6 == y6 && x7 == y7) w := by
  have hs : ∀ w, (sizeOf 2).run Try.prog w = .ok 1 w := fun w => by kernel_rfl
  unfold Op.equalIn
  simp only [Sem.run_bind, run_underlying Try.underlying68, Result.andThen_ok, hs]
  have hp : ∀ (a0 a1 a2 a3 a4 a5 a6 a7 : Int) (i : Nat) (w : World), i < 8 → (part 2 #[.int .i64 a0, .int .i64 a1, .int .i64 a2, .int .i64 a3, .int .i64 a4, .int .i64 a5, .int .i64 a6, .int .i64 a7] i).run Try.prog w
      = .ok (.int .i64 ([a0, a1, a2, a3, a4, a5, a6, a7].getD i 0)) w := by
    intro a0 a1 a2 a3 a4 a5 a6 a7 i w hi
    have h8 : i = 0 ∨ i = 1 ∨ i = 2 ∨ i = 3 ∨ i = 4 ∨ i = 5 ∨ i = 6 ∨ i = 7 := by omega
    rcases h8 with rfl | rfl | rfl | rfl | rfl | rfl | rfl | rfl <;> (clear hi; rfl)
  rw [Std.Legacy.Range.forIn_eq_forIn_range']
  simp only [Std.Legacy.Range.size]
  simp [List.range', Sem.run_bind, hp, run_equalIn_int w _ _ _ _ _ _ Try.underlying2]
  have it : ∀ (x y : Int) (b : Bool), (if x = y then (Result.ok b w) else Result.ok false w) = Result.ok (x == y && b) w := by
    intro x y b
    by_cases h : x = y
    · rw [if_pos h]; simp [h]
    · rw [if_neg h]; simp [h]
  simp only [it, Bool.and_true, Bool.and_assoc]

theorem ret_two {k l : IntKind} {a b c : Int} (h : a = b) : Ending.returned (.tuple #[.int k a, .int l c]) = .returned (.tuple #[.int k b, .int l c]) := by rw [h]
def logN (a : Int) : Nat := Gf.log a.toNat
theorem logN_at {a : Int} (h0 : 1 ≤ a) (h1 : a ≤ 255) : pwZ 1 (logN a) = a := by
  unfold pwZ logN; have := (Gf.log_spec (a := a.toNat) (by omega) (by omega)).2.1; simp only [Int.toNat_one]; omega
theorem logN_lt {a : Int} (h0 : 1 ≤ a) (h1 : a ≤ 255) : logN a < 255 := (Gf.log_spec (a := a.toNat) (by omega) (by omega)).1
theorem logN_ne {a : Int} (h0 : 1 ≤ a) (h1 : a ≤ 255) {k : Nat} (hk : k < logN a) : pwZ 1 k ≠ a := by
  unfold pwZ; have := (Gf.log_spec (a := a.toNat) (by omega) (by omega)).2.2 k hk; simp only [Int.toNat_one]; omega

/-- The block b holds the eight powers of x and may be written. -/
def Holds8 (w : World) (b : Nat) (x : Int) : Prop := ∀ i, i < 8 → w.cell? ⟨b, i, none⟩ = some (.int .i64 (pwZ x i)) ∧ w.frozen? ⟨b, i, none⟩ = false

theorem holds_new (w : World) (T : TypeId) (x : Int) : Holds8 (w.alloc (.cells #[.int .i64 (pwZ x 0), .int .i64 (pwZ x 1), .int .i64 (pwZ x 2), .int .i64 (pwZ x 3), .int .i64 (pwZ x 4), .int .i64 (pwZ x 5), .int .i64 (pwZ x 6), .int .i64 (pwZ x 7)] T)) w.heap.size x :=
  fun i hi => ⟨cells8 w T i hi, World.frozen?_alloc_at _ _ _ _ rfl⟩
theorem Holds8.below {w w' : World} {b B : Nat} {x : Int} (h : Holds8 w b x) (hb : Below B w w') (hB : b < B) : Holds8 w' b x :=
  fun i hi => ⟨(hb.cell hB).trans (h i hi).1, (hb.frozen hB).trans (h i hi).2⟩
theorem Holds8.alloc {w : World} {b : Nat} {x : Int} (h : Holds8 w b x) (hB : b < w.heap.size) (o : Obj) : Holds8 (w.alloc o) b x :=
  h.below (B := w.heap.size) ((Below.refl _ _).alloc (Nat.le_refl _) o) hB

/-- Eight stores into one block. -/
def vals8 (x : Int) : List Value := [.int .i64 (pwZ x 0), .int .i64 (pwZ x 1), .int .i64 (pwZ x 2), .int .i64 (pwZ x 3), .int .i64 (pwZ x 4), .int .i64 (pwZ x 5), .int .i64 (pwZ x 6), .int .i64 (pwZ x 7)]
theorem vals8_at (x : Int) (i : Nat) (hi : i < (vals8 x).length) : (vals8 x)[i] = .int .i64 (pwZ x i) := by
  have hl : (vals8 x).length = 8 := rfl
  have h8 : i = 0 ∨ i = 1 ∨ i = 2 ∨ i = 3 ∨ i = 4 ∨ i = 5 ∨ i = 6 ∨ i = 7 := by omega
  rcases h8 with rfl | rfl | rfl | rfl | rfl | rfl | rfl | rfl <;> rfl
def put8 (w : World) (b : Nat) (x : Int) : World := w.setCells b 0 (vals8 x)
theorem put8_eq (w : World) (b : Nat) (x : Int) : ((((((((w.setCell ⟨b, 0, none⟩ (.int .i64 (pwZ x 0))).setCell ⟨b, 1, none⟩ (.int .i64 (pwZ x 1))).setCell ⟨b, 2, none⟩ (.int .i64 (pwZ x 2))).setCell ⟨b, 3, none⟩ (.int .i64 (pwZ x 3))).setCell ⟨b, 4, none⟩ (.int .i64 (pwZ x 4))).setCell ⟨b, 5, none⟩ (.int .i64 (pwZ x 5))).setCell ⟨b, 6, none⟩ (.int .i64 (pwZ x 6))).setCell ⟨b, 7, none⟩ (.int .i64 (pwZ x 7))) = put8 w b x := rfl
theorem Holds8.put {w : World} {b : Nat} {x : Int} (h : Holds8 w b x) (y : Int) : Holds8 (put8 w b y) b y := by
  intro i hi
  have hl : (vals8 y).length = 8 := rfl
  have := World.cell?_setCells_in b (vals8 y) 0 w (fun j hj => by rw [Nat.zero_add, (h j (by omega)).1]; rfl) i (by omega)
  rw [Nat.zero_add, vals8_at] at this
  exact ⟨this, (World.frozen?_setCells b _ 0 w _).trans (h i hi).2⟩
theorem Holds8.put_other {w : World} {b c : Nat} {x : Int} (h : Holds8 w c x) (hc : c ≠ b) (y : Int) : Holds8 (put8 w b y) c x :=
  fun i hi => ⟨(World.cell?_setCells_out b (vals8 y) 0 w ⟨c, i, none⟩ (fun e => absurd e hc)).trans (h i hi).1, (World.frozen?_setCells b _ 0 w _).trans (h i hi).2⟩
theorem put8_below {B : Nat} {a w : World} (h : Below B a w) {b : Nat} (hb : B ≤ b) (x : Int) : Below B a (put8 w b x) := by
  rw [← put8_eq]
  exact (((((((h.setCell hb _).setCell hb _).setCell hb _).setCell hb _).setCell hb _).setCell hb _).setCell hb _).setCell hb _
theorem put8_size (w : World) (b : Nat) (x : Int) : (put8 w b x).heap.size = w.heap.size := by rw [← put8_eq]; simp [World.setCell]

set_option maxRecDepth 100000 in
theorem GfLog_ok (a : Int) (h0 : 1 ≤ a) (h1 : a ≤ 255) (w : World) :
    Calls Try.prog 29 #[.int .i64 a] w fun e w' => e = .returned (.tuple #[.int .i64 (logN a), .int .i64 0]) ∧ Below w.heap.size w w' := by
  have h00 : 0 ≤ a := by omega
  have hL := logN_lt h0 h1
  have ha := elt_yes h00 h1
  go_enter Try.func29, Try.ntmps29
  go_wp2_with fail
  refine (isElement a _).mono ?_
  rintro e w1 ⟨rfl, rfl⟩
  go_wp2_with fail
  refine (powersOf a h00 h1 _).mono ?_
  rintro e w1 ⟨rfl, hb⟩
  rw [row8]
  go_wp2_with fail
  refine (powersOf 1 (by omega) (by omega) _).mono ?_
  rintro e w2 ⟨rfl, hb2⟩
  rw [row8]
  have S2 := holds_new w2 68 1
  have S1 := ((holds_new w1 68 a).below hb2 (by simp)).alloc (by have := hb2.size; simp at this; omega) (.cells #[.int .i64 (pwZ 1 0), .int .i64 (pwZ 1 1), .int .i64 (pwZ 1 2), .int .i64 (pwZ 1 3), .int .i64 (pwZ 1 4), .int .i64 (pwZ 1 5), .int .i64 (pwZ 1 6), .int .i64 (pwZ 1 7)] 68)
  have hz1 := hb.size
  have hz2 : w1.heap.size + 1 ≤ w2.heap.size := by have := hb2.size; simpa using this
  have SB : Below w.heap.size w (w2.alloc (.cells #[.int .i64 (pwZ 1 0), .int .i64 (pwZ 1 1), .int .i64 (pwZ 1 2), .int .i64 (pwZ 1 3), .int .i64 (pwZ 1 4), .int .i64 (pwZ 1 5), .int .i64 (pwZ 1 6), .int .i64 (pwZ 1 7)] 68)) :=
    ((hb.alloc hb.size _).trans (hb2.mono (by simp; omega))).alloc (by omega) _
  clear hb hb2
  go_wp2_with fail
  go_loopw [4, 6] (fun n p wr => ∃ k blk : Nat, k ≤ logN a ∧ n = .int .i64 k ∧ p = .pointer (some ⟨blk, 0, none⟩) ∧ w1.heap.size < blk ∧ blk < wr.heap.size ∧ Holds8 wr w1.heap.size a ∧ Holds8 wr blk (pwZ 1 k) ∧ Below w.heap.size w wr) (fun n _ _ => logN a - (intOf n).toNat)
  case atStart => exact ⟨0, w2.heap.size, by omega, rfl, rfl, by omega, by simp, S1, by rw [pwZ_zero (by omega)]; exact S2, SB⟩
  case round =>
    obtain ⟨k, blk, hk, rfl, rfl, hl, hs, H1, H2, HB⟩ := hrel
    clear S1 S2 SB
    have x0 := pwZ_lt (a := 1) (by omega) (by omega) k
    have d := Lib.hid (pwZ_succ (a := 1) k)
    have N := Lib.hid (fun hk => logN_ne (k := k) h0 h1 hk)
    have A := Lib.hid (logN_at h0 h1)
    obtain ⟨x, hx⟩ : ∃ x, x = pwZ 1 k := ⟨_, rfl⟩
    rw [← hx] at H2 x0
    have X := Lib.hid hx
    clear hx
    have c0 := (H2 0 (by omega)).1
    have c1 := (H2 1 (by omega)).1
    have c2 := (H2 2 (by omega)).1
    have c3 := (H2 3 (by omega)).1
    have c4 := (H2 4 (by omega)).1
    have c5 := (H2 5 (by omega)).1
    have c6 := (H2 6 (by omega)).1
    have c7 := (H2 7 (by omega)).1
    have e0 := (H1 0 (by omega)).1
    have e1 := (H1 1 (by omega)).1
    have e2 := (H1 2 (by omega)).1
    have e3 := (H1 3 (by omega)).1
    have e4 := (H1 4 (by omega)).1
    have e5 := (H1 5 (by omega)).1
    have e6 := (H1 6 (by omega)).1
    have e7 := (H1 7 (by omega)).1
    by_cases hkl : k = logN a
    · have hxa : x = a := by rw [X.out, hkl, A.out]
      subst hxa
      have he := fun w => eq8 (pwZ x 0) (pwZ x 1) (pwZ x 2) (pwZ x 3) (pwZ x 4) (pwZ x 5) (pwZ x 6) (pwZ x 7) (pwZ x 0) (pwZ x 1) (pwZ x 2) (pwZ x 3) (pwZ x 4) (pwZ x 5) (pwZ x 6) (pwZ x 7) w
      simp only [beq_self_eq_true, Bool.and_self] at he
      go_wp2
      go_ret2
      exact ⟨ret_two (by rw [← hkl]), HB⟩
    · have hlt : k < logN a := by omega
      have hxa : (x == a) = false := by rw [X.out, beq_eq_false_iff_ne]; exact N.out hlt
      have he := fun w => eq8 (pwZ x 0) (pwZ x 1) (pwZ x 2) (pwZ x 3) (pwZ x 4) (pwZ x 5) (pwZ x 6) (pwZ x 7) (pwZ a 0) (pwZ a 1) (pwZ a 2) (pwZ a 3) (pwZ a 4) (pwZ a 5) (pwZ a 6) (pwZ a 7) w
      have hx0 : (pwZ x 0 == pwZ a 0) = false := by rw [pwZ_zero x0.1, pwZ_zero h00]; exact hxa
      simp only [hx0, Bool.false_and] at he
      clear hkl hx0 hxa
      go_wp2_with fail
      have y0 := pwZ_lt x0.1 x0.2 1
      refine (powersOf (pwZ x 1) y0.1 y0.2 _).mono ?_
      rintro e w3 ⟨rfl, hb3⟩
      rw [row8]
      have H3 := (holds_new wr 68 x).below hb3 (by simp)
      have H4 := (H1.alloc (by omega) _).below hb3 (by simp; omega)
      clear c0 c1 c2 c3 c4 c5 c6 c7 e0 e1 e2 e3 e4 e5 e6 e7 he
      have f0 := H3 0 (by omega)
      have f1 := H3 1 (by omega)
      have f2 := H3 2 (by omega)
      have f3 := H3 3 (by omega)
      have f4 := H3 4 (by omega)
      have f5 := H3 5 (by omega)
      have f6 := H3 6 (by omega)
      have f7 := H3 7 (by omega)
      have hz3 : wr.heap.size + 1 ≤ w3.heap.size := by have := hb3.size; simpa using this
      have hz4 := HB.size
      have BB : Below w.heap.size w w3 := (HB.alloc hz4 _).trans (hb3.mono (by simp; omega))
      have G1 := (H3.put (pwZ x 1))
      have G2 := (H4.put_other (b := wr.heap.size) (by omega) (pwZ x 1))
      have G3 := put8_below BB hz4 (pwZ x 1)
      have G4 := put8_size w3 wr.heap.size (pwZ x 1)
      have Y : pwZ x 1 = pwZ 1 (k + 1) := by rw [← d.out, ← X.out, ← pwZ_succ, pwZ_zero x0.1]
      have R : Hid (∃ k' blk' : Nat, k' ≤ logN a ∧ Value.int .i64 ((k : Int) + 1) = .int .i64 k' ∧ Value.pointer (some ⟨wr.heap.size, 0, none⟩) = .pointer (some ⟨blk', 0, none⟩) ∧ w1.heap.size < blk' ∧
          blk' < (put8 w3 wr.heap.size (pwZ x 1)).heap.size ∧ Holds8 (put8 w3 wr.heap.size (pwZ x 1)) w1.heap.size a ∧ Holds8 (put8 w3 wr.heap.size (pwZ x 1)) blk' (pwZ 1 k') ∧ Below w.heap.size w (put8 w3 wr.heap.size (pwZ x 1))) :=
        ⟨k + 1, wr.heap.size, by omega, by go_num, rfl, by omega, by rw [G4]; omega, G2, by rw [← Y]; exact G1, G3⟩
      clear H3 H4 BB hb3 G1 G2 G3 G4 Y
      go_wp2_with fail
      rw [put8_eq]
      go_roundw
      case rel => exact R.out
      case measure => simp [intOf]; omega

theorem GfLog_bad (a : Int) (h : isElt a = false) (w : World) :
    Calls Try.prog 29 #[.int .i64 a] w fun e w' => e = .returned (.tuple #[.int .i64 0, .int .i64 2]) ∧ w = w' := by
  go_enter Try.func29, Try.ntmps29
  go_wp2_with fail
  refine (isElement a _).mono ?_
  rintro e w1 ⟨rfl, rfl⟩
  go_wp2
  go_ret2
  exact ⟨rfl, rfl⟩
theorem GfLog_zero (w : World) :
    Calls Try.prog 29 #[.int .i64 0] w fun e w' => e = .returned (.tuple #[.int .i64 0, .int .i64 3]) ∧ w = w' := by
  have ha := elt_yes (a := 0) (by omega) (by omega)
  go_enter Try.func29, Try.ntmps29
  go_wp2_with fail
  refine (isElement 0 _).mono ?_
  rintro e w1 ⟨rfl, rfl⟩
  go_wp2
  go_ret2
  exact ⟨rfl, rfl⟩
end Go.Proofs.Ytbbenadihfhfmaa.GfI
