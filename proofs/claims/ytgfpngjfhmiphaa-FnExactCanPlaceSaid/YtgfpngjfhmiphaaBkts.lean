/-
  Slices of buckets (two numbers and a list of numbers): one that came in, and the laws' measure of it.
-/
import Derived.Test.YtgfpngjfhmiphaaDevS
import Derived.Test.YtgfpngjfhmiphaaInts
namespace Go.Proofs.Ytgfpngjfhmiphaa.Bk
open Go.RowKit Go.Proofs.Ytgfpngjfhmiphaa.It Go.Proofs.Ytgfpngjfhmiphaa.MixC
set_option linter.unusedVariables false

/-- The n buckets of a slice, nil or not. -/
def Bks (w : World) (a : Option Addr) (n : Nat) (f g : Nat → Int) (I : Nat → Option Addr) (L : Nat → List Int) (C : Nat → Nat) : Prop :=
  n = 0 ∨ ∃ b off, a = some ⟨b, off, none⟩ ∧ b < w.heap.size ∧ ∀ i, i < n → w.cell? ⟨b, off + i * 3, none⟩ = some (.int .i64 (f i)) ∧ w.cell? ⟨b, off + i * 3 + 1, none⟩ = some (.int .i64 (g i)) ∧
    w.cell? ⟨b, off + i * 3 + 2, none⟩ = some (.slice (I i) (L i).length (C i)) ∧ Words w (I i) (L i)
theorem Bks.below {w w' : World} {a : Option Addr} {n : Nat} {f g : Nat → Int} {I : Nat → Option Addr} {L : Nat → List Int} {C : Nat → Nat} (h : Bks w a n f g I L C) (hb : Below w.heap.size w w') : Bks w' a n f g I L C := by
  rcases h with h | ⟨b, off, rfl, hB, hc⟩
  · exact .inl h
  · exact .inr ⟨b, off, rfl, Nat.lt_of_lt_of_le hB hb.size, fun i hi => ⟨(hb.cell (p := ⟨b, off + i * 3, none⟩) hB).trans (hc i hi).1, (hb.cell (p := ⟨b, off + i * 3 + 1, none⟩) hB).trans (hc i hi).2.1,
      (hb.cell (p := ⟨b, off + i * 3 + 2, none⟩) hB).trans (hc i hi).2.2.1, (hc i hi).2.2.2.below hb⟩⟩
abbrev bval (x y : Int) (s : Value) : Value := .agg #[.int .i64 x, .int .i64 y, s]

theorem szInt64S (a : Option Addr) (len cap : Nat) (left : Int) (hl : len ≤ 9223372036854775807) (l0 : 0 ≤ left) (l1 : left ≤ 2097152) (w : World) :
    Calls Try.prog 127 #[.slice a len cap, .int .i64 left] w fun e w' => e = .returned (.int .i64 (if (len : Int) ≤ left then left - len else -1)) ∧ w = w' := by
  by_cases h : (len : Int) ≤ left
  · rw [if_pos h]
    go_enter Try.func127, Try.ntmps127
    go_wp2
    go_ret
    exact ⟨rfl, rfl⟩
  · rw [if_neg h]
    go_enter Try.func127, Try.ntmps127
    go_wp2
    go_ret
    exact ⟨rfl, rfl⟩

set_option maxRecDepth 100000 in
theorem szBucket (x y : Int) (a : Option Addr) (len cap : Nat) (left : Int) (hl : len ≤ 9223372036854775807) (l0 : 0 ≤ left) (l1 : left ≤ 2097152) (w : World) :
    Calls Try.prog 89 #[bval x y (.slice a len cap), .int .i64 left] w fun e w' => e = .returned (.int .i64 (if (len : Int) ≤ left then left - len else -1)) ∧ Below w.heap.size w w' := by
  have Z := fun w' => szInt64S a len cap left hl l0 l1 w'
  by_cases h : (len : Int) ≤ left
  · simp only [if_pos h] at Z ⊢
    have Z := Lib.hid Z
    have h0 : 0 ≤ left - (len : Int) := by omega
    go_enter Try.func89, Try.ntmps89
    go_wp2_with fail
    refine (Z.out _).mono ?_
    rintro e w1 ⟨rfl, rfl⟩
    go_wp2
    go_ret
    exact ⟨rfl, lay _ _⟩
  · simp only [if_neg h] at Z ⊢
    have Z := Lib.hid Z
    go_enter Try.func89, Try.ntmps89
    go_wp2_with fail
    refine (Z.out _).mono ?_
    rintro e w1 ⟨rfl, rfl⟩
    go_wp2
    go_ret
    exact ⟨rfl, lay _ _⟩

/-- How much the measure has taken after k buckets. -/
def totB (n : Nat) (L : Nat → List Int) : Nat → Nat
  | 0 => n
  | k + 1 => totB n L k + (L k).length
theorem totB_mono (n : Nat) (L : Nat → List Int) {i : Nat} : ∀ {j : Nat}, i ≤ j → totB n L i ≤ totB n L j
  | 0, h => by obtain rfl : i = 0 := by omega
               exact Nat.le_refl _
  | j + 1, h => by
    by_cases e : i = j + 1
    · rw [e]; exact Nat.le_refl _
    · have := totB_mono n L (i := i) (j := j) (by omega); have e1 : totB n L (j + 1) = totB n L j + (L j).length := rfl; omega

set_option maxRecDepth 100000 in
theorem szBucketS (a : Option Addr) (n cap : Nat) (f g : Nat → Int) (I : Nat → Option Addr) (L : Nat → List Int) (C : Nat → Nat) (left : Int) (hl : n ≤ 9223372036854775807) (hL : ∀ i, i < n → (L i).length ≤ 9223372036854775807) (l0 : 0 ≤ left) (l1 : left ≤ 2097152) (w : World) (hs : Bks w a n f g I L C) :
    Calls Try.prog 42 #[.slice a n cap, .int .i64 left] w fun e w' => e = .returned (.int .i64 (if (totB n L n : Int) ≤ left then left - totB n L n else -1)) ∧ Below w.heap.size w w' := by
  have T0 : totB n L 0 = n := rfl
  by_cases h0 : (n : Int) ≤ left
  · have T0 := Lib.hid T0
    go_enter Try.func42, Try.ntmps42
    go_wp2
    go_loopw [1, 5] (fun x i wr => ∃ k : Nat, k ≤ n ∧ i = .int .i64 k ∧ (totB n L k : Int) ≤ left ∧ x = .int .i64 (left - totB n L k) ∧ Below w.heap.size w wr) (fun _ i _ => n - (intOf i).toNat)
    case atStart => exact ⟨0, by omega, rfl, by rw [T0.out]; exact h0, by rw [T0.out], Below.refl _ _⟩
    case round =>
      obtain ⟨k, hk, rfl, hle, rfl, hw⟩ := hrel
      have HW := Lib.hid hw
      by_cases hlt : k < n
      · have hs1 := hs.below hw
        obtain ⟨b, off, rfl, hB, hc⟩ := hs1.resolve_left (by omega)
        obtain ⟨c0, c1, c2, -⟩ := hc k hlt
        have z := hL k hlt
        have TS : totB n L (k + 1) = totB n L k + (L k).length := rfl
        have TS := Lib.hid TS
        have TM := Lib.hid (totB_mono n L (show k + 1 ≤ n by omega))
        have lk : left - (totB n L k : Int) ≤ 2097152 := by omega
        have lk0 : 0 ≤ left - (totB n L k : Int) := by omega
        have Z := szBucket (f k) (g k) (I k) (L k).length (C k) (left - totB n L k) z lk0 lk wr
        generalize f k = x at *
        generalize g k = y at *
        generalize I k = ik at *
        generalize C k = ck at *
        generalize (L k).length = s at *
        clear hc hs1 hw
        by_cases hq : ((totB n L k + s : Nat) : Int) ≤ left
        · rw [if_pos (by omega)] at Z
          have Z := Lib.hid Z
          go_wp2_with fail
          refine Z.out.mono ?_
          rintro e w2 ⟨rfl, b2⟩
          have B2 := Lib.hid (chain HW.out b2)
          clear b2
          go_wp2
          go_roundw
          case rel => exact ⟨k + 1, by omega, by go_num, by rw [TS.out]; exact hq, by rw [TS.out]; go_num, B2.out⟩
          case measure => simp [intOf]; omega
        · rw [if_neg (by omega)] at Z
          have Z := Lib.hid Z
          have R : (if (totB n L n : Int) ≤ left then left - totB n L n else -1) = -1 := by rw [if_neg]; have := TM.out; have := TS.out; omega
          have R := Lib.hid R
          go_wp2_with fail
          refine Z.out.mono ?_
          rintro e w2 ⟨rfl, b2⟩
          have B2 := Lib.hid (chain HW.out b2)
          clear b2
          go_wp2
          go_ret
          exact ⟨rfl, B2.out⟩
      · obtain rfl : k = n := by omega
        have R : (if (totB k L k : Int) ≤ left then left - totB k L k else -1) = left - totB k L k := if_pos hle
        have R := Lib.hid R
        clear hs hw
        go_wp2
        go_ret
        exact ⟨rfl, HW.out⟩
  · have R : (if (totB n L n : Int) ≤ left then left - totB n L n else -1) = -1 := by rw [if_neg]; have := totB_mono n L (Nat.zero_le n); omega
    rw [R]
    clear R hs
    go_enter Try.func42, Try.ntmps42
    go_wp2
    go_ret
    exact ⟨rfl, Below.refl _ _⟩

/-- What a new bucket is. -/
def BktB (x y : Int) (zs : List Int) (w : World) (e : Ending) (w' : World) : Prop := ∃ q, e = .returned (bval x y (.slice (some ⟨q, 0, none⟩) zs.length zs.length)) ∧ Copied w w' q zs
end Go.Proofs.Ytgfpngjfhmiphaa.Bk
