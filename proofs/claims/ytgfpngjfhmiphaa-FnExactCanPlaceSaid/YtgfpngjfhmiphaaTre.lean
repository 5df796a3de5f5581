/-
  Trees (two slices): the laws' measure and comparison.
-/
import Derived.Test.YtgfpngjfhmiphaaBkt5
import Derived.Test.YtgfpngjfhmiphaaStrs
namespace Go.Proofs.Ytgfpngjfhmiphaa.Bk
open Go.RowKit Go.Proofs.Ytgfpngjfhmiphaa.At Go.Proofs.Ytgfpngjfhmiphaa.MixC Go.Proofs.Ytgfpngjfhmiphaa.Ml
open Go.Proofs.Ytgfpngjfhmiphaa.It (lay chain)
open Go.Proofs.Ytgfpngjfhmiphaa.Rc (Recs szDeviceS eqDeviceS)
open Go.Proofs.Ytgfpngjfhmiphaa.Sg (BxN)
set_option linter.unusedVariables false

abbrev tval (x y : Value) : Value := .agg #[x, y]
def TreeSz (dn bn : Nat) (L : Nat → List Int) (left : Int) : Int := if (dn : Int) + totB bn L bn ≤ left then left - dn - totB bn L bn else -1

set_option maxRecDepth 100000 in
theorem szTree (da : Option Addr) (dn dc : Nat) (ba : Option Addr) (bn bc : Nat) (f g : Nat → Int) (I : Nat → Option Addr) (L : Nat → List Int) (C : Nat → Nat) (left : Int) (hd : dn ≤ 9223372036854775807) (hl : bn ≤ 9223372036854775807) (hL : ∀ i, i < bn → (L i).length ≤ 9223372036854775807) (l0 : 0 ≤ left) (l1 : left ≤ 2097152) (w : World) (hs : Bks w ba bn f g I L C) :
    Calls Try.prog 11 #[tval (.slice da dn dc) (.slice ba bn bc), .int .i64 left] w fun e w' => e = .returned (.int .i64 (TreeSz dn bn L left)) ∧ Below w.heap.size w w' := by
  have LH := Lib.hid (lay w (.cells #[.slice da dn dc, .slice ba bn bc] 25))
  have X := Lib.hid (BxN.new w #[.slice da dn dc, .slice ba bn bc] 25)
  have ZD := fun w' => szDeviceS da dn dc left hd l0 l1 w'
  by_cases h : (dn : Int) ≤ left
  · simp only [if_pos h] at ZD
    have ZD := Lib.hid ZD
    have h0 : 0 ≤ left - (dn : Int) := by omega
    have ZB := szBucketS ba bn bc f g I L C (left - dn) hl hL h0 (by omega) _ (hs.below LH.out)
    by_cases h2 : (totB bn L bn : Int) ≤ left - dn
    · rw [if_pos h2] at ZB
      have E : TreeSz dn bn L left = left - dn - totB bn L bn := if_pos (by omega)
      rw [E]
      have h3 : 0 ≤ left - (dn : Int) - totB bn L bn := by omega
      have ZB := Lib.hid ZB
      clear E hs
      generalize totB bn L bn = tb at *
      have x1 := X.out.cells 1 _ rfl
      go_enter Try.func11, Try.ntmps11
      go_wp2_with fail
      refine (ZD.out _).mono ?_
      rintro e w1 ⟨rfl, rfl⟩
      go_wp2_with fail
      refine ZB.out.mono ?_
      rintro e w2 ⟨rfl, b2⟩
      have B2 := Lib.hid (chain LH.out b2)
      clear b2
      go_wp2
      go_ret
      exact ⟨rfl, B2.out⟩
    · rw [if_neg h2] at ZB
      have E : TreeSz dn bn L left = -1 := if_neg (by omega)
      rw [E]
      have ZB := Lib.hid ZB
      clear E hs
      have x1 := X.out.cells 1 _ rfl
      go_enter Try.func11, Try.ntmps11
      go_wp2_with fail
      refine (ZD.out _).mono ?_
      rintro e w1 ⟨rfl, rfl⟩
      go_wp2_with fail
      refine ZB.out.mono ?_
      rintro e w2 ⟨rfl, b2⟩
      have B2 := Lib.hid (chain LH.out b2)
      clear b2
      go_wp2
      go_ret
      exact ⟨rfl, B2.out⟩
  · simp only [if_neg h] at ZD
    have ZD := Lib.hid ZD
    have E : TreeSz dn bn L left = -1 := if_neg (by omega)
    rw [E]
    clear E hs
    go_enter Try.func11, Try.ntmps11
    go_wp2_with fail
    refine (ZD.out _).mono ?_
    rintro e w1 ⟨rfl, rfl⟩
    go_wp2
    go_ret
    exact ⟨rfl, LH.out⟩
end Go.Proofs.Ytgfpngjfhmiphaa.Bk
