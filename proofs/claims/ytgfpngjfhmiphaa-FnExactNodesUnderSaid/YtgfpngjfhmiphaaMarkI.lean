/-
  Marks laid into a list of numbers that a call handed back; whether such a list is the model's.
-/
import Derived.Test.YtgfpngjfhmiphaaMatRes2
namespace Go.Proofs.Ytgfpngjfhmiphaa.Gf2
open Go.RowKit Go.Proofs.Ytgfpngjfhmiphaa.At Go.Proofs.Ytgfpngjfhmiphaa.MixC Go.Proofs.Ytgfpngjfhmiphaa.Ml Go.Proofs.Ytgfpngjfhmiphaa.Gr Go.Proofs.Ytgfpngjfhmiphaa.Gj
set_option linter.unusedVariables false

theorem markL (W : World) (D : Nat) (a : Option Addr) (cap : Nat) (zs : List Int) (k : Int) (k0 : 0 ≤ k) (k1 : k ≤ 10000000) (hn : zs.length ≤ 2097152) (w : World) (O : OwnS W w a zs) (hD : zs ≠ [] → ∀ b o, a = some ⟨b, o, none⟩ → b < D) :
    Calls Try.prog 18 #[.slice a zs.length cap, .int .i64 k] w (MarkO W.heap.size D w a zs.length k) := by
  by_cases h0 : zs.length = 0
  · rw [h0]
    refine (mark0 a cap k k0 (by omega) w).mono ?_
    rintro e w1 ⟨rfl, rfl⟩
    exact ⟨by show Ending.returned (.int .i64 k) = _; simp, .inl rfl, none, grown_of_below (Below.refl _ _) none, fun b hb => by cases hb⟩
  · refine (markInt64S a zs.length cap k k0 (by omega) hn w O.mine).mono ?_
    rintro e w1 ⟨rfl, M, g1⟩
    rcases O with rfl | ⟨g, rfl, hg, hlt, _, _⟩
    · exact absurd rfl h0
    · exact ⟨rfl, M, _, g1, fun b hb => by
        have : g = b := by simpa [rowOf] using hb
        subst this; exact ⟨hg, hD (fun e => h0 (by rw [e]; rfl)) _ _ rfl⟩⟩
/-- Whether two such lists are the same: they are, and memory is as it was. -/
def SameI (w : World) (e : Ending) (w' : World) : Prop := e = .returned (.bool true) ∧ Below w.heap.size w w'
theorem eqL (a b : Option Addr) (cap1 cap2 : Nat) (zs : List Int) (w : World) (hl : zs.length ≤ 2097152) (ha : Words w a zs) (hb : Words w b zs) :
    Calls Try.prog 15 #[.slice a zs.length cap1, .slice b zs.length cap2] w (SameI w) := by
  refine (eqInt64S a b cap1 cap2 zs w hl ha hb).mono ?_
  rintro e w1 ⟨rfl, q, rfl⟩
  exact ⟨rfl, below_drewN (Below.refl _ _) _⟩
end Go.Proofs.Ytgfpngjfhmiphaa.Gf2
