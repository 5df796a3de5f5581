/-
  An answer that is one interval: compared, marked, found again.
-/
import Derived.Test.YthimpcfodbmhkaaAns
import Derived.Test.YthimpcfodbmhkaaMInterval
namespace Go.Proofs.Ythimpcfodbmhkaa.Rd
open Go.RowKit Go.ChangeShapes Go.WideShapes
open Go.Proofs.Ythimpcfodbmhkaa.Sg (BxN)
set_option linter.unusedVariables false
set_option linter.unusedSimpArgs false

theorem markNil (a : Option Addr) (cap : Nat) (k : Int) (w : World) :
    Calls Try.prog 27 #[.slice a 0 cap, .int .i64 k] w (fun e w' => e = .returned (.int .i64 k) ∧ w' = w) := by
  go_enter Try.func27, Try.ntmps27
  go_wp2
  go_loop [1, 5] (fun kk i => i = .int .i64 0 ∧ kk = .int .i64 k) (fun _ i => 0)
  case atStart => exact ⟨rfl, rfl⟩
  case round =>
    obtain ⟨rfl, rfl⟩ := hrel
    go_wp2
    go_ret
    exact ⟨rfl, rfl⟩
/-- Marks laid into such an answer: only its own block changes. -/
def MkS (lo top : Nat) (a : Option Addr) (n : Nat) (mm : Int) (w : World) (e : Ending) (w' : World) : Prop :=
  ∃ xlo xhi, e = .returned (.int .i64 mm) ∧ Rows true lo w' a ((List.range n).map (mkInt 1)) ∧ lo ≤ xlo ∧ xlo ≤ w.heap.size ∧ xhi ≤ top ∧ Chg xlo xhi w w'
set_option maxRecDepth 100000 in
theorem markIS (d : DInterval) (a : Option Addr) (c : Nat) (mm : Int) (hm : mm = 1 + (d.acting.length : Int)) (lo top : Nat) (w w0 : World) (hl : d.acting.length ≤ 2097152) (h : GOne lo w a d.acting) (h0 : GOne lo w0 a d.acting) (ht : w0.heap.size = top) (hlt : lo ≤ top) (htw : top ≤ w.heap.size) :
    Calls Try.prog 38 #[.agg #[.int .i64 d.first, .int .i64 d.last, .slice a d.acting.length c, .bool d.may], .int .i64 1] w (MkS lo top a d.acting.length mm w) := by
  have LY := lay w (.cells #[.int .i64 d.first, .int .i64 d.last, .slice a d.acting.length c, .bool d.may] 38)
  have YN := BxN.new w #[.int .i64 d.first, .int .i64 d.last, .slice a d.acting.length c, .bool d.may] 38
  have y2 := YN.cells 2 _ rfl
  have G1 := h.below LY
  have MK : Calls Try.prog 27 #[.slice a d.acting.length c, .int .i64 1] (w.alloc (.cells #[.int .i64 d.first, .int .i64 d.last, .slice a d.acting.length c, .bool d.may] 38)) (MkS lo top a d.acting.length mm w) := by
    rcases G1 with e | ⟨q, rfl, r, hq1, hq2⟩
    · have en : d.acting.length = 0 := by rw [e]; rfl
      rw [en]
      refine (markNil a c 1 _).mono ?_
      rintro e' w' ⟨rfl, rfl⟩
      exact ⟨top, top, by rw [hm, en]; simp, .inl rfl, hlt, htw, Nat.le_refl _, Chg.of (lay w _)⟩
    · by_cases ne : d.acting = []
      · have en : d.acting.length = 0 := by rw [ne]; rfl
        rw [en]
        refine (markNil _ c 1 _).mono ?_
        rintro e' w' ⟨rfl, rfl⟩
        exact ⟨top, top, by rw [hm, en]; simp, .inl rfl, hlt, htw, Nat.le_refl _, Chg.of (lay w _)⟩
      · have qt : q < top := by
          rcases h0 with e | ⟨q', e', -, -, h5⟩
          · exact absurd e ne
          · have : q = q' := by simpa using e'
            subst this; omega
        refine (markXInt64S q c d.acting.length d.acting 1 lo _ rfl hl (by omega) (by omega) r).mono ?_
        rintro e' w' ⟨rfl, r', cx⟩
        exact ⟨q, q + 1, by rw [hm], r', hq1, by omega, by omega, (Chg.of LY).trans cx⟩
  have MK := Lib.hid MK
  clear LY YN G1 h h0 hm
  generalize d.acting.length = n at *
  go_enter Try.func38, Try.ntmps38
  go_wp2_with fail
  refine MK.out.mono ?_
  rintro e w3 ⟨xlo, xhi, rfl, R, k1, k2, k3, cx⟩
  have G := Lib.hid (show MkS lo top a n mm w (.returned (.int .i64 mm)) w3 from ⟨xlo, xhi, rfl, R, k1, k2, k3, cx⟩)
  clear R cx k1 k2 k3
  go_wp2
  go_ret
  exact G.out
set_option maxRecDepth 100000 in
theorem heldIS (d : DInterval) (a : Option Addr) (c : Nat) (mm : Int) (hm : mm = 1 + (d.acting.length : Int)) (lo : Nat) (w : World) (hl : d.acting.length ≤ 2097152) (h : Rows true lo w a ((List.range d.acting.length).map (mkInt 1))) :
    Calls Try.prog 39 #[.agg #[.int .i64 d.first, .int .i64 d.last, .slice a d.acting.length c, .bool d.may], .int .i64 1] w (RetW (.int .i64 mm) w) := by
  have LY := lay w (.cells #[.int .i64 d.first, .int .i64 d.last, .slice a d.acting.length c, .bool d.may] 38)
  have YN := BxN.new w #[.int .i64 d.first, .int .i64 d.last, .slice a d.acting.length c, .bool d.may] 38
  have y2 := YN.cells 2 _ rfl
  have HE := heldInt64S a c d.acting.length 1 true lo _ hl (by omega) (by omega) (h.below LY)
  rw [← hm] at HE
  have HE := Lib.hid HE
  have LH := Lib.hid LY
  have dm : decide (mm < 0) = false := decide_eq_false (by omega)
  clear LY YN h hm
  generalize d.acting.length = n at *
  go_enter Try.func39, Try.ntmps39
  go_wp2_with fail
  refine HE.out.mono ?_
  rintro e w3 ⟨rfl, b3⟩
  have B3 := Lib.hid (chainX w LH.out b3)
  clear b3
  go_wp2
  go_ret
  exact ⟨rfl, B3.out⟩
theorem eqIS (d : DInterval) (a1 a2 : Option Addr) (c1 c2 : Nat) (w : World) (hs : Rdb.sz d ≤ 2097152) (wf0 : (Lit.int .i64 d.first).wf = true) (wf1 : (Lit.int .i64 d.last).wf = true) {fr fr2 : Bool} {lo lo2 : Nat} (h1 : Rows fr lo w a1 d.acting) (h2 : Rows fr2 lo2 w a2 d.acting) (k1 : d.acting.length ≤ c1) (k2 : d.acting.length ≤ c2) :
    Calls Try.prog 36 #[.agg #[.int .i64 d.first, .int .i64 d.last, .slice a1 d.acting.length c1, .bool d.may], .agg #[.int .i64 d.first, .int .i64 d.last, .slice a2 d.acting.length c2, .bool d.may]] w (TrueW w) := by
  have e : Rdb.sz d = Rdb.sz d.acting := rfl
  have e2 := sz_len d.acting
  exact eqInterval d w hs (mk_Interval wf0 wf1 h1 ⟨by omega, k1⟩) (mk_Interval wf0 wf1 h2 ⟨by omega, k2⟩)
end Go.Proofs.Ythimpcfodbmhkaa.Rd
