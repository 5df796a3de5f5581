/-
  Arguments of the laws, opened: a pool (numbers, a code among them).
-/
import Derived.Test.YteogbfmghbaelaaStrs
import Derived.Test.YteogbfmghbaelaaPool
namespace Go.Proofs.Yteogbfmghbaelaa.Op
open Go.RowKit Go.ChangeShapes Go.WideShapes
set_option linter.unusedVariables false

theorem pool_open {H : Type} {enc : TypeId × Value → H} {P : Program} {w : World} {base : Nat} {spare : Nat → Bool} {held : Bool} {r : Reach} {b0 : Nat} {t : TypeId} {f0 f1 f2 f3 f4 g0 g1 : Field} {v : Value} {d : DataW H} {p : List MemPlace}
    (hs : P.underlying t = some (.struct #[f0, f1, f2, f3, f4])) (hc : P.underlying f1.type = some (.struct #[g0, g1])) (hC : P.cellsOf t = 6)
    (off : f0.offset = 0 ∧ f1.offset = 1 ∧ f2.offset = 3 ∧ f3.offset = 4 ∧ f4.offset = 5 ∧ g0.offset = 0 ∧ g1.offset = 1)
    (siz : P.cellsOf f0.type = 1 ∧ P.cellsOf f1.type = 2 ∧ P.cellsOf f2.type = 1 ∧ P.cellsOf f3.type = 1 ∧ P.cellsOf f4.type = 1 ∧ P.cellsOf g0.type = 1 ∧ P.cellsOf g1.type = 1)
    (ty : P.underlying f0.type = some (.int .i64) ∧ P.underlying f2.type = some (.int .i64) ∧ P.underlying f3.type = some (.int .i64) ∧ P.underlying f4.type = some (.int .i64) ∧ P.underlying g0.type = some (.int .i64) ∧ P.underlying g1.type = some (.int .i64))
    (hv : Value.okWide P w r b0 t v) (h : DataW.Trod enc P w base spare held t v d p) :
    ∃ x0 x1 x2 x3 x4 x5 : Int, v = .agg #[.int .i64 x0, .int .i64 x1, .int .i64 x2, .int .i64 x3, .int .i64 x4, .int .i64 x5] := by
  obtain ⟨cs, rfl, hsz⟩ := okWide_struct hs hv
  obtain ⟨l⟩ := cs
  obtain ⟨p0, p1, p2, p3, p4, p5, p6⟩ := off
  obtain ⟨q0, q1, q2, q3, q4, q5, q6⟩ := siz
  obtain ⟨i0, i2, i3, i4, j0, j1⟩ := ty
  match l, hsz.trans hC with
  | [c0, c1, c2, c3, c4, c5], _ =>
    obtain ⟨fuel, hf⟩ := h
    obtain ⟨xs, n, _, _, _, hlen, hg⟩ := DataW.trod_struct hs hf
    match xs, hlen with
    | [y0, y1, y2, y3, y4], _ =>
      have t0 := hg 0 f0 rfl
      have t1 := hg 1 f1 rfl
      have t2 := hg 2 f2 rfl
      have t3 := hg 3 f3 rfl
      have t4 := hg 4 f4 rfl
      rw [p0, q0] at t0
      rw [p1, q1] at t1
      rw [p2, q2] at t2
      rw [p3, q3] at t3
      rw [p4, q4] at t4
      simp [Value.cells] at t0 t1 t2 t3 t4
      obtain ⟨z0, e0, _, _⟩ := DataW.trod_int i0 t0
      obtain ⟨z2, e2, _, _⟩ := DataW.trod_int i2 t2
      obtain ⟨z3, e3, _, _⟩ := DataW.trod_int i3 t3
      obtain ⟨z4, e4, _, _⟩ := DataW.trod_int i4 t4
      obtain ⟨xs', n', _, _, _, hlen', hg'⟩ := DataW.trod_struct hc t1
      match xs', hlen' with
      | [u0, u1], _ =>
        have v0 := hg' 0 g0 rfl
        have v1 := hg' 1 g1 rfl
        rw [p5, q5] at v0
        rw [p6, q6] at v1
        simp at v0 v1
        obtain ⟨k0, d0, _, _⟩ := DataW.trod_int j0 v0
        obtain ⟨k1, d1, _, _⟩ := DataW.trod_int j1 v1
        simp at e0 e2 e3 e4 d0 d1
        exact ⟨z0, k0, k1, z2, z3, z4, by rw [e0, e2, e3, e4, d0, d1]⟩
end Go.Proofs.Yteogbfmghbaelaa.Op

/-
  The exact law of PoolOk.
-/
namespace Go.Proofs.Yteogbfmghbaelaa.Po
open Go.RowKit Go.Proofs.Yteogbfmghbaelaa.GfI Go.Proofs.Yteogbfmghbaelaa.GfS Go.Proofs.Yteogbfmghbaelaa.Cd
open Go.Proofs.Yteogbfmghbaelaa.Sg (BxN)
set_option linter.unusedVariables false

set_option maxRecDepth 100000 in
theorem specPoolOk (i k m n g r : Int) (w : World) :
    Calls Try.prog 115 #[pval i k m n g r] w (BoolB (okP i k m n g r) w) := by
  have L := Lib.hid (lay w)
  have C := Lib.hid (l09OK i k m n g r)
  generalize okP i k m n g r = ok at *
  go_enter Try.func115, Try.ntmps115
  go_wp2_with fail
  refine (C.out _).mono ?_
  rintro e w1 ⟨rfl, b1⟩
  go_wp2
  go_ret
  exact ⟨rfl, chain (L.out _) b1⟩

end Go.Proofs.Yteogbfmghbaelaa.Po
