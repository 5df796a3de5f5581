/-
  The versions that the laws draw: two versions of small numbers.
-/
import Derived.Test.YthbhefgnbomboaaSrc
import Derived.Test.YthbhefgnbomboaaVer
namespace Go.Proofs.Ythbhefgnbomboaa.Rd
open Go.RowKit Go.ChangeShapes Go.WideShapes Go.Proofs.Ythbhefgnbomboaa.Sr Go.Proofs.Ythbhefgnbomboaa.At
open Go.Proofs.Ythbhefgnbomboaa.Sg (BxN)
set_option linter.unusedVariables false
set_option linter.unusedSimpArgs false

theorem bxGrown {w w' : World} {b : Nat} {vs : List Value} {row : Option Nat} (h : Sg.BxN w b vs) (g : w.grownBy w' row) (hne : some b ≠ row) : Sg.BxN w' b vs :=
  ⟨Nat.lt_of_lt_of_le h.lt g.size, fun i v hv => g.cell (h.cells i v hv) hne, fun i => (World.frozen?_of_block (a := ⟨b, i, none⟩) (g.block b h.lt hne)).trans (h.free i)⟩
def TwoVers (w : World) (e : Ending) (w' : World) : Prop := ∃ a b : DVer, e = .returned (.tuple #[.agg #[.int .i64 a.epoch, .int .i64 a.seq], .agg #[.int .i64 b.epoch, .int .i64 b.seq]]) ∧ Below w.heap.size w w'
theorem sub1 {r : Int} (h0 : 0 ≤ r) (h1 : r < 1000) : IntKind.i64.wrap (r - 1) = r - 1 := by rw [IntKind.wrap_i64]; omega
set_option maxRecDepth 100000 in
set_option maxHeartbeats 4000000 in
theorem drawVerLess (a : Option Addr) (len cap : Nat) (f : Nat → Int) (hl : len ≤ 2000000) (w : World) (h : Byts w a len f) :
    Calls Try.prog 11 #[.slice a len cap] w (TwoVers w) := by
  have Z : Value := .int .i64 0
  have BH := Lib.hid (chainX w (lay w (.cells #[.int .i64 0, .int .i64 0] 25)) (lay _ (.cells #[.int .i64 0, .int .i64 0] 25)))
  have XH := Lib.hid ((BxN.new w #[.int .i64 0, .int .i64 0] 25).later (lay _ (.cells #[.int .i64 0, .int .i64 0] 25)))
  have Y0 := BxN.new (w.alloc (.cells #[.int .i64 0, .int .i64 0] 25)) #[.int .i64 0, .int .i64 0] 25
  rw [World.size_alloc] at Y0
  have YH := Lib.hid Y0
  clear Y0 Z
  have L := Lib.hid (fun w' (b : Below w.heap.size w w') => Sr.l00From a len cap f hl w' (h.below b))
  clear h
  go_enter Try.func11, Try.ntmps11
  go_wp2_with fail
  refine (L.out _ BH.out).mono ?_
  rintro e w1 ⟨rfl, S1, b1⟩
  simp only [World.size_alloc] at S1
  have LB := S1.lt
  have XH := Lib.hid (XH.out.later b1)
  have x0 := XH.out.cells 0 _ rfl
  have x1 := XH.out.cells 1 _ rfl
  have YH := Lib.hid (YH.out.later b1)
  have y0 := YH.out.cells 0 _ rfl
  have y1 := YH.out.cells 1 _ rfl
  have BH := Lib.hid (chainX w BH.out b1)
  clear b1 L
  have SH := Lib.hid S1
  clear S1
  go_wp2_with fail
  refine (Sr.pick (w.heap.size + 1 + 1) 0 4 (by omega) (by omega) (by omega) _ SH.out).mono ?_
  rintro e w2 ⟨⟨r1, p0, p1, rfl⟩, S2, g2⟩
  have LB := S2.lt
  have XH := Lib.hid (bxGrown XH.out g2 (fun e => by have := Option.some.inj e; omega))
  have x0 := XH.out.cells 0 _ rfl
  have x1 := XH.out.cells 1 _ rfl
  have YH := Lib.hid (bxGrown YH.out g2 (fun e => by have := Option.some.inj e; omega))
  have y0 := YH.out.cells 0 _ rfl
  have y1 := YH.out.cells 1 _ rfl
  have BH := Lib.hid (BH.out.grown g2 (by have := BH.out.size; omega) (fun k hk => by cases hk; omega))
  have SH := Lib.hid S2
  clear S2 g2
  have q1 := sub1 p0 (by omega : r1 < 1000)
  go_wp2_with fail
  refine (Sr.pick (w.heap.size + 1 + 1) 2 4 (by omega) (by omega) (by omega) _ SH.out).mono ?_
  rintro e w3 ⟨⟨r2, t0, t1, rfl⟩, S3, g3⟩
  have LB := S3.lt
  have XH := Lib.hid (bxGrown XH.out g3 (fun e => by have := Option.some.inj e; omega))
  have x0 := XH.out.cells 0 _ rfl
  have x1 := XH.out.cells 1 _ rfl
  have YH := Lib.hid (bxGrown YH.out g3 (fun e => by have := Option.some.inj e; omega))
  have y0 := YH.out.cells 0 _ rfl
  have y1 := YH.out.cells 1 _ rfl
  have BH := Lib.hid (BH.out.grown g3 (by have := BH.out.size; omega) (fun k hk => by cases hk; omega))
  have q2 := sub1 t0 (by omega : r2 < 1000)
  have LY := lay w3 (.cells #[.int .i64 (r1 - 1), .int .i64 (r2 - 1)] 25)
  have YN := BxN.new w3 #[.int .i64 (r1 - 1), .int .i64 (r2 - 1)] 25
  have VLT := Lib.hid (show w3.heap.size ≠ w.heap.size + 1 + 1 ∧ w3.heap.size ≠ w.heap.size + 1 ∧ w3.heap.size ≠ w.heap.size from by have := XH.out.lt; have := YH.out.lt; exact ⟨by omega, by omega, by omega⟩)
  have XH := Lib.hid (XH.out.later LY)
  have x0 := XH.out.cells 0 _ rfl
  have x1 := XH.out.cells 1 _ rfl
  have YH := Lib.hid (YH.out.later LY)
  have y0 := YH.out.cells 0 _ rfl
  have y1 := YH.out.cells 1 _ rfl
  have VH := Lib.hid YN
  have v0 := VH.out.cells 0 _ rfl
  have v1 := VH.out.cells 1 _ rfl
  have BH := Lib.hid (chainX w BH.out LY)
  have SH := Lib.hid (S3.below LY)
  clear S3 g3 LY YN
  go_wp2
  generalize hW4 : w3.alloc (.cells #[.int .i64 (r1 - 1), .int .i64 (r2 - 1)] 25) = w4 at *
  clear hW4 LB
  generalize w3.heap.size = vb at *
  have x0 := XH.out.cells 0 _ rfl
  have x1 := XH.out.cells 1 _ rfl
  have y0 := YH.out.cells 0 _ rfl
  have y1 := YH.out.cells 1 _ rfl
  have xf := XH.out.free
  have yf := YH.out.free
  have v0 := VH.out.cells 0 _ rfl
  have v1 := VH.out.cells 1 _ rfl
  have ne1 : vb ≠ w.heap.size := VLT.out.2.2
  have ne2 : w.heap.size ≠ vb := fun e => ne1 e.symm
  have ne3 : vb ≠ w.heap.size + 1 := VLT.out.2.1
  have ne4 : w.heap.size + 1 ≠ vb := fun e => ne3 e.symm
  have tok := True.intro
  go_region_held3 (fun w' => w'.cell? ⟨vb, 0, none⟩ = some (.int .i64 (r1 - 1)) ∧ w'.cell? ⟨vb, 1, none⟩ = some (.int .i64 (r2 - 1))) (go_keep)
    ((first
      | (go_at_call 33; clear tok; refine (Sr.pick (w.heap.size + 1 + 1) 20 4 (by omega) (by omega) (by omega) _ (by first | exact SH.out.mono (by omega) | exact (SH.out.below (Below.refl _ _).drew).mono (by omega))).mono ?_; rintro e w5 ⟨⟨r3, u3, t3, rfl⟩, S5, g5⟩; have XH := Lib.hid (bxGrown (by first | exact XH.out | exact XH.out.drew) g5 (fun e => by have := Option.some.inj e; omega)); have YH := Lib.hid (bxGrown (by first | exact YH.out | exact YH.out.drew) g5 (fun e => by have := Option.some.inj e; omega)); have VH := Lib.hid (bxGrown (by first | exact VH.out | exact VH.out.drew) g5 (fun e => VLT.out.1 (Option.some.inj e))); have BH := Lib.hid (Below.grown (by first | exact BH.out | exact BH.out.drew) g5 (by first | exact BH.out.size | (have := BH.out.size; omega)) (fun k hk => by cases hk; omega)); have SH := Lib.hid S5; clear S5 g5; have q3 := sub1 u3 (by omega : r3 < 1000); have x0 := XH.out.cells 0 _ rfl; have x1 := XH.out.cells 1 _ rfl; have y0 := YH.out.cells 0 _ rfl; have y1 := YH.out.cells 1 _ rfl; have v0 := VH.out.cells 0 _ rfl; have v1 := VH.out.cells 1 _ rfl; have xf := XH.out.free; have yf := YH.out.free)
      | (go_at_call 33; refine (Sr.pick (w.heap.size + 1 + 1) (20 + 2) 4 (by omega) (by omega) (by omega) _ SH.out).mono ?_; rintro e w5 ⟨⟨r4, u4, t4, rfl⟩, S5, g5⟩; have XH := Lib.hid (bxGrown (by first | exact XH.out | exact XH.out.drew) g5 (fun e => by have := Option.some.inj e; omega)); have YH := Lib.hid (bxGrown (by first | exact YH.out | exact YH.out.drew) g5 (fun e => by have := Option.some.inj e; omega)); have VH := Lib.hid (bxGrown (by first | exact VH.out | exact VH.out.drew) g5 (fun e => VLT.out.1 (Option.some.inj e))); have BH := Lib.hid (Below.grown (by first | exact BH.out | exact BH.out.drew) g5 (by first | exact BH.out.size | (have := BH.out.size; omega)) (fun k hk => by cases hk; omega)); have SH := Lib.hid S5; clear S5 g5; have q4 := sub1 u4 (by omega : r4 < 1000); have x0 := XH.out.cells 0 _ rfl; have x1 := XH.out.cells 1 _ rfl; have y0 := YH.out.cells 0 _ rfl; have y1 := YH.out.cells 1 _ rfl; have v0 := VH.out.cells 0 _ rfl; have v1 := VH.out.cells 1 _ rfl; have xf := XH.out.free; have yf := YH.out.free)))
  all_goals
    have FH := Lib.hid (show TwoVers w (.returned (.tuple #[.agg #[.int .i64 (r1 - 1), .int .i64 (r2 - 1)], .agg #[.int .i64 (r3 - 1), .int .i64 (r4 - 1)]])) (((((w5).setCell ⟨w.heap.size, 0, none⟩ (.int .i64 (r1 - 1))).setCell ⟨w.heap.size, 1, none⟩ (.int .i64 (r2 - 1))).setCell ⟨w.heap.size + 1, 0, none⟩ (.int .i64 (r3 - 1))).setCell ⟨w.heap.size + 1, 1, none⟩ (.int .i64 (r4 - 1))) from ⟨⟨r1 - 1, r2 - 1⟩, ⟨r3 - 1, r4 - 1⟩, rfl, (Below.setCell (p := ⟨w.heap.size + 1, 1, none⟩) (Below.setCell (p := ⟨w.heap.size + 1, 0, none⟩) (Below.setCell (p := ⟨w.heap.size, 1, none⟩) (Below.setCell (p := ⟨w.heap.size, 0, none⟩) BH.out (Nat.le_refl _) (.int .i64 (r1 - 1))) (Nat.le_refl _) (.int .i64 (r2 - 1))) (Nat.le_succ _) (.int .i64 (r3 - 1))) (Nat.le_succ _) (.int .i64 (r4 - 1)))⟩)
    go_wp2
    exact bodyPost_ret (v := .tuple #[.agg #[.int .i64 (r1 - 1), .int .i64 (r2 - 1)], .agg #[.int .i64 (r3 - 1), .int .i64 (r4 - 1)]]) (by simp [results, Try.results11, go_sem, *]) rfl FH.out
end Go.Proofs.Ythbhefgnbomboaa.Rd
