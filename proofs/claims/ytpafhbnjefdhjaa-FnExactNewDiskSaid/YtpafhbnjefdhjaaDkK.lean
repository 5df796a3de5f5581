/-
  NewDisk in the program.
-/
import Derived.Test.YtpafhbnjefdhjaaDkJ
namespace Go.Proofs.Ytpafhbnjefdhjaa.Rd
open Go.RowKit Go.ChangeShapes Go.WideShapes Go.Proofs.Ytpafhbnjefdhjaa.GfI Go.Proofs.Ytpafhbnjefdhjaa.GfS
open Go.Proofs.Ytpafhbnjefdhjaa.Sg (BxN)
set_option linter.unusedVariables false
set_option linter.unusedSimpArgs false

set_option maxRecDepth 100000 in
set_option maxHeartbeats 4000000 in
theorem implNewDisk (n : Int) (R : DDisk) (rc : Int) (hp : NewP n R rc) (w : World) : Calls Try.prog 20 #[.int .i64 n] w (AnsK R rc w) := by
  have L := Lib.hid (lay w (.cells #[.slice none 0 0, .slice none 0 0] 30))
  have Y := Lib.hid (BxN.new w #[.slice none 0 0, .slice none 0 0] 30)
  have CI := Lib.hid (fun w' => Wi.isWithin n 1 1200 (by omega) w')
  rcases hp with ⟨hb, rfl, rfl⟩ | ⟨k, rfl, h1, h2, rfl, rfl⟩
  · rw [hb] at CI
    have CI := Lib.hid CI.out
    clear hb
    go_enter Try.func20, Try.ntmps20
    go_wp2_with fail
    refine (CI.out _).mono ?_
    rintro e w9 ⟨rfl, rfl⟩
    have v0 := Y.out.cells 0 _ rfl
    have v1 := Y.out.cells 1 _ rfl
    have vf0 := Y.out.free 0
    have vf1 := Y.out.free 1
    have F := Lib.hid (ansK_zero 2 L.out)
    go_wp2
    exact bodyPost_ret (v := .tuple #[.agg #[.slice none 0 0, .slice none 0 0], .int .i64 2]) (by simp [results, Try.results20, go_sem, *]) rfl F.out
  · rw [inB_yes (by omega) (by omega)] at CI
    have CI := Lib.hid CI.out
    have REP := Lib.hid (show ∀ w', Calls Try.prog 58 #[.string ⟨#[0]⟩, .int .i64 64] w' fun e w'' => e = .returned (.string zeroB) ∧ Below w'.heap.size w' w'' from fun w' => (ShR.strings_Repeat ⟨#[0]⟩ 64 w' (by omega) (by decide)).mono (fun e w'' q => ⟨q.1.trans (by kernel_rfl), q.2⟩))
    have ZB := zeroB_size
    generalize hz : zeroB = zs at *
    have RS := Lib.hid (fun b w' hb hc => repeatS b zs k h1 h2 (by omega) w' hb hc)
    have wk : IntKind.i64.wrap (k : Int) = k := by rw [IntKind.wrap_i64]; omega
    go_enter Try.func20, Try.ntmps20
    go_wp2_with fail
    refine (CI.out _).mono ?_
    rintro e w9 ⟨rfl, rfl⟩
    go_wp2_with fail
    refine (REP.out _).mono ?_
    rintro e w1 ⟨rfl, b1⟩
    have B1 := Lib.hid (chainX w L.out b1)
    have Y1 := Lib.hid (Y.out.later b1)
    have EN := BxN.new w1 #[.string zs] 9
    have LB := lay w1 (.cells #[.string zs] 9)
    have RQ := Lib.hid (RS.out w1.heap.size (w1.alloc (.cells #[.string zs] 9)) EN.lt (EN.cells 0 _ rfl))
    have B2 := Lib.hid (chainX w B1.out LB)
    have Y2 := Lib.hid (Y1.out.later LB)
    clear b1 EN LB
    go_wp2_with fail
    refine RQ.out.mono ?_
    rintro e w3 ⟨a, c, rfl, hc, o, b3⟩
    rw [List.length_replicate] at hc
    have B3 := Lib.hid (chainX w B2.out b3)
    have Y3 := Lib.hid (Y2.out.later b3)
    have HC := Lib.hid hc
    have SZ := Lib.hid (show w.heap.size + 1 ≤ (w1.alloc (.cells #[.string zs] 9)).heap.size from by have := Y2.out.lt; omega)
    have O := Lib.hid o
    clear b3 hc o
    simp only [List.length_replicate]
    have v0 := Y3.out.cells 0 _ rfl
    have v1 := Y3.out.cells 1 _ rfl
    have vf0 := Y3.out.free 0
    have vf1 := Y3.out.free 1
    have F := Lib.hid (show AnsK (newD k) 0 w (.returned (.tuple #[.agg #[.slice a k c, .slice none 0 0], .int .i64 0])) ((w3.setCell ⟨w.heap.size, 0, none⟩ (.slice a k c)).setCell ⟨w.heap.size, 1, none⟩ (.slice none 0 0)) from by
      have e : (newD k).sectors = List.replicate k zs := by rw [← hz]; rfl
      have e2 : (newD k).sectors.length = k := by rw [e, List.length_replicate]
      have z0 := (O.out.set ⟨w.heap.size, 0, none⟩ (.slice a k c) (.inl (by show w.heap.size < _; have := SZ.out; omega))).set ⟨w.heap.size, 1, none⟩ (.slice none 0 0) (.inl (by show w.heap.size < _; have := SZ.out; omega))
      refine ⟨a, c, none, 0, by rw [e2]; rfl, ⟨Nat.le_refl _, w3.heap.size, by have := B3.out.size; omega, by simp only [World.size_setCell]; exact Nat.le_refl _, by rw [e]; exact z0.wide (by have := SZ.out; omega) (Nat.le_refl _), .inl rfl⟩, ⟨by rw [e2]; exact HC.out, Nat.le_refl _⟩, (B3.out.setCell (p := ⟨w.heap.size, 0, none⟩) (Nat.le_refl _) _).setCell (p := ⟨w.heap.size, 1, none⟩) (Nat.le_refl _) _⟩)
    clear L Y B1 Y1 B2 Y2 RQ RS REP CI
    go_wp2
    exact bodyPost_ret (v := .tuple #[.agg #[.slice a k c, .slice none 0 0], .int .i64 0]) (by simp [results, Try.results20, go_sem, *]) rfl F.out
end Go.Proofs.Ytpafhbnjefdhjaa.Rd
