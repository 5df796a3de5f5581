/-
  A grid out of a matrix; the product of two grids.
-/
import Derived.Test.YtbnjgehgaellmaaMatRes
import Derived.Test.YtbnjgehgaellmaaAddT
namespace Go.Proofs.Ytbnjgehgaellmaa.Gf2
open Go.RowKit Go.Proofs.Ytbnjgehgaellmaa.At Go.Proofs.Ytbnjgehgaellmaa.MixC Go.Proofs.Ytbnjgehgaellmaa.Ml Go.Proofs.Ytbnjgehgaellmaa.Gr Go.Proofs.Ytbnjgehgaellmaa.Gj Go.Proofs.Ytbnjgehgaellmaa.GfI
set_option linter.unusedVariables false

/-- The matrix whose cells are zs. -/
def ofL (wd : Nat) (zs : List Int) : Mx := fun i j => zs.getD (i * wd + j) 0
theorem Mat_all {k : IntKind} {B : Nat} {w w1 : World} {g h wd : Nat} {M : Mx} {zs : List Int} (m : Mat k B w g h wd M) (hz : zs.length = h * wd) (r : Wrote k w w1 g 0 zs.length (fun i => zs.getD i 0)) : Mat k B w1 g h wd (ofL wd zs) := by
  refine ⟨m.old, Nat.lt_of_lt_of_le m.lt r.size, fun i j hi hj => ?_, fun i => (r.free i).trans (m.free i)⟩
  have := r.cell (i * wd + j) (by rw [hz]; exact flat_lt hi hj)
  rwa [Nat.zero_add] at this
theorem Mat_dst {k : IntKind} {B : Nat} {w : World} {g h wd : Nat} {M : Mx} (m : Mat k B w g h wd M) {n : Nat} (hn : n = h * wd) (j : Nat) (hj : j < n) : (w.cell? ⟨g, 0 + j, none⟩).isSome = true := by
  have hw : 0 < wd := by rcases Nat.eq_zero_or_pos wd with q | q; (rw [hn, q, Nat.mul_zero] at hj; omega); exact q
  have := m.cell (j / wd) (j % wd) (by rw [Nat.div_lt_iff_lt_mul hw]; omega) (Nat.mod_lt _ hw)
  rw [Nat.mul_comm, Nat.div_add_mod] at this
  rw [Nat.zero_add, this]; rfl
theorem Words_src {w : World} {a : Option Addr} {zs : List Int} (h : Words w a zs) (h0 : 0 < zs.length) : ∃ ad, a = some ad ∧ ∀ j, j < zs.length → w.cell? (ad.add j) = some (.int .i64 (zs.getD j 0)) := by
  obtain ⟨b, off, rfl, _, hc⟩ := h.resolve_left (by intro e; rw [e] at h0; simp at h0)
  exact ⟨_, rfl, fun j hj => by rw [Addr.add_lit]; exact hc j hj⟩

set_option maxRecDepth 100000 in
theorem gridOf (h wd : Nat) (hh : h ≤ 8) (hw : wd ≤ 8) (a : Option Addr) (cap : Nat) (zs : List Int) (hz : zs.length = h * wd) (w : World) (W : Words w a zs) :
    Calls Try.prog 42 #[mval h wd (.slice a zs.length cap)] w (NewG h wd (ofL wd zs) w) := by
  have hN : h * wd ≤ 8 * 8 := Nat.mul_le_mul hh hw
  have C := Lib.hid (newGrid h wd (by omega))
  obtain ⟨n, hn⟩ : ∃ n, n = zs.length := ⟨_, rfl⟩
  have FIN : ∀ g e w', e = Ending.returned (gval h wd g n) → Mat .i64 w.heap.size w' g h wd (ofL wd zs) → Below w.heap.size w w' → NewG h wd (ofL wd zs) w e w' := fun g e w' x y z => ⟨g, by rw [← hz, ← hn]; exact x, y, z⟩
  have FIN := Lib.hid FIN
  have R0 := (Bx.top (w.alloc (.cells #[.int .i64 h, .int .i64 wd, .slice a n cap] 26)) (.int .i64 0) (.int .i64 0) (.slice none 0 0) 96)
  have M0 := (Bx.top w (.int .i64 h) (.int .i64 wd) (.slice a n cap) 26).alloc (.cells #[.int .i64 0, .int .i64 0, .slice none 0 0] 96)
  have bb := chain (lay w (.cells #[.int .i64 h, .int .i64 wd, .slice a n cap] 26)) (lay _ (.cells #[.int .i64 0, .int .i64 0, .slice none 0 0] 96))
  rw [World.size_alloc] at R0
  have W0 := W.below bb
  have HZ := Lib.hid hz
  have HNN := Lib.hid hn
  have hn64 : n ≤ 64 := by omega
  rw [← hn]
  clear W hz hn hN
  go_enter Try.func42, Try.ntmps42
  go_wp2_with fail
  refine (C.out _).mono ?_
  rintro e w1 ⟨g, rfl, G0, b1⟩
  rw [← HZ.out, ← HNN.out]
  have hg0 := G0.old
  have hg1 := G0.lt
  have hz1 := b1.size
  rw [World.size_alloc, World.size_alloc] at hg0 hz1
  have l1 := lay w1 (.cells #[.int .i64 h, .int .i64 wd, .slice (some ⟨g, 0, none⟩) n n] 96)
  have R1 := (R0.below b1).below l1
  have M1 := (M0.below b1).below l1
  have T1 := Bx.top w1 (.int .i64 h) (.int .i64 wd) (.slice (some ⟨g, 0, none⟩) n n) 96
  have G1 := G0.below l1
  have B1 := chain (chain bb b1) l1
  have W1 := (W0.below b1).below l1
  have SRC := Lib.hid (Words_src W1)
  have DST := Lib.hid (fun j (hj : j < zs.length) => Mat_dst G1 HZ.out j hj)
  have FRE := Lib.hid G1.free
  have HG := Lib.hid G1
  have HR := Lib.hid (And.intro R1 (And.intro T1 B1))
  obtain ⟨-, c0, c1, c2, -⟩ := T1
  obtain ⟨-, d0, d1, d2, -⟩ := M1
  clear R0 M0 bb b1 l1 R1 G0 G1 B1 W0 W1
  go_wp2_with (with_reducible refine wpList_copy_ints (k := .i64) rfl (.tmp 10) (.tmp 12) 22 22 rfl 2 Try.underlying22 (by kernel_rfl) g 0 n n a n cap rfl rfl zs (by rw [HNN.out]; simp) SRC.out DST.out FRE.out ?_; intro w2 W2; have R2 := HR.out.1.wrote W2 (by omega); have T2 := HR.out.2.1.wrote W2 (by omega); have B2 := Lib.hid (W2.below HR.out.2.2 (by omega)); have G2 := Lib.hid (Mat_all HG.out HZ.out W2); clear c0 c1 c2 d0 d1 d2 W2; obtain ⟨-, c0, c1, c2, -⟩ := T2; obtain ⟨-, d0, d1, d2, f0, f1, f2⟩ := R2)
  refine bodyPost_ret (v := gval h wd g n) (by simp [results, Try.results42, go_sem, *]) rfl (FIN.out g _ _ rfl ?_ ?_)
  · have G3 := G2.out
    exact matMono (((G3.far (by show w.heap.size + 1 ≠ g; omega) _).far (by show w.heap.size + 1 ≠ g; omega) _).far (by show w.heap.size + 1 ≠ g; omega) _) (by simp; omega)
  · exact ((B2.out.setCell (by show w.heap.size ≤ w.heap.size + 1; omega) _).setCell (by show w.heap.size ≤ w.heap.size + 1; omega) _).setCell (by show w.heap.size ≤ w.heap.size + 1; omega) _
end Go.Proofs.Ytbnjgehgaellmaa.Gf2
