/-
  Grids of numbers: a new one of noughts, a row of one, the unit grid, a grid out of a matrix and back.
-/
import Derived.Test.YtbnjgehgaellmaaGrid
import Derived.Test.YtbnjgehgaellmaaGj
import Derived.Test.YtbnjgehgaellmaaMatLaw
import Derived.OwnWalk
import Derived.IntWalk
namespace Go.Proofs.Ytbnjgehgaellmaa.Gf2
open Go.RowKit Go.Proofs.Ytbnjgehgaellmaa.At Go.Proofs.Ytbnjgehgaellmaa.MixC Go.Proofs.Ytbnjgehgaellmaa.Ml Go.Proofs.Ytbnjgehgaellmaa.Gr Go.Proofs.Ytbnjgehgaellmaa.Gj
set_option linter.unusedVariables false

theorem matMono {k : IntKind} {B C : Nat} {w : World} {g h wd : Nat} {M : Mx} (m : Mat k B w g h wd M) (hC : C ≤ B) : Mat k C w g h wd M := ⟨Nat.le_trans hC m.old, m.lt, m.cell, m.free⟩
/-- A grid as a value. -/
abbrev gval (h wd g n : Nat) : Value := .agg #[.int .i64 h, .int .i64 wd, .slice (some ⟨g, 0, none⟩) n n]
/-- A new grid that holds M. -/
def NewG (h wd : Nat) (M : Mx) (w : World) (e : Ending) (w' : World) : Prop :=
  ∃ g, e = .returned (gval h wd g (h * wd)) ∧ Mat .i64 w.heap.size w' g h wd M ∧ Below w.heap.size w w'

theorem below_of_grown {V w1 : World} (h : V.grownBy w1 none) : Below V.heap.size V w1 := ⟨h.os, h.tape, h.output, h.size, fun k hk => h.block k hk (by simp)⟩
theorem matMade {k : IntKind} {B b n h wd : Nat} {w1 : World} {e : TypeId} (ho : w1.ownsRow B e 1 (.slice (some ⟨b, 0, none⟩) n n) n (madeCells (Value.int k 0).cells (n * 1)).toList) (hn : n = h * wd) :
    Mat k B w1 b h wd (fun _ _ => 0) := by
  have hx : (madeCells (Value.int k 0).cells (n * 1)).toList = List.replicate n (Value.int k 0) := by
    rw [Nat.mul_one]; exact toList_madeCells_one _ _
  rw [hx] at ho
  obtain ⟨hb, hlt⟩ := ho.lt b rfl
  refine ⟨hb, hlt, fun i j hi hj => ?_, fun i => ho.frozenAt i⟩
  have := flat_lt hi hj
  rw [ho.cellAt _ (by omega), List.getElem?_replicate, if_pos (by omega)]
def ValB (v : Value) (w : World) (e : Ending) (w' : World) : Prop := e = .returned v ∧ Below w.heap.size w w'
theorem chain {w a b : World} (h : Below w.heap.size w a) (k : Below a.heap.size a b) : Below w.heap.size w b := h.trans (k.mono h.size)
theorem lay (w : World) (x : Obj) : Below w.heap.size w (w.alloc x) := (Below.refl _ _).alloc (Nat.le_refl _) _

set_option maxRecDepth 100000 in
theorem newGrid (h wd : Nat) (hn : h * wd ≤ 100000) (w : World) :
    Calls Try.prog 43 #[.int .i64 h, .int .i64 wd] w (NewG h wd (fun _ _ => 0) w) := by
  obtain ⟨i0, hi, hz0, hz1, hz2⟩ := info_parts info2
  have hp0 : (0 : Int) ≤ (h : Int) * (wd : Int) := Int.mul_nonneg (by omega) (by omega)
  have hp1 : (h : Int) * (wd : Int) ≤ 100000 := by have : ((h * wd : Nat) : Int) ≤ 100000 := by omega
                                                   rwa [Int.natCast_mul] at this
  obtain ⟨n, hnn⟩ : ∃ n, n = h * wd := ⟨_, rfl⟩
  have hL : (h : Int) * (wd : Int) = (n : Int) := by rw [hnn]; exact (Int.natCast_mul _ _).symm
  rw [← hnn] at hn
  have HL := Lib.hid hL
  have FIN : ∀ e w', e = Ending.returned (gval h wd (w.heap.size + 1) n) → Mat .i64 w.heap.size w' (w.heap.size + 1) h wd (fun _ _ => 0) → Below w.heap.size w w' → NewG h wd (fun _ _ => 0) w e w' := fun e w' x y z => ⟨_, by rw [← hnn]; exact x, y, z⟩
  have FIN := Lib.hid FIN
  have HN := Lib.hid hnn
  clear hnn hL
  go_enter Try.func43, Try.ntmps43
  go_wp2_with (at_make; refine wpList_make_full _ rfl _ _ 22 rfl w.heap.size 2 i0 (.int .i64 0) 1 Try.underlying22 hi hz0 hz1 .i64 .i64 ((h : Int) * (wd : Int)) ((h : Int) * (wd : Int)) n rfl rfl HL.out HL.out (by rw [hz2]; omega) (by unfold maxLen; omega) (by simp) ?_; intro w1 hown1 hgrow1; have b1 := below_of_grown hgrow1; have r1 := box3 b1; simp only [World.size_alloc] at hown1; obtain ⟨c0, c1, c2, f0, f1, f2⟩ := r1; have M := Lib.hid (matMade hown1 HN.out); have bb := Lib.hid (chain (lay _ _) b1); clear hown1 hgrow1 b1)
  refine bodyPost_ret (v := gval h wd (w.heap.size + 1) n) (by simp [results, Try.results43, go_sem, *]) rfl (FIN.out _ _ rfl ?_ ?_)
  · exact ((M.out.far (by simp) _).far (by simp) _).far (by simp) _
  · exact ((bb.out.setCell (Nat.le_refl _) _).setCell (Nat.le_refl _) _).setCell (Nat.le_refl _) _

set_option maxRecDepth 100000 in
/-- The i-th row itself. -/
theorem row (h wd g i n : Nat) (hnn : n = h * wd) (hi : i < h) (hh : h ≤ 100000) (hn : n ≤ 100000) (w : World) :
    Calls Try.prog 44 #[gval h wd g n, .int .i64 i] w (ValB (.slice (some ⟨g, i * wd, none⟩) wd wd) w) := by
  have hle := flat_le (wd := wd) hi
  have q1 : ((i * wd : Nat) : Int) = (i : Int) * (wd : Int) := Int.natCast_mul _ _
  have q2 : (((i + 1) * wd : Nat) : Int) = ((i : Int) + 1) * (wd : Int) := by rw [Int.natCast_mul]; rfl
  have q3 : (i + 1) * wd = i * wd + wd := by rw [Nat.add_mul, Nat.one_mul]
  rw [← hnn] at hle
  obtain ⟨A, hA⟩ : ∃ A, A = i * wd := ⟨_, rfl⟩
  rw [← hA] at q1 q3 hle ⊢
  have x1 : IntKind.i64.wrap ((i : Int) * (wd : Int)) = (A : Int) := by rw [← q1]; exact IntWalk.i64_in _ (by omega)
  have x2 : IntKind.i64.wrap (((i : Int) + 1) * (wd : Int)) = (A : Int) + (wd : Int) := by rw [← q2, q3, IntWalk.i64_in _ (by omega)]; omega
  have x0 : IntKind.i64.wrap ((i : Int) + 1) = (i : Int) + 1 := IntWalk.i64_in _ (by omega)
  have hsl : ∀ w, Sem.run Try.prog (Instr.slice 22 (.slice (some ⟨g, 0, none⟩) n n) (some (.int .i64 (A : Int))) (some (.int .i64 ((A : Int) + (wd : Int)))) (some (.int .i64 ((A : Int) + (wd : Int))))) w = .ok (.slice (some ⟨g, A, none⟩) wd wd) w := by
    intro w
    have e1 : ((A : Int) + (wd : Int)).toNat = A + wd := by omega
    rw [run_slice_lhm (P := Try.prog) w _ _ _ _ Try.underlying22 _ _ _ _ _ _ (by omega) (by omega) (by omega) (by omega)]
    simp [sliced, e1, go_sem]
    intro hwd
    rw [hA, hwd, Nat.mul_zero]
  have L := Lib.hid (lay w)
  have HA := Lib.hid hA
  clear q1 q2 q3 hnn hA
  go_enter Try.func44, Try.ntmps44
  go_wp2
  go_quiet (fail)
  go_wp2
  go_ret
  exact ⟨rfl, below_drewN (L.out _) _⟩
end Go.Proofs.Ytbnjgehgaellmaa.Gf2
