/-
  A byte of a text turned, in the model.
-/
import Derived.Test.YtpafhbnjefdhjaaBlk
import Derived.Laws.IdiomStrings
namespace Go.Proofs.Ytpafhbnjefdhjaa.Rd
open Go.RowKit Go.ChangeShapes Go.WideShapes Go.Proofs.Ytpafhbnjefdhjaa.GfI Go.Proofs.Ytpafhbnjefdhjaa.GfS
open Go.Proofs.Ytpafhbnjefdhjaa.Sg (BxN)
set_option linter.unusedVariables false
set_option linter.unusedSimpArgs false

/-- Numbers of bytes, one of them turned by an exclusive or. -/
def turnL (xs : List Int) (p : Nat) (y : Int) : List Int := xs.set p (bits .xor .u8 (xs.getD p 0) y)
theorem turnL_len (xs : List Int) (p : Nat) (y : Int) : (turnL xs p y).length = xs.length := List.length_set
def turnS (s : ByteArray) (p : Nat) (y : Int) : ByteArray := strOfNums (turnL (nums s) p y)
theorem turnS_size (s : ByteArray) (p : Nat) (y : Int) : (turnS s p y).size = s.size := by unfold turnS; rw [strOfNums_size, turnL_len, nums_len]
theorem bytesRow_num (s : ByteArray) (cap j : Nat) (hj : j < s.size) : (bytesRow s cap)[j]? = some (.int .u8 ((nums s).getD j 0)) := by
  have hj' : j < s.data.size := hj
  rw [bytesRow_at s cap j hj', List.getD_eq_getElem?_getD]
  unfold nums
  rw [List.getElem?_map, Array.getElem?_toList, Array.getElem?_eq_getElem hj']; rfl
/-- []byte(s), in memory of its own. -/
theorem bytes_of (s : ByteArray) (w : World) : ∃ W c, (convert 9 57 (.string s)).run Try.prog w = .ok (.slice (some ⟨w.heap.size, 0, none⟩) s.size c) W ∧ Below w.heap.size w W ∧ w.heap.size < W.heap.size ∧
    (∀ i, i < s.size → W.cell? ⟨w.heap.size, i, none⟩ = some (.int .u8 ((nums s).getD i 0))) ∧ (∀ i, i < s.size → W.frozen? ⟨w.heap.size, i, none⟩ = false) := by
  have h := run_bytes_of_string (P := Try.prog) w 9 57 5 s Try.underlying9 Try.underlying57 Try.underlying5
  generalize hc : grownCap w s.size 0 5 = c at h
  have hg : (w.drew.alloc (.cells (bytesRow s c) 5 ((bytesRow s c).size, (bytesRow s c).size + 1))).heap[w.heap.size]? = some (.cells (bytesRow s c) 5 ((bytesRow s c).size, (bytesRow s c).size + 1)) := heap_alloc_new w.drew _
  refine ⟨_, _, h, ((Below.refl _ w).drew).trans (lay w.drew _), by rw [World.size_alloc]; exact Nat.lt_succ_self _, fun i hi => ?_, fun i hi => ?_⟩
  · rw [cell_of_row _ _ _ _ _ _ hg, bytesRow_num s c i hi]
  · have hsz : s.size ≤ (bytesRow s c).size := by unfold bytesRow; rw [Array.size_append, Array.size_map]; show s.data.size ≤ _; omega
    have hg' : (w.drew.alloc (.cells (bytesRow s c) 5 ((bytesRow s c).size, (bytesRow s c).size + 1))).heap[w.heap.size]? = some (.cells (bytesRow s c) 5 ((bytesRow s c).size, (bytesRow s c).size + 1)) := hg
    simp only [World.frozen?, hg']
    simp
    omega
set_option maxRecDepth 100000 in
set_option maxHeartbeats 4000000 in
theorem specTurn (s : ByteArray) (hs : s.size ≤ 1000000) (p : Nat) (hp : p < s.size) (y : Int) (hy : IntKind.u8.wrap y = y) (w : World) : Calls Try.prog 77 #[.string s, .int .i64 p, .int .i64 y] w (RetW (.string (turnS s p y)) w) := by
  obtain ⟨W, c, hbs, hB, hlt, hcell, hfr⟩ := bytes_of s w
  have c0 := hcell p hp
  have z0 := hfr p hp
  have c0' : W.cell? ⟨w.heap.size, p, none⟩ = some (.int .u8 ((nums s).getD p 0)) := c0
  have hcv0 := run_convert_bytes_arg (P := Try.prog) (W.setCell ⟨w.heap.size, p, none⟩ (.int .u8 (bits .xor .u8 ((nums s).getD p 0) y))) 57 5 Try.underlying57 Try.underlying5 w.heap.size 0 s.size c (turnL (nums s) p y) (by rw [turnL_len, nums_len]) (fun i hi => by
    have hci := hcell i hi
    rw [Nat.zero_add]
    unfold turnL
    simp only [List.getD_eq_getElem?_getD, List.getElem?_set] at hci ⊢
    by_cases e : p = i
    · subst e; rw [if_pos rfl, if_pos (by rw [nums_len]; exact hp)]; exact World.cell?_setCell_same _ _ _ c0
    · rw [if_neg e]; exact (World.cell?_setCell_other _ _ _ _ (fun q => e (congrArg Addr.off q))).trans hci) 9 Try.underlying9
  have L := Lib.hid (hB.setCell (p := ⟨w.heap.size, p, none⟩) (Nat.le_refl _) (.int .u8 (bits .xor .u8 ((nums s).getD p 0) y)))
  have p0 : (0 : Int) ≤ (p : Int) := by omega
  have p1 : (p : Int) < (s.size : Int) := by omega
  have hcv : (convert 57 9 (.slice (some ⟨w.heap.size, 0, none⟩) s.size c)).run Try.prog (W.setCell ⟨w.heap.size, p, none⟩ (.int .u8 (bits .xor .u8 ((nums s).getD p 0) y))) = .ok (.string (turnS s p y)) (W.setCell ⟨w.heap.size, p, none⟩ (.int .u8 (bits .xor .u8 ((nums s).getD p 0) y))) := hcv0
  clear hcv0 hcell hfr hB c0
  generalize turnS s p y = R at *
  generalize (nums s).getD p 0 = x at *
  go_enter Try.func77, Try.ntmps77
  go_wp2
  go_ret
  exact ⟨rfl, L.out⟩
end Go.Proofs.Ytpafhbnjefdhjaa.Rd
