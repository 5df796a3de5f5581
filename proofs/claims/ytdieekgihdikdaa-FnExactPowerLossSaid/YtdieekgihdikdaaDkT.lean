/-
  WriteSector in the program and in the model.
-/
import Derived.Test.YtdieekgihdikdaaDkV
namespace Go.Proofs.Ytdieekgihdikdaa.Rd
open Go.RowKit Go.ChangeShapes Go.WideShapes Go.Proofs.Ytdieekgihdikdaa.GfI Go.Proofs.Ytdieekgihdikdaa.GfS
open Go.Proofs.Ytdieekgihdikdaa.Sg (BxN)
set_option linter.unusedVariables false
set_option linter.unusedSimpArgs false

theorem AnsK.lift {d : DDisk} {w W w2 : World} {v : Value} {y : Nat} {v0 v1 : Value} {rc : Int} (b : Below w.heap.size w W) (h : AnsK d rc W (.returned v) w2) (h0 : w.heap.size ≤ y) (hy : y < W.heap.size) :
    AnsK d rc w (.returned v) ((w2.setCell ⟨y, 0, none⟩ v0).setCell ⟨y, 1, none⟩ v1) := by
  obtain ⟨a0, c0, a1, c1, e, o, l, bb⟩ := h
  exact ⟨a0, c0, a1, c1, e, o.lift b hy b.size, l, ((chain b bb).setCell (p := ⟨y, 0, none⟩) h0 _).setCell (p := ⟨y, 1, none⟩) h0 _⟩
theorem rows_one {w : World} {s : ByteArray} (hs : s.size ≤ 9223372036854775807) : Rows true 0 (w.alloc (.cells #[.string s] 9)) (some ⟨w.heap.size, 0, none⟩) [s] := by
  have EN := BxN.new w #[.string s] 9
  refine .inr ⟨w.heap.size, 0, rfl, Nat.zero_le _, EN.lt, fun _ => EN.free, fun i q hq => ?_⟩
  have hi : i < 1 := (List.getElem?_eq_some_iff.1 hq).1
  obtain rfl : i = 0 := by omega
  obtain rfl : s = q := by simpa using hq
  exact ⟨[.string s], ⟨rfl, hs⟩, fun cc u hu => by rw [Nat.zero_mul, Nat.zero_add]; exact EN.cells cc u (by simpa using hu)⟩
theorem lok_one {s : ByteArray} : lok [s] ↔ sec s = true := by
  unfold lok; simp
theorem inW_one {n : Nat} {a : Int} {s : ByteArray} : inW n a [s] ↔ inD n a = true := by
  unfold inW inD
  simp
  omega
end Go.Proofs.Ytdieekgihdikdaa.Rd
