/-
  A buffer of bytes that a call fills by append and turns into a string; the varint of a number.
-/
import Derived.Test.YtbnjgehgaellmaaDoorProg
import Derived.WalkKit
import Derived.Outline
import Derived.BigQuiet
import Derived.Deep.QuietTactic
import Derived.WalkLawsBesides
import Derived.WalkSpells
import Derived.Handy
import Derived.Lib.Hide
import Derived.Lib.BufSteps
import Derived.Laws.BytesArg
namespace Go.Proofs.YtbnjgehgaellmaaDoor.Bf
open Go.RowKit

theorem info1 : (Tryd.prog.info? 5).map (fun i => (i.zero, i.size, i.bytes)) = some (some (.int .u8 0), 1, 1) := by kernel_rfl

/-- In world w the slice v is the call's own and holds the bytes xs; nothing that was there in W0 has turned. -/
def Buf (W0 w : World) (v : Value) (xs : List Int) : Prop := Lib.OwnBuf W0.heap.size 5 v xs.length (xs.map (Value.int .u8)) W0 w
theorem Buf.below {W0 w : World} {v : Value} {xs : List Int} (h : Buf W0 w v xs) : Below W0.heap.size W0 w := h.2.1
theorem Buf.alloc {W0 w : World} {v : Value} {xs : List Int} (h : Buf W0 w v xs) (o : Obj) : Buf W0 (w.alloc o) v xs := Lib.OwnBuf.alloc h o
theorem Buf.drewN {W0 w : World} {v : Value} {xs : List Int} (h : Buf W0 w v xs) (q : Nat) : Buf W0 (w.drewN q) v xs := Lib.OwnBuf.drewN h q
theorem Buf.made (W0 : World) (cap : Nat) (cs : Array Value) (hc : cs.size = cap) (hm : cap ≤ 1000) : Buf W0 (W0.alloc (.cells cs 5)) (.slice (some ⟨W0.heap.size, 0, none⟩) 0 cap) [] :=
  ⟨World.ownsRowF_of (World.ownsRow_made _ _ _ (Nat.le_refl _) (by unfold maxLen; omega) (by omega)), (Below.refl _ _).alloc (Nat.le_refl _) _, by simp⟩
/-- The bytes of a varint; f bounds their number. -/
def encF : Nat → Int → List Int
  | 0, m => [m]
  | f + 1, m => if m < 128 then [m] else (m % 128 + 128) :: encF f (m / 128)
theorem encF_small (f : Nat) {m : Int} (h : m < 128) : encF f m = [m] := by
  cases f with
  | zero => rfl
  | succ f => unfold encF; rw [if_pos h]
theorem encF_big (f : Nat) {m : Int} (h : 128 ≤ m) : encF (f + 1) m = (m % 128 + 128) :: encF f (m / 128) := by
  conv => lhs; unfold encF
  rw [if_neg (by omega)]
/-- What holds when the bytes acc are written and m is left. -/
def Togo (n : Int) (acc : List Int) (m : Int) : Prop := 0 ≤ m ∧ m ≤ 4611686018427387904 ∧ acc.length ≤ 8 ∧ m < 128 ^ (9 - acc.length) ∧ acc ++ encF (9 - acc.length) m = encF 9 n
theorem Togo.start {n : Int} (h0 : 0 ≤ n) (h1 : n ≤ 4611686018427387904) : Togo n [] n := ⟨h0, h1, by simp, by simp; omega, rfl⟩
theorem Togo.step {n m : Int} {acc : List Int} (h : Togo n acc m) (hm : 128 ≤ m) : Togo n (acc ++ [m % 128 + 128]) (m / 128) := by
  obtain ⟨h0, h1, h2, h3, h4⟩ := h
  obtain ⟨f, hf⟩ : ∃ f, 9 - acc.length = f + 1 := ⟨8 - acc.length, by omega⟩
  have hf1 : 1 ≤ f := by
    rcases Nat.eq_zero_or_pos f with h | h
    · subst h; rw [hf] at h3; simp at h3; omega
    · exact h
  have hl : 9 - (acc ++ [m % 128 + 128]).length = f := by simp; omega
  have hp : (128 : Int) ^ (f + 1) = 128 ^ f * 128 := Int.pow_succ _ _
  refine ⟨by omega, by omega, by simp; omega, ?_, ?_⟩
  · rw [hl]; rw [hf, hp] at h3; omega
  · rw [hl, ← h4, hf, encF_big f hm, List.append_assoc]; rfl
theorem Togo.done {n m : Int} {acc : List Int} (h : Togo n acc m) (hm : m < 128) : acc ++ [m] = encF 9 n := by
  rw [← h.2.2.2.2, encF_small _ hm]
theorem Togo.bounds {n m : Int} {acc : List Int} (h : Togo n acc m) : 0 ≤ m ∧ m ≤ 4611686018427387904 ∧ acc.length ≤ 8 := ⟨h.1, h.2.1, h.2.2.1⟩
end Go.Proofs.YtbnjgehgaellmaaDoor.Bf
