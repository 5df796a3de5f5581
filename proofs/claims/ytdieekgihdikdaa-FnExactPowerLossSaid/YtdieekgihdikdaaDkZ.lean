/-
  How much a disk measures.
-/
import Derived.Test.YtdieekgihdikdaaDkF
namespace Go.Proofs.Ytdieekgihdikdaa.Rd
open Go.RowKit Go.ChangeShapes Go.WideShapes Go.Proofs.Ytdieekgihdikdaa.GfI Go.Proofs.Ytdieekgihdikdaa.GfS
open Go.Proofs.Ytdieekgihdikdaa.Sg (BxN)
set_option linter.unusedVariables false
set_option linter.unusedSimpArgs false

theorem sz_secs (l : List ByteArray) (h : ∀ s, s ∈ l → sec s = true) : Rdb.sz l = 65 * l.length := by
  have : ∀ l : List ByteArray, (∀ s, s ∈ l → sec s = true) → (l.map (Rdb.sz : ByteArray → Nat)).sum = 64 * l.length := by
    intro l; induction l with
    | nil => intro _; rfl
    | cons x l ih =>
      intro h
      have hx : x.size = 64 := of_decide_eq_true (h x (by simp))
      have hz : (Rdb.sz x : Nat) = x.size := rfl
      rw [List.map_cons, List.sum_cons, ih (fun s hs => h s (by simp [hs])), List.length_cons, hz, hx]; omega
  have e : Rdb.sz l = l.length + (l.map (Rdb.sz : ByteArray → Nat)).sum := rfl
  rw [e, this l h]; omega
theorem sz_waits (l : List DPending) (h : ∀ x, x ∈ l → sec x.bytes = true) : Rdb.sz l = 65 * l.length := by
  have : ∀ l : List DPending, (∀ s, s ∈ l → sec s.bytes = true) → (l.map (Rdb.sz : DPending → Nat)).sum = 64 * l.length := by
    intro l; induction l with
    | nil => intro _; rfl
    | cons x l ih =>
      intro h
      have hx : x.bytes.size = 64 := of_decide_eq_true (h x (by simp))
      have hz : (Rdb.sz x : Nat) = x.bytes.size := rfl
      rw [List.map_cons, List.sum_cons, ih (fun s hs => h s (by simp [hs])), List.length_cons, hz, hx]; omega
  have e : Rdb.sz l = l.length + (l.map (Rdb.sz : DPending → Nat)).sum := rfl
  rw [e, this l h]; omega
theorem wait_sec {n : Nat} {x : DPending} (h : wait n x = true) : sec x.bytes = true := by
  unfold wait at h; exact (Bool.and_eq_true_iff.1 h).2
theorem putS_sec {l : List ByteArray} {x : DPending} (h : ∀ s, s ∈ l → sec s = true) (hx : sec x.bytes = true) : ∀ s, s ∈ putS l x → sec s = true := fun s hs => by
  rcases List.mem_or_eq_of_mem_set hs with q | q
  · exact h s q
  · rw [q]; exact hx
theorem flushL_sec : ∀ (ws : List DPending) (l : List ByteArray), (∀ s, s ∈ l → sec s = true) → (∀ x, x ∈ ws → sec x.bytes = true) → ∀ s, s ∈ flushL l ws → sec s = true
  | [], _, h, _ => h
  | x :: ws, l, h, k => flushL_sec ws (putS l x) (putS_sec h (k x (by simp))) (fun y hy => k y (by simp [hy]))
theorem sz_disk {d : DDisk} (n m : Nat) (h0 : ∀ s, s ∈ d.sectors → sec s = true) (h1 : ∀ x, x ∈ d.waits → sec x.bytes = true) (hn : d.sectors.length ≤ n) (hm : d.waits.length ≤ m) (hb : 65 * n + 65 * m ≤ 2097152) : Rdb.sz d ≤ 2097152 := by
  have E : Rdb.sz d = Rdb.sz d.sectors + Rdb.sz d.waits := rfl
  rw [E, sz_secs _ h0, sz_waits _ h1]
  have := Nat.mul_le_mul_left 65 hn
  have := Nat.mul_le_mul_left 65 hm
  omega
theorem sz_flushD {d : DDisk} (h : DOk d) : Rdb.sz (flushD d) ≤ 2097152 :=
  sz_disk 1200 0 (flushL_sec _ _ h.2.2.1 (fun x hx => wait_sec (h.2.2.2 x hx))) (fun x hx => by simp [flushD] at hx) (by rw [show (flushD d).sectors.length = _ from flushL_len _ _]; exact h.1.2) (Nat.le_refl _) (by omega)
theorem exW (P : Prop) : ∃ b : Bool, b = true ↔ P := by
  classical
  exact ⟨decide P, by simp⟩
end Go.Proofs.Ytdieekgihdikdaa.Rd
