/-
  One element put behind a slice of the call's own, whatever the elements are.
-/
import Derived.Test.YthimpcfodbmhkaaMatRes2
import Derived.Test.YthimpcfodbmhkaaStrs
namespace Go.Proofs.Ythimpcfodbmhkaa.Ac
open Go.RowKit
open Go.Proofs.Ythimpcfodbmhkaa.Sg (BxN)
set_option linter.unusedVariables false
theorem wpList_append_cells {w0 : World} {ops : Array Oper} {rest : List Oper} {o : Oper} {a : Act} {Q : Exit → Act → World → Prop} (hgd : o.guard = none) (s x : Operand) (T E : TypeId) (z : Value) (size bytes : Nat)
    (ho : o.op = .call { callee := .builtin .append, args := #[s, x], argTypes := #[T, T] }) (hT : Try.prog.underlying T = some (.slice E)) (hI : (Try.prog.info? E).map (fun i => (i.zero, i.size, i.bytes)) = some (some z, size, bytes)) (hzs : z.cells.size = size) (hsz : 0 < size) (hby : bytes ≤ 4096)
    (B : Nat) (v : Value) (n : Nat) (xs cs : List Value) (hs : a.eval s = v) (hb : w0.ownsRow B E size v n xs) (hcs : cs.length = size) (h1 : ∀ u ∈ cs, u.oneCell' = true)
    (hx : a.eval x = .slice (some ⟨w0.heap.size, 0, none⟩) 1 1) (hlen : n ≤ 1000000) (hB : B ≤ w0.heap.size)
    (h : ∀ v' w', w'.ownsRow B E size v' (n + 1) (xs ++ cs) → (w0.alloc (.cells cs.toArray E)).grownBy w' v.ownBlock → wpList Try.prog ops Q rest (a.put o.dst v') w') : wpList Try.prog ops Q (o :: rest) a (w0.alloc (.cells cs.toArray E)) := by
  obtain ⟨i0, hi, hz0, hz1, hz2⟩ := info_parts hI
  have YN := BxN.new w0 cs.toArray E
  refine wpList_append_own _ hgd s x T ho B E i0 z size bytes hT hi hz0 hz1 hz2 hzs hsz v n xs hs (World.ownsRow.alloc hb _) ⟨w0.heap.size, 0, none⟩ 1 1 cs hx (by rw [hcs, Nat.one_mul]) (fun j u hu => by rw [Addr.add_lit, Nat.zero_add]; exact YN.cells j u (by simpa using hu)) h1 (by unfold maxLen; omega) (by
    have : (n + 1) * bytes ≤ 1000001 * 4096 := Nat.mul_le_mul (by omega) hby
    omega) (by simp; omega) ?_
  intro v' w' ho' hg' _
  exact h v' w' ho' hg'
end Go.Proofs.Ythimpcfodbmhkaa.Ac
