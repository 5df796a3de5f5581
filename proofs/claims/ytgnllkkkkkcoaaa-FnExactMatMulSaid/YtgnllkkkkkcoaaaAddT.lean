/-
  A multiple of one row added to another, in place: what the program's addTimes leaves.
-/
import Derived.Test.YtgnllkkkkkcoaaaGridFn
import Derived.Deep.RegionWith
namespace Go.Proofs.Ytgnllkkkkkcoaaa.Gf2
open Go.RowKit Go.Proofs.Ytgnllkkkkkcoaaa.At Go.Proofs.Ytgnllkkkkkcoaaa.MixC Go.Proofs.Ytgnllkkkkkcoaaa.Ml Go.Proofs.Ytgnllkkkkkcoaaa.Gr Go.Proofs.Ytgnllkkkkkcoaaa.Gj Go.Proofs.Ytgnllkkkkkcoaaa.GfI
set_option linter.unusedVariables false

/-- The powers of f lie in block p, which is new. -/
structure Pbx (w wr : World) (f : Int) (p : Nat) : Prop where
  new : w.heap.size ≤ p
  lt : p < wr.heap.size
  cell : ∀ i, i < 8 → wr.cell? ⟨p, i, none⟩ = some (.int .i64 (pwZ f i))
theorem Pbx.below {w wr w2 : World} {f : Int} {p : Nat} (h : Pbx w wr f p) (b : Below wr.heap.size wr w2) : Pbx w w2 f p :=
  ⟨h.new, Nat.lt_of_lt_of_le h.lt b.size, fun i hi => (b.cell h.lt).trans (h.cell i hi)⟩
theorem Pbx.put {w wr : World} {f : Int} {p : Nat} (h : Pbx w wr f p) {a : Addr} (ha : a.block < w.heap.size) (v : Value) : Pbx w (wr.setCell a v) f p :=
  ⟨h.new, by simpa using h.lt, fun i hi => (World.cell?_setCell_other _ _ _ _ (fun e => by have := congrArg Addr.block e; have h2 := h.new; simp at this; omega)).trans (h.cell i hi)⟩
/-- What a callee that fills a row leaves. -/
def RowSet (k : IntKind) (w : World) (g o n : Nat) (F : Nat → Int) (e : Ending) (w' : World) : Prop := e = .returned (.tuple #[]) ∧ Wrote k w w' g o n F

set_option maxRecDepth 100000 in
set_option maxHeartbeats 2000000 in
theorem addTimes (f : Int) (hf : El f) (g o g2 o2 n cap1 cap2 : Nat) (A B : Nat → Int) (w : World) (hA : ∀ i, i < n → El (A i)) (hB : ∀ i, i < n → El (B i)) (hg : g < w.heap.size) (hg2 : g2 < w.heap.size)
    (hca : ∀ i, i < n → w.cell? ⟨g, o + i, none⟩ = some (.int .i64 (A i))) (hcb : ∀ i, i < n → w.cell? ⟨g2, o2 + i, none⟩ = some (.int .i64 (B i))) (hfr : ∀ i, w.frozen? ⟨g, i, none⟩ = false)
    (hd : g2 ≠ g ∨ o2 + n ≤ o ∨ o + n ≤ o2) (hn : n ≤ 100000) :
    Calls Try.prog 96 #[.slice (some ⟨g, o, none⟩) n cap1, .slice (some ⟨g2, o2, none⟩) n cap2, .int .i64 f] w (RowSet .i64 w g o n (fun i => xorZ (A i) (mulZ f (B i)))) := by
  have HA := Lib.hid (fun i (hi : i < n) => And.intro (hA i hi) (hca i hi))
  have HB := Lib.hid (fun i (hi : i < n) => And.intro (hB i hi) (hcb i hi))
  have HF := Lib.hid hfr
  have HD := Lib.hid hd
  obtain ⟨f0, f1⟩ := hf
  clear hA hca hB hcb hfr hd
  go_enter Try.func96, Try.ntmps96
  go_wp2_with fail
  refine (powersOf f f0 f1 _).mono ?_
  rintro e w1 ⟨rfl, b1⟩
  rw [row8]
  have P0 : Pbx w (w1.alloc (.cells #[.int .i64 (pwZ f 0), .int .i64 (pwZ f 1), .int .i64 (pwZ f 2), .int .i64 (pwZ f 3), .int .i64 (pwZ f 4), .int .i64 (pwZ f 5), .int .i64 (pwZ f 6), .int .i64 (pwZ f 7)] 72)) f w1.heap.size := ⟨b1.size, by simp, cells8 _ _⟩
  have S0 : Part .i64 w (w1.alloc (.cells #[.int .i64 (pwZ f 0), .int .i64 (pwZ f 1), .int .i64 (pwZ f 2), .int .i64 (pwZ f 3), .int .i64 (pwZ f 4), .int .i64 (pwZ f 5), .int .i64 (pwZ f 6), .int .i64 (pwZ f 7)] 72)) g o (fun i => xorZ (A i) (mulZ f (B i))) 0 := Part.zero.later hg (chain b1 (lay _ _))
  have hsz := b1.size
  clear b1
  go_wp2_with fail
  go_loopw [13] (fun i wr => ∃ k : Nat, k ≤ n ∧ i = .int .i64 k ∧ Part .i64 w wr g o (fun i => xorZ (A i) (mulZ f (B i))) k ∧ Pbx w wr f w1.heap.size) (fun i _ => n - (intOf i).toNat)
  case atStart => exact ⟨0, by omega, rfl, S0, P0⟩
  case round =>
    obtain ⟨k, hk, rfl, S, P⟩ := hrel
    clear S0 P0
    by_cases hlt : k < n
    · obtain ⟨eA, cA⟩ := HA.out k hlt
      obtain ⟨eB, cB⟩ := HB.out k hlt
      have c2 : wr.cell? ⟨g2, o2 + k, none⟩ = some (.int .i64 (B k)) := by
        by_cases e : g2 = g
        · rw [e] at cB ⊢
          have hd := HD.out
          exact (S.out _ (by omega)).trans cB
        · exact (World.cell?_of_block (S.block g2 hg2 e)).trans cB
      have c1 : ∀ q, (wr.drewN q).cell? ⟨g, o + k, none⟩ = some (.int .i64 (A k)) := fun q => (S.out _ (.inr (Nat.le_refl _))).trans cA
      have c10 : wr.cell? ⟨g, o + k, none⟩ = some (.int .i64 (A k)) := c1 0
      have fr : ∀ q, (wr.drewN q).frozen? ⟨g, o + k, none⟩ = false := fun q => (S.free _).trans (HF.out _)
      have fr0 : wr.frozen? ⟨g, o + k, none⟩ = false := fr 0
      have T := Lib.hid (fun q => times f (B k) f0 f1 eB.1 w1.heap.size (wr.drewN q) (fun i hi => P.cell i hi))
      have NX := Lib.hid (fun q => And.intro ((S.later hg (below_drewN (Below.refl _ _) q)).put cA) ((P.below (below_drewN (Below.refl _ _) q)).put (a := ⟨g, o + k, none⟩) hg (.int .i64 (xorZ (A k) (mulZ f (B k))))))
      have X := xor_i64 eA (El.mul (b := B k) ⟨f0, f1⟩)
      have hm := El.mul (b := B k) (⟨f0, f1⟩ : El f)
      generalize mulZ f (B k) = y at X T NX hm
      generalize xorZ (A k) y = z at X NX
      obtain ⟨m0, m1⟩ := hm
      clear S P cA cB eA
      go_wp2_with fail
      go_region_with ((refine (T.out 1).mono ?_; rintro e w' ⟨rfl, q, rfl⟩; rw [World.drewN_drewN]))
      all_goals
        have N := NX.out (1 + q)
        clear T NX c1 fr
        go_wp2
        go_roundw
        case rel => exact ⟨k + 1, by omega, by go_num, N.1, N.2⟩
        case measure => simp [intOf]; omega
    · obtain rfl : k = n := by omega
      have F := Lib.hid (show RowSet .i64 w g o k (fun i => xorZ (A i) (mulZ f (B i))) (.returned (.tuple #[])) wr from ⟨rfl, S.done⟩)
      clear S P
      go_wp2
      go_end0
      exact F.out
end Go.Proofs.Ytgnllkkkkkcoaaa.Gf2
