/-
  The generator matrix: what the model's function returns; the exact law of CodeMatrix.
-/
import Derived.Test.YtgnllkkkkkcoaaaCodeM
import Derived.Test.YtgnllkkkkkcoaaaMatRes2
import Derived.Deep.AppendLies
import Derived.IntWalk
namespace Go.Proofs.Ytgnllkkkkkcoaaa.Gf2
open Go.RowKit Go.Proofs.Ytgnllkkkkkcoaaa.At Go.Proofs.Ytgnllkkkkkcoaaa.MixC Go.Proofs.Ytgnllkkkkkcoaaa.Ml Go.Proofs.Ytgnllkkkkkcoaaa.Gr Go.Proofs.Ytgnllkkkkkcoaaa.Gj Go.Proofs.Ytgnllkkkkkcoaaa.GfI Go.Proofs.Ytgnllkkkkkcoaaa.GfS
set_option linter.unusedVariables false

/-- The first n cells of the generator matrix. -/
def codeL (k n : Nat) : List Int := (List.range n).map fun x => codeM k (x / k) (x % k)
theorem codeL_len (k n : Nat) : (codeL k n).length = n := by simp [codeL]
theorem codeL_unit (k : Nat) : flat k k unitZ = codeL k (k * k) := by
  unfold flat codeL
  refine List.map_congr_left fun x hx => ?_
  have hx := List.mem_range.1 hx
  have hw : 0 < k := by rcases Nat.eq_zero_or_pos k with q | q; (rw [q] at hx; omega); exact q
  unfold codeM
  rw [if_pos (by rw [Nat.div_lt_iff_lt_mul hw]; exact hx)]
theorem codeL_snoc {k i j : Nat} (hj : j < k) (hi : k ≤ i) : codeL k (i * k + j + 1) = codeL k (i * k + j) ++ [mulZ i (invZ (xorZ i j))] := by
  unfold codeL
  rw [List.range_succ, List.map_append]
  have hw : 0 < k := by omega
  have h1 : (i * k + j) / k = i := by rw [Nat.mul_comm, Nat.mul_add_div hw, Nat.div_eq_of_lt hj]; rfl
  have h2 : (i * k + j) % k = j := by rw [Nat.mul_comm, Nat.mul_add_mod, Nat.mod_eq_of_lt hj]
  show _ ++ [codeM k ((i * k + j) / k) ((i * k + j) % k)] = _
  rw [h1, h2]
  unfold codeM
  rw [if_neg (by omega)]
theorem codeL_row (k i : Nat) : codeL k (i * k + k) = codeL k ((i + 1) * k + 0) := by rw [Nat.add_zero, Nat.add_mul, Nat.one_mul]

/-- A matrix's box, its block known whole. -/
def Whole (w : World) (b : Nat) (x y z : Value) : Prop := w.heap[b]? = some (.cells #[x, y, z] 33 (0, 0))
theorem Whole.lt {w : World} {b : Nat} {x y z : Value} (h : Whole w b x y z) : b < w.heap.size := by
  rcases Nat.lt_or_ge b w.heap.size with q | q
  · exact q
  · unfold Whole at h; rw [Array.getElem?_eq_none q] at h; cases h
theorem Whole.bx {w : World} {b : Nat} {x y z : Value} (h : Whole w b x y z) : Bx w b x y z := by
  have c : ∀ i, w.cell? ⟨b, i, none⟩ = (#[x, y, z] : Array Value)[i]? := fun i => cell_of_row w b i _ _ _ h
  have f : ∀ i, w.frozen? ⟨b, i, none⟩ = false := fun i => frozen_of_row w b i _ _ h
  exact ⟨h.lt, c 0, c 1, c 2, f 0, f 1, f 2⟩
theorem Whole.top (V : World) (x y z : Value) : Whole (V.alloc (.cells #[x, y, z] 33)) V.heap.size x y z := heap_alloc_new V _
theorem Whole.grown {w w1 : World} {b : Nat} {x y z : Value} {r : Option Nat} (h : Whole w b x y z) (g : w.grownBy w1 r) (hr : r ≠ some b) : Whole w1 b x y z :=
  (g.block b h.lt (fun q => hr q.symm)).trans h
theorem Whole.below {w w1 : World} {b : Nat} {x y z : Value} (h : Whole w b x y z) (k : Below w.heap.size w w1) : Whole w1 b x y z := (k.block b h.lt).trans h
theorem Whole.put2 {w : World} {b : Nat} {x y z : Value} (h : Whole w b x y z) (u : Value) : Whole (w.setCell ⟨b, 2, none⟩ u) b x y u := heap_setCell_same w b 2 _ _ u h
theorem Whole.put0 {w : World} {b : Nat} {x y z : Value} (h : Whole w b x y z) (u : Value) : Whole (w.setCell ⟨b, 0, none⟩ u) b u y z := heap_setCell_same w b 0 _ _ u h
theorem Whole.ne {w : World} {b B : Nat} {x y z v : Value} {zs : List Int} (h : Whole w b x y z) (I : Ib B w v zs) : v.ownBlock ≠ some b := by
  rcases I with ⟨_, ⟨rfl, _⟩ | ⟨g, cap, cur, rfl, hb, hg, _⟩⟩
  · simp [Value.ownBlock]
  · intro e
    have : g = b := by simpa [Value.ownBlock] using e
    subst this
    unfold Whole at h; rw [h] at hg
    simp at hg
theorem Ib.apart {B : Nat} {w : World} {v : Value} {zs : List Int} (h : Ib B w v zs) {p : Addr} (hp : v.ownBlock ≠ some p.block) (u : Value) : Ib B (w.setCell p u) v zs :=
  World.ownsRow.kept (row := some p.block) h ⟨rfl, rfl, rfl, by simp, fun k _ hk => Below.heap_setCell _ _ _ _ (fun e => hk (by rw [e]))⟩ (.inr hp)

/-- One append to the cells of a matrix in a box, and the store into the box. -/
theorem app_done {w wr w3 : World} {b g cap : Nat} {x y v p q r : Value} {zs : List Int} {c : Int} {o : Obj} (I : Ib (w.heap.size + 1) wr v zs) (T : Whole wr b x y v) (R : Bx wr w.heap.size p q r) (B : Below w.heap.size w wr) (hb : w.heap.size < b)
    (hg : (wr.alloc o).grownBy w3 v.ownBlock) (ho : w3.ownsRow (w.heap.size + 1) 2 1 (.slice (some ⟨g, 0, none⟩) (zs.length + 1) cap) (zs.length + 1) (zs.map (Value.int .i64) ++ [.int .i64 c])) (hsz : w.heap.size + 1 ≤ wr.heap.size) :
    Whole w3 b x y v ∧ Ib (w.heap.size + 1) (w3.setCell ⟨b, 2, none⟩ (.slice (some ⟨g, 0, none⟩) (zs.length + 1) cap)) (.slice (some ⟨g, 0, none⟩) (zs.length + 1) cap) (zs ++ [c]) ∧
      Bx (w3.setCell ⟨b, 2, none⟩ (.slice (some ⟨g, 0, none⟩) (zs.length + 1) cap)) w.heap.size p q r ∧ Whole (w3.setCell ⟨b, 2, none⟩ (.slice (some ⟨g, 0, none⟩) (zs.length + 1) cap)) b x y (.slice (some ⟨g, 0, none⟩) (zs.length + 1) cap) ∧
      Below w.heap.size w (w3.setCell ⟨b, 2, none⟩ (.slice (some ⟨g, 0, none⟩) (zs.length + 1) cap)) := by
  have T3 : Whole w3 b x y v := (T.below (lay _ o)).grown hg (T.ne I)
  have bw := I.grown hsz o hg
  have I3 : Ib (w.heap.size + 1) w3 (.slice (some ⟨g, 0, none⟩) (zs.length + 1) cap) (zs ++ [c]) := by
    unfold Ib; rw [List.length_append, List.map_append]; exact ho
  exact ⟨T3, I3.apart (p := ⟨b, 2, none⟩) (T3.ne I3) _, (R.under (by omega) bw).far (p := ⟨b, 2, none⟩) (by show b ≠ w.heap.size; omega) _, T3.put2 _, (B.trans (bw.mono (by omega))).setCell (p := ⟨b, 2, none⟩) (by show w.heap.size ≤ b; omega) _⟩

set_option maxRecDepth 100000 in
set_option maxHeartbeats 1000000 in
theorem l03CodeI (k m h : Nat) (k1 : 1 ≤ k) (hh : (k : Int) + (m : Int) = (h : Int)) (h8 : h ≤ 8) (w : World) :
    Calls Try.prog 73 #[.int .i64 k, .int .i64 m] w (MatResI h k (flat h k (codeM k)) w) := by
  have hkh : k ≤ h := by omega
  have hhn : h = k + m := by omega
  have U := Lib.hid (l03UnitI k (by omega))
  have R0 := Bx.top w (.int .i64 0) (.int .i64 0) (.slice none 0 0) 33
  have FE : codeL k (h * k) = flat h k (codeM k) := rfl
  have HH := Lib.hid hhn
  have FE := Lib.hid FE
  clear hhn
  go_enter Try.func73, Try.ntmps73
  go_wp2_with fail
  refine (U.out _).mono ?_
  rintro e w1 ⟨a0, L0, cap0, rfl, hL9, I0, b1⟩
  clear hL9
  rw [codeL_unit, World.size_alloc] at I0
  have hz1 := b1.size
  rw [World.size_alloc] at hz1
  have l1 := lay w1 (.cells #[.int .i64 h, .int .i64 k, .slice a0 L0 cap0] 33)
  have R1 := (R0.below b1).below l1
  have T1 := Whole.top w1 (.int .i64 h) (.int .i64 k) (.slice a0 L0 cap0)
  have I1 := I0.below l1
  have B1 := chain (chain (lay w _) b1) l1
  rw [show k * k = (k + 0) * k + 0 from by simp] at I1
  clear R0 I0 b1 l1
  obtain ⟨i0, hi, hz0, hzz1, hzz2⟩ := info_parts info2
  go_wp2
  go_loopw [6] (fun s wr => ∃ (i : Nat) (v : Value), i ≤ m ∧ s = .int .i64 i ∧ Ib (w.heap.size + 1) wr v (codeL k ((k + i) * k + 0)) ∧ Bx wr w.heap.size (.int .i64 0) (.int .i64 0) (.slice none 0 0) ∧ Whole wr w1.heap.size (.int .i64 h) (.int .i64 k) v ∧ Below w.heap.size w wr) (fun s _ => m - (intOf s).toNat)
  case atStart => exact ⟨0, _, by omega, rfl, I1, R1, T1, B1⟩
  case round =>
    obtain ⟨i, v, hi9, rfl, I, R, T, B⟩ := hrel
    clear R1 T1 I1 B1
    by_cases hlt : i < m
    · go_wp2
      go_loopw [7] (fun s wr => ∃ (j : Nat) (v : Value), j ≤ k ∧ s = .int .i64 j ∧ Ib (w.heap.size + 1) wr v (codeL k ((k + i) * k + j)) ∧ Bx wr w.heap.size (.int .i64 0) (.int .i64 0) (.slice none 0 0) ∧ Whole wr w1.heap.size (.int .i64 h) (.int .i64 k) v ∧ Below w.heap.size w wr) (fun s _ => k - (intOf s).toNat)
      case atStart => exact ⟨0, v, by omega, rfl, I, R, T, B⟩
      case round =>
        obtain ⟨j, v, hj, rfl, I, R, T, B⟩ := hrel
        by_cases hl2 : j < k
        · obtain ⟨p, hp⟩ : ∃ p, p = k + i := ⟨_, rfl⟩
          have xk : IntKind.i64.wrap ((k : Int) + (i : Int)) = (p : Int) := by rw [hp]; exact IntWalk.i64_in _ (by omega)
          have hp8 : p < 8 := by omega
          have hi2 : El (p : Int) := ⟨by omega, by omega⟩
          have hj2 : El (j : Int) := ⟨by omega, by omega⟩
          have X := xor_i64 hi2 hj2
          have E1 := El.xor hi2 hj2
          have E2 := El.inv E1
          have SN := codeL_snoc (k := k) (i := p) hl2 (by omega)
          have hsz : p * k ≤ 8 * 8 := Nat.mul_le_mul (by omega) (by omega)
          rw [← hp] at I
          have NE := T.ne I
          have TR := Lib.hid (And.intro T (And.intro R B))
          obtain ⟨-, c0, c1, c2, f0, f1, f2⟩ := T.bx
          have hlen : (codeL k (p * k + j)).length ≤ 1000000 := by rw [codeL_len]; omega
          have BZ := B.size
          have hT9 := T.lt
          generalize hzs : codeL k (p * k + j) = zs at I SN hlen
          have SN := Lib.hid SN
          have NE := Lib.hid NE
          have HP := Lib.hid hp
          obtain ⟨x0, x1⟩ := E1
          obtain ⟨y0, y1⟩ := E2
          have LT := Lib.hid (l02Times (p : Int) (invZ (xorZ p j)) (by omega) (by omega) y0)
          clear hzs hi2 hj2 T R B hp
          go_wp2_with fail
          go_region_law (first
            | (go_simp; go_at_call 97; (with_reducible refine (l02Inv (xorZ p j) x0 x1 _).mono ?_); rintro e w' ⟨rfl, rfl⟩)
            | (go_simp; go_at_call 94; (with_reducible refine (LT.out _).mono ?_); rintro e w' ⟨rfl, rfl⟩)
            | (refine step_append_lies _ rfl (.tmp 25) (.tmp 36) 28 rfl (w.heap.size + 1) 2 i0 (.int .i64 0) 1 8 Try.underlying28 hi hz0 hzz1 hzz2 rfl (by decide) v zs.length (zs.map (Value.int .i64)) rfl (World.ownsRow.alloc I _) ⟨wr.heap.size, 0, none⟩ 1 1 [.int .i64 (mulZ p (invZ (xorZ p j)))] rfl rfl (cell_one_new _ _ _) (by intro u hu; simp at hu; subst hu; rfl) (by omega) (by unfold maxLen; omega) (by omega) (by simp; omega) _ rfl ?_; intro g cap w3 ho1 hg1 _ _; have N := Lib.hid (app_done (b := w1.heap.size) (o := .cells #[.int .i64 (mulZ p (invZ (xorZ p j)))] 2) I TR.out.1 TR.out.2.1 TR.out.2.2 (by omega) ⟨hg1.os, hg1.tape, hg1.output, hg1.size, hg1.block⟩ ho1 (by omega)); clear c0 c1 c2 f0 f1 f2; obtain ⟨-, c0, c1, c2, f0, f1, f2⟩ := N.out.1.bx))
          all_goals
            clear c0 c1 c2 f0 f1 f2 ho1 hg1 I xk X
            go_wp2
            go_roundw
            case rel => exact ⟨j + 1, _, by omega, by go_num, by rw [← HP.out, ← Nat.add_assoc, SN.out]; exact N.out.2.1, N.out.2.2.1, N.out.2.2.2.1, N.out.2.2.2.2⟩
            case measure => simp [intOf]; omega
        · obtain rfl : j = k := by omega
          rw [codeL_row] at I
          go_wp2
          go_roundw
          case rel => exact ⟨i + 1, v, by omega, by go_num, I, R, T, B⟩
          case measure => simp [intOf]; omega
    · obtain rfl : i = m := by omega
      rw [← HH.out] at I
      simp only [Nat.add_zero] at I
      rw [FE.out] at I
      obtain ⟨a, L, cap, rfl⟩ := I.shape
      have LE := Lib.hid (I.own (w0 := w) (by omega)).2
      have O := Lib.hid ((((I.far (p := ⟨w.heap.size, 0, none⟩) (by show w.heap.size < _; omega) (.int .i64 h)).far (p := ⟨w.heap.size, 1, none⟩) (by show w.heap.size < _; omega) (.int .i64 k)).far (p := ⟨w.heap.size, 2, none⟩) (by show w.heap.size < _; omega) (.slice a L cap)).mono (C := w.heap.size) (by omega))
      have BB := Lib.hid (Below.box B (.int .i64 h) (.int .i64 k) (.slice a L cap))
      obtain ⟨-, c0, c1, c2, -⟩ := T.bx
      obtain ⟨-, d0, d1, d2, f0, f1, f2⟩ := R
      clear I B T
      go_wp2
      exact bodyPost_ret (v := mval h k (.slice a L cap)) (by simp [results, Try.results73, go_sem, *]) rfl ⟨a, L, cap, rfl, LE.out, O.out, BB.out⟩
end Go.Proofs.Ytgnllkkkkkcoaaa.Gf2
