/-
  The generator matrix: what the program's function returns.
-/
import Derived.Test.YtgnllkkkkkcoaaaMatRes
import Derived.Test.YtgnllkkkkkcoaaaUnit
import Derived.Deep.RegionLaw
import Derived.Deep.DeepCutAuto
namespace Go.Proofs.Ytgnllkkkkkcoaaa.Gf2
open Go.RowKit Go.Proofs.Ytgnllkkkkkcoaaa.At Go.Proofs.Ytgnllkkkkkcoaaa.MixC Go.Proofs.Ytgnllkkkkkcoaaa.Ml Go.Proofs.Ytgnllkkkkkcoaaa.Gr Go.Proofs.Ytgnllkkkkkcoaaa.Gj Go.Proofs.Ytgnllkkkkkcoaaa.GfI
set_option linter.unusedVariables false

/-- copy of numbers as one step of a region that draws its order. -/
theorem step_copy_ints {k : IntKind} {P : Program} {ops : Array Oper} {o : Oper} {a : Act} {w : World} {K : Act → World → Prop} {Q : Exit → Act → World → Prop} {E : Prop} (hgd : o.guard = none) (d s : Operand) (dT sT : TypeId)
    (ho : o.op = .call { callee := .builtin .copy, args := #[d, s], argTypes := #[dT, sT] }) (elem : TypeId) (hu : P.underlying dT = some (.slice elem)) (hsz : (P.info? elem).map (·.size) = some 1)
    (g off dLen dCap : Nat) (ad : Addr) (sLen sCap : Nat) (hd : a.eval d = .slice (some ⟨g, off, none⟩) dLen dCap) (hs : a.eval s = .slice (some ad) sLen sCap)
    (zs : List Int) (hn : zs.length = Nat.min sLen dLen) (hcell : ∀ j, j < zs.length → w.cell? (ad.add j) = some (.int k (zs.getD j 0)))
    (hc : ∀ j, j < zs.length → (w.cell? ⟨g, off + j, none⟩).isSome = true) (hf : ∀ j, w.frozen? ⟨g, j, none⟩ = false)
    (h : ∀ w', Wrote k w w' g off zs.length (fun i => zs.getD i 0) → K (a.put o.dst (goInt zs.length)) w') :
    if Region.wanted o (yielded ops a.tmps) = true then Oper.wp P o a w K Q else E := by
  have hw : Region.wanted o (yielded ops a.tmps) = true := by simp [Region.wanted, hgd]
  rw [if_pos hw]
  have hl : (zs.map (Value.int k)).length = zs.length := by simp
  have hrun := run_copy_cells (P := P) w dT sT o.type elem g off dLen dCap ad sLen sCap (zs.map (Value.int k)) hu hsz (by rw [hl]; exact hn)
    (fun j v hv => by
      have hj : j < zs.length := by
        rcases Nat.lt_or_ge j zs.length with hj | hj
        · exact hj
        · rw [List.getElem?_eq_none (by simpa using hj)] at hv; cases hv
      rw [List.getElem?_map, List.getElem?_eq_getElem hj] at hv
      have := hcell j hj
      rw [List.getD_eq_getElem?_getD, List.getElem?_eq_getElem hj] at this
      rw [this]; simpa using hv)
    (fun j hj => hc j (by rw [hl] at hj; exact hj)) (fun j _ => hf _) (by intro v hv; obtain ⟨z, _, rfl⟩ := List.mem_map.1 hv; rfl)
  have hwr := Wrote.copied (k := k) (w := w) (g := g) (o := off) (cs := zs) hc
  unfold Oper.wp
  simp [execOp, ho, resolve, invoke, builtin, hd, hs, hrun, Result.andThen]
  exact h _ hwr

theorem Mat_prefix {k : IntKind} {B : Nat} {w w1 : World} {g h wd p : Nat} {M M' : Mx} (m : Mat k B w g h wd M) (hp : p ≤ h) (r : Wrote k w w1 g 0 (p * wd) (fun x => (flat p wd M').getD x 0)) :
    Mat k B w1 g h wd (fun i j => if i < p then M' i j else M i j) := by
  refine ⟨m.old, Nat.lt_of_lt_of_le m.lt r.size, fun i j hi hj => ?_, fun i => (r.free i).trans (m.free i)⟩
  by_cases e : i < p
  · rw [if_pos e]
    have hx := flat_lt e hj
    have := r.cell _ hx
    have hw : 0 < wd := by omega
    rw [Nat.zero_add, flat_get hx] at this
    rw [this]
    have h1 : (i * wd + j) / wd = i := by rw [Nat.mul_comm, Nat.mul_add_div hw, Nat.div_eq_of_lt hj]; rfl
    have h2 : (i * wd + j) % wd = j := by rw [Nat.mul_comm, Nat.mul_add_mod, Nat.mod_eq_of_lt hj]
    rw [h1, h2]
  · rw [if_neg e, r.out _ (.inr ?_)]
    · exact m.cell i j hi hj
    · have : p * wd ≤ i * wd := Nat.mul_le_mul_right _ (by omega)
      omega

theorem undrew {V w1 : World} (h : Below V.drew.heap.size V.drew w1) : Below V.heap.size V w1 := ⟨h.os, h.tape, h.output, h.size, h.block⟩
/-- The generator matrix's cells. -/
def codeM (k : Nat) : Mx := fun i j => if i < k then unitZ i j else mulZ i (invZ (xorZ i j))
def codeTo (k p : Nat) : Mx := fun a b => if a < p then codeM k a b else 0
def codeIn (k p q : Nat) : Mx := fun a b => if a < p ∨ (a = p ∧ b < q) then codeM k a b else 0
theorem codeIn_zero (k p : Nat) : codeTo k p = codeIn k p 0 := by
  funext a b; unfold codeTo codeIn
  by_cases e : a < p
  · rw [if_pos e, if_pos (.inl e)]
  · rw [if_neg e, if_neg (by omega)]
theorem codeIn_full {k p b a : Nat} (hb : b < k) : codeIn k p k a b = codeTo k (p + 1) a b := by
  unfold codeTo codeIn
  by_cases e : a < p + 1
  · rw [if_pos e, if_pos (by omega)]
  · rw [if_neg e, if_neg (by omega)]
theorem codeIn_step {k p q : Nat} (hp : k ≤ p) {v : Int} (hv : v = mulZ p (invZ (xorZ p q))) (a b : Nat) : (if a = p ∧ b = q then v else codeIn k p q a b) = codeIn k p (q + 1) a b := by
  unfold codeIn
  by_cases e : a = p ∧ b = q
  · obtain ⟨rfl, rfl⟩ := e
    rw [if_pos ⟨rfl, rfl⟩, if_pos (.inr ⟨rfl, by omega⟩), hv]
    unfold codeM; rw [if_neg (by omega)]
  · rw [if_neg e]
    by_cases q : a < p ∨ (a = p ∧ b < q)
    · rw [if_pos q, if_pos (by omega)]
    · rw [if_neg q, if_neg (by omega)]

theorem Mat_cellAt {k : IntKind} {B : Nat} {w : World} {g h wd : Nat} {M : Mx} (m : Mat k B w g h wd M) {x : Nat} (hx : x < h * wd) : w.cell? ⟨g, x, none⟩ = some (.int k ((flat h wd M).getD x 0)) := by
  have hw : 0 < wd := by rcases Nat.eq_zero_or_pos wd with q | q; (rw [q, Nat.mul_zero] at hx; omega); exact q
  have := m.cell (x / wd) (x % wd) (by rw [Nat.div_lt_iff_lt_mul hw]; exact hx) (Nat.mod_lt _ hw)
  rw [flat_get hx, ← this, Nat.mul_comm, Nat.div_add_mod]
theorem len_min {k q N : Nat} {M : Mx} (hq : q = k * k) (h : q ≤ N) : (flat k k M).length = Nat.min q N := by rw [flat_length, ← hq]; exact (Nat.min_eq_left h).symm
theorem src_cells {k : IntKind} {B : Nat} {w : World} {g n : Nat} {M : Mx} (m : Mat k B w g n n M) (j : Nat) (hj : j < (flat n n M).length) : w.cell? ((⟨g, 0, none⟩ : Addr).add j) = some (.int k ((flat n n M).getD j 0)) := by
  rw [flat_length] at hj
  rw [Addr.add_lit, Nat.zero_add]; exact Mat_cellAt m hj
theorem dst_cells {k : IntKind} {B : Nat} {w : World} {g h n : Nat} {M M' : Mx} (m : Mat k B w g h n M) (hn : n ≤ h) (j : Nat) (hj : j < (flat n n M').length) : (w.cell? ⟨g, 0 + j, none⟩).isSome = true := by
  rw [flat_length] at hj
  have : n * n ≤ h * n := Nat.mul_le_mul_right _ hn
  rw [Nat.zero_add, Mat_cellAt m (x := j) (by omega)]; rfl
theorem code_start {B : Nat} {w w1 : World} {g h k : Nat} (m : Mat .i64 B w g h k (fun _ _ => 0)) (hk : k ≤ h) (r : Wrote .i64 w w1 g 0 (flat k k unitZ).length (fun x => (flat k k unitZ).getD x 0)) : Mat .i64 B w1 g h k (codeTo k k) := by
  rw [flat_length] at r
  refine (Mat_prefix m hk r).ext fun i j _ _ => ?_
  unfold codeTo codeM
  by_cases e : i < k
  · rw [if_pos e, if_pos e, if_pos e]
  · rw [if_neg e, if_neg e]

set_option maxRecDepth 100000 in
set_option maxHeartbeats 2000000 in
theorem implCode (k m h : Nat) (k1 : 1 ≤ k) (hh : (k : Int) + (m : Int) = (h : Int)) (h8 : h ≤ 8) (w : World) :
    Calls Try.prog 36 #[.int .i64 k, .int .i64 m] w (MatErr h k (flat h k (codeM k)) 0 w) := by
  have hkh : k ≤ h := by omega
  have hN0 : h * k ≤ 8 * 8 := Nat.mul_le_mul (by omega) (by omega)
  obtain ⟨N, hN⟩ : ∃ N, N = h * k := ⟨_, rfl⟩
  have hkN : k * k ≤ N := by rw [hN]; exact Nat.mul_le_mul_right _ hkh
  have hN1 : N ≤ 64 := by omega
  obtain ⟨q, hq⟩ : ∃ q, q = k * k := ⟨_, rfl⟩
  rw [← hq] at hkN
  have HN := Lib.hid hN
  have HQ := Lib.hid hq
  have FLL := Lib.hid (hN.trans (flat_length h k (codeM k)).symm)
  have C := Lib.hid (newGrid h k (by omega))
  have U := Lib.hid (unitGrid k (by omega))
  have hfld : ∀ (g2 : Nat) w, Sem.run Try.prog (Instr.field 79 (gval k k g2 q) 2) w = .ok (.slice (some ⟨g2, 0, none⟩) q q) w := fun _ _ => by kernel_rfl
  have R0 := Bx.top w (.int .i64 0) (.int .i64 0) (.slice none 0 0) 33
  clear hN hq hN0
  go_enter Try.func36, Try.ntmps36
  go_wp2_with fail
  refine (C.out _).mono ?_
  rintro e w1 ⟨g, rfl, M0, b1⟩
  rw [← HN.out]
  have hg0 := M0.old
  have hg1 := M0.lt
  rw [World.size_alloc] at hg0
  have l1 := lay w1 (.cells #[.int .i64 h, .int .i64 k, .slice (some ⟨g, 0, none⟩) N N] 79)
  have R1 := (R0.below b1).below l1
  have T1 := Bx.top w1 (.int .i64 h) (.int .i64 k) (.slice (some ⟨g, 0, none⟩) N N) 79
  have M1 := M0.below l1
  have B1 := chain (chain (lay w _) b1) l1
  have hz1 := b1.size
  rw [World.size_alloc] at hz1
  clear R0 M0 b1 l1
  go_upto_region 4 with fail
  go_cut [] (fun wx => Mat .i64 (w.heap.size + 1) wx g h k (codeTo k k) ∧ Bx wx w.heap.size (.int .i64 0) (.int .i64 0) (.slice none 0 0) ∧ Bx wx w1.heap.size (.int .i64 h) (.int .i64 k) (.slice (some ⟨g, 0, none⟩) N N) ∧ Below w.heap.size w wx)
  case first =>
    have HR := Lib.hid (And.intro R1 (And.intro T1 (And.intro M1 B1)))
    obtain ⟨-, c0, c1, c2, -⟩ := T1
    clear R1 M1 B1
    go_region_law (first
      | (refine step_copy_ints (k := .i64) rfl (.tmp 33) (.tmp 36) 28 28 rfl 2 Try.underlying28 (by kernel_rfl) g 0 N N ⟨g2, 0, none⟩ q q rfl rfl (flat k k unitZ) hlen hsrc hdst hfree ?_; intro w3 W3)
      | (go_simp; go_at_call 65; refine (U.out _).mono ?_; rintro e u1 ⟨g2, rfl, M2, b2⟩; rw [← HQ.out]; have b2 := undrew b2; have hlen := len_min (M := unitZ) HQ.out hkN; have M1' := HR.out.2.2.1.below b2; have hfree := M1'.free; have hdst := fun j hj => dst_cells (M' := unitZ) M1' hkh j hj; have hsrc := fun j hj => src_cells M2 j hj; have R1' := HR.out.1.below b2; have T1' := HR.out.2.1.below b2; have B1' := chain HR.out.2.2.2 b2; have hT := Lib.hid T1'; obtain ⟨-, e0, e1, e2, -⟩ := T1'))
    all_goals (go_wp2_with fail; go_meet)
    all_goals exact ⟨by have := code_start M1' hkh W3; rw [World.size_alloc] at this; exact this, R1'.wrote W3 (by omega), hT.out.wrote W3 (by omega), W3.below B1' (by omega)⟩
  case rest =>
    clear R1 T1 M1 B1 hfld
    obtain ⟨M1, R1, T1, B1⟩ := hcut
    go_wp2_with fail
    go_loopw [7] (fun s wr => ∃ i : Nat, k ≤ i ∧ i ≤ h ∧ s = .int .i64 i ∧ Mat .i64 (w.heap.size + 1) wr g h k (codeTo k i) ∧ Bx wr w.heap.size (.int .i64 0) (.int .i64 0) (.slice none 0 0) ∧ Bx wr w1.heap.size (.int .i64 h) (.int .i64 k) (.slice (some ⟨g, 0, none⟩) N N) ∧ Below w.heap.size w wr) (fun s _ => h - (intOf s).toNat)
    case atStart => exact ⟨k, Nat.le_refl _, hkh, rfl, M1, R1, T1, B1⟩
    case round =>
      obtain ⟨i, hki, hi, rfl, M, R, T, B⟩ := hrel
      clear M1 R1 T1 B1
      by_cases hlt : i < h
      · have hT := Lib.hid T
        obtain ⟨-, c0, c1, c2, -, -, -⟩ := T
        go_wp2_with fail
        refine (row h k g i N HN.out hlt (by omega) (by omega) _).mono ?_
        rintro e w2 ⟨rfl, b2⟩
        have M2 := M.below b2
        rw [codeIn_zero] at M2
        have R2 := R.below b2
        have T2 := hT.out.below b2
        have B2 := chain B b2
        clear M R B b2 c0 c1 c2 hT
        go_wp2_with fail
        go_loopw [50] (fun s wr => ∃ j : Nat, j ≤ k ∧ s = .int .i64 j ∧ Mat .i64 (w.heap.size + 1) wr g h k (codeIn k i j) ∧ Bx wr w.heap.size (.int .i64 0) (.int .i64 0) (.slice none 0 0) ∧ Bx wr w1.heap.size (.int .i64 h) (.int .i64 k) (.slice (some ⟨g, 0, none⟩) N N) ∧ Below w.heap.size w wr) (fun s _ => k - (intOf s).toNat)
        case atStart => exact ⟨0, by omega, rfl, M2, R2, T2, B2⟩
        case round =>
          obtain ⟨j, hj, rfl, M, R, T, B⟩ := hrel
          clear M2 R2 T2 B2
          by_cases hl2 : j < k
          · have hi2 : El (i : Int) := ⟨by omega, by omega⟩
            have hj2 : El (j : Int) := ⟨by omega, by omega⟩
            have X := xor_i64 hi2 hj2
            have E1 := El.xor hi2 hj2
            have E2 := El.inv E1
            have V := Lib.hid (show mulZ i (invZ (xorZ i j)) = mulZ i (invZ (xorZ i j)) from rfl)
            have ST := Lib.hid (fun v (hv : v = mulZ i (invZ (xorZ i j))) => codeIn_step (k := k) (p := i) (q := j) hki hv)
            have MM := Lib.hid M
            obtain ⟨x0, x1⟩ := E1
            obtain ⟨y0, y1⟩ := E2
            clear V hi2 hj2 M
            go_wp2_with fail
            refine (inverseOf (xorZ i j) x0 x1 _).mono ?_
            rintro e w3 ⟨rfl, b3⟩
            go_wp2_with fail
            refine (productOf (i : Int) (invZ (xorZ i j)) (by omega) (by omega) y0 _).mono ?_
            rintro e w4 ⟨rfl, b4⟩
            have b34 := chain b3 b4
            have M4 := MM.out.below b34
            have d := M4.cell i j hlt hl2
            have f := M4.free (i * k + j)
            have M5 := (M4.put hlt hl2 (mulZ i (invZ (xorZ i j)))).ext (fun a b _ _ => ST.out _ rfl a b)
            have R5 := (R.below b34).far (p := ⟨g, i * k + j, none⟩) (by show g ≠ w.heap.size; omega) (.int .i64 (mulZ i (invZ (xorZ i j))))
            have T5 := (T.below b34).far (p := ⟨g, i * k + j, none⟩) (by show g ≠ w1.heap.size; omega) (.int .i64 (mulZ i (invZ (xorZ i j))))
            have B5 := (chain B b34).setCell (p := ⟨g, i * k + j, none⟩) (by show w.heap.size ≤ g; omega) (.int .i64 (mulZ i (invZ (xorZ i j))))
            generalize mulZ i (invZ (xorZ i j)) = v at M5 R5 T5 B5 ⊢
            clear R T B b3 b4 b34 M4 MM ST X
            go_wp2
            go_roundw
            case rel => exact ⟨j + 1, by omega, by go_num, M5, R5, T5, B5⟩
            case measure => simp [intOf]; omega
          · obtain rfl : j = k := by omega
            have M5 := M.ext (N := codeTo j (i + 1)) (fun a b _ hb => codeIn_full hb)
            clear M
            go_wp2
            go_roundw
            case rel => exact ⟨i + 1, by omega, by omega, by go_num, M5, R, T, B⟩
            case measure => simp [intOf]; omega
      · obtain rfl : i = h := by omega
        have M5 := M.ext (N := codeM k) (fun a b ha _ => by unfold codeTo; rw [if_pos ha])
        obtain ⟨-, c0, c1, c2, -, -, -⟩ := T
        clear M
        go_wp2_with fail
        refine (matrixOf i k (some ⟨g, 0, none⟩) N N _).mono ?_
        rintro e w2 ⟨rfl, b2⟩
        have O := (Mat_own (w0 := w.alloc (.cells #[.int .i64 0, .int .i64 0, .slice none 0 0] 33)) M5 (by simp)).below b2
        obtain ⟨-, d0, d1, d2, f0, f1, f2⟩ := R.below b2
        have b3 := Lib.hid (chain B b2)
        have O2 := Lib.hid (err_res (h := i) (wd := k) (err := 0) (cap := N) FLL.out (O.box w (by simp) (.int .i64 i) (.int .i64 k) (.slice (some ⟨g, 0, none⟩) N N)) (Below.box b3.out (.int .i64 i) (.int .i64 k) (.slice (some ⟨g, 0, none⟩) N N)))
        clear R B b2 M5 O c0 c1 c2
        go_wp2
        exact bodyPost_ret (v := .tuple #[mval i k (.slice (some ⟨g, 0, none⟩) N N), .int .i64 0]) (by simp [results, Try.results36, go_sem, *]) rfl O2.out
end Go.Proofs.Ytgnllkkkkkcoaaa.Gf2
