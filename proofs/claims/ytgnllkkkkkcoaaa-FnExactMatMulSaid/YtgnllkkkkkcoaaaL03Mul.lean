/-
  The product of two matrices: what the model's function returns.
-/
import Derived.Test.YtgnllkkkkkcoaaaLawCode2
import Derived.Test.YtgnllkkkkkcoaaaMul
namespace Go.Proofs.Ytgnllkkkkkcoaaa.Gf2
open Go.RowKit Go.Proofs.Ytgnllkkkkkcoaaa.At Go.Proofs.Ytgnllkkkkkcoaaa.MixC Go.Proofs.Ytgnllkkkkkcoaaa.Ml Go.Proofs.Ytgnllkkkkkcoaaa.Gr Go.Proofs.Ytgnllkkkkkcoaaa.Gj Go.Proofs.Ytgnllkkkkkcoaaa.GfI Go.Proofs.Ytgnllkkkkkcoaaa.GfS
set_option linter.unusedVariables false

/-- The first m cells of a product. -/
def mulL (A Bm : Mx) (n k m : Nat) : List Int := (List.range m).map fun x => dotZ A Bm (x / k) (x % k) n
theorem mulL_len (A Bm : Mx) (n k m : Nat) : (mulL A Bm n k m).length = m := by simp [mulL]
theorem mulL_snoc {A Bm : Mx} {n k i c : Nat} (hc : c < k) : mulL A Bm n k (i * k + c + 1) = mulL A Bm n k (i * k + c) ++ [dotZ A Bm i c n] := by
  unfold mulL
  rw [List.range_succ, List.map_append]
  have hw : 0 < k := by omega
  have h1 : (i * k + c) / k = i := by rw [Nat.mul_comm, Nat.mul_add_div hw, Nat.div_eq_of_lt hc]; rfl
  have h2 : (i * k + c) % k = c := by rw [Nat.mul_comm, Nat.mul_add_mod, Nat.mod_eq_of_lt hc]
  show _ ++ [dotZ A Bm ((i * k + c) / k) ((i * k + c) % k) n] = _
  rw [h1, h2]
theorem mulL_row (A Bm : Mx) (n k i : Nat) : mulL A Bm n k (i * k + k) = mulL A Bm n k ((i + 1) * k + 0) := by rw [Nat.add_zero, Nat.add_mul, Nat.one_mul]

theorem below_of_eq {w0 w1 : World} {q : Nat} (h : w1 = w0.drewN q) : Below w0.heap.size w0 w1 := by rw [h]; exact below_drewN (Below.refl _ _) q
theorem app3 {C : Nat} {wr w2 : World} {b : Nat} {x y v v' : Value} {zs : List Int} {c : Int} {o : Obj} (I : Ib C wr v zs) (T : Whole wr b x y v) (hsz : C ≤ wr.heap.size) (I2 : Ib C w2 v' (zs ++ [c])) (g2 : (wr.alloc o).grownBy w2 v.ownBlock) :
    Whole w2 b x y v ∧ Below C wr w2 ∧ Ib C (w2.setCell ⟨b, 2, none⟩ v') v' (zs ++ [c]) ∧ Whole (w2.setCell ⟨b, 2, none⟩ v') b x y v' := by
  have T2 : Whole w2 b x y v := (T.below (lay _ o)).grown g2 (T.ne I)
  exact ⟨T2, I.grown hsz o g2, I2.apart (p := ⟨b, 2, none⟩) (T2.ne I2) _, T2.put2 _⟩

set_option maxRecDepth 100000 in
set_option maxHeartbeats 4000000 in
theorem l03MulI (h n k : Nat) (h1 : 1 ≤ h) (h8 : h ≤ 8) (n1 : 1 ≤ n) (n8 : n ≤ 8) (k1 : 1 ≤ k) (k8 : k ≤ 8) (a b : Option Addr) (c1 c2 : Nat) (xs ys : List Int) (hx : xs.length = h * n) (hy : ys.length = n * k) (ex : Els h n (ofL n xs)) (ey : Els n k (ofL k ys)) (w : World) (WA : Words w a xs) (WB : Words w b ys) :
    Calls Try.prog 67 #[mval h n (.slice a xs.length c1), mval n k (.slice b ys.length c2)] w (MatResI h k (flat h k (fun i j => dotZ (ofL n xs) (ofL k ys) i j n)) w) := by
  have q1 : h * n ≤ 8 * 8 := Nat.mul_le_mul h8 n8
  have q2 : n * k ≤ 8 * 8 := Nat.mul_le_mul n8 k8
  have q3 : h * k ≤ 8 * 8 := Nat.mul_le_mul h8 k8
  obtain ⟨ba, oa, rfl, hba, ca⟩ := WA.resolve_left (by intro e; rw [e] at hx; have : 1 * 1 ≤ h * n := Nat.mul_le_mul h1 n1; simp at hx; omega)
  obtain ⟨bb, ob, rfl, hbb, cb⟩ := WB.resolve_left (by intro e; rw [e] at hy; have : 1 * 1 ≤ n * k := Nat.mul_le_mul n1 k1; simp at hy; omega)
  have FE := Lib.hid (show mulL (ofL n xs) (ofL k ys) n k (h * k) = flat h k (fun i j => dotZ (ofL n xs) (ofL k ys) i j n) from rfl)
  obtain ⟨lx, hlx⟩ : ∃ l, l = xs.length := ⟨_, rfl⟩
  obtain ⟨ly, hly⟩ : ∃ l, l = ys.length := ⟨_, rfl⟩
  have CA := Lib.hid (fun i j (hi : i < h) (hj : j < n) => (show w.cell? ⟨ba, oa + (i * n + j), none⟩ = some (.int .i64 (ofL n xs i j)) from ca _ (by rw [hx]; exact flat_lt hi hj)))
  have CB := Lib.hid (fun i j (hi : i < n) (hj : j < k) => (show w.cell? ⟨bb, ob + (i * k + j), none⟩ = some (.int .i64 (ofL k ys i j)) from cb _ (by rw [hy]; exact flat_lt hi hj)))
  have EX := Lib.hid ex
  have EY := Lib.hid ey
  have HL := Lib.hid (show lx = h * n ∧ ly = n * k from ⟨hlx.trans hx, hly.trans hy⟩)
  rw [← hlx, ← hly]
  have hl1 : lx ≤ 64 := by omega
  have hl2 : ly ≤ 64 := by omega
  clear WA WB ca cb ex ey hx hy hlx hly q1 q2
  have l3 := chain (chain (lay w (.cells #[.int .i64 h, .int .i64 n, .slice (some ⟨ba, oa, none⟩) lx c1] 33)) (lay _ (.cells #[.int .i64 n, .int .i64 k, .slice (some ⟨bb, ob, none⟩) ly c2] 33))) (lay _ (.cells #[.int .i64 0, .int .i64 0, .slice none 0 0] 33))
  have t2 := (((Bx.top w (.int .i64 h) (.int .i64 n) (.slice (some ⟨ba, oa, none⟩) lx c1) 33).alloc (.cells #[.int .i64 n, .int .i64 k, .slice (some ⟨bb, ob, none⟩) ly c2] 33)).alloc (.cells #[.int .i64 0, .int .i64 0, .slice none 0 0] 33)).alloc (.cells #[.int .i64 h, .int .i64 k, .slice none 0 0] 33)
  have t3 := ((Bx.top (w.alloc (.cells #[.int .i64 h, .int .i64 n, .slice (some ⟨ba, oa, none⟩) lx c1] 33)) (.int .i64 n) (.int .i64 k) (.slice (some ⟨bb, ob, none⟩) ly c2) 33).alloc (.cells #[.int .i64 0, .int .i64 0, .slice none 0 0] 33)).alloc (.cells #[.int .i64 h, .int .i64 k, .slice none 0 0] 33)
  have t4 := (Bx.top ((w.alloc (.cells #[.int .i64 h, .int .i64 n, .slice (some ⟨ba, oa, none⟩) lx c1] 33)).alloc (.cells #[.int .i64 n, .int .i64 k, .slice (some ⟨bb, ob, none⟩) ly c2] 33)) (.int .i64 0) (.int .i64 0) (.slice none 0 0) 33).alloc (.cells #[.int .i64 h, .int .i64 k, .slice none 0 0] 33)
  have t5 := Whole.top (((w.alloc (.cells #[.int .i64 h, .int .i64 n, .slice (some ⟨ba, oa, none⟩) lx c1] 33)).alloc (.cells #[.int .i64 n, .int .i64 k, .slice (some ⟨bb, ob, none⟩) ly c2] 33)).alloc (.cells #[.int .i64 0, .int .i64 0, .slice none 0 0] 33)) (.int .i64 h) (.int .i64 k) (.slice none 0 0)
  have l4 := chain l3 (lay _ (.cells #[.int .i64 h, .int .i64 k, .slice none 0 0] 33))
  have hz0 := l4.size
  simp only [World.size_alloc] at t3 t4 t5 hz0
  clear l3
  go_enter Try.func67, Try.ntmps67
  go_wp2_with fail
  go_loopw [6] (fun s wr => ∃ (i : Nat) (v : Value), i ≤ h ∧ s = .int .i64 i ∧ Ib (w.heap.size + 1 + 1 + 1 + 1) wr v (mulL (ofL n xs) (ofL k ys) n k (i * k + 0)) ∧ Bx wr w.heap.size (.int .i64 h) (.int .i64 n) (.slice (some ⟨ba, oa, none⟩) lx c1) ∧ Bx wr (w.heap.size + 1) (.int .i64 n) (.int .i64 k) (.slice (some ⟨bb, ob, none⟩) ly c2) ∧ Bx wr (w.heap.size + 1 + 1) (.int .i64 0) (.int .i64 0) (.slice none 0 0) ∧ Whole wr (w.heap.size + 1 + 1 + 1) (.int .i64 h) (.int .i64 k) v ∧ Below w.heap.size w wr ∧ w.heap.size + 1 + 1 + 1 + 1 ≤ wr.heap.size) (fun s _ => h - (intOf s).toNat)
  case atStart => exact ⟨0, _, by omega, rfl, by rw [Nat.zero_mul]; exact Ib.nil _ _, t2, t3, t4, t5, l4, by simp⟩
  case round =>
    obtain ⟨i, v, hi, rfl, I, T2, T3, T4, T5, B, hz⟩ := hrel
    clear t2 t3 t4 t5 l4 hz0
    by_cases hlt : i < h
    · have HT2 := Lib.hid T2
      obtain ⟨-, d0, d1, d2, -⟩ := T2
      go_wp2_with fail
      clear d0 d1 d2
      go_loopw [7] (fun s wr => ∃ (c : Nat) (v : Value), c ≤ k ∧ s = .int .i64 c ∧ Ib (w.heap.size + 1 + 1 + 1 + 1) wr v (mulL (ofL n xs) (ofL k ys) n k (i * k + c)) ∧ Bx wr w.heap.size (.int .i64 h) (.int .i64 n) (.slice (some ⟨ba, oa, none⟩) lx c1) ∧ Bx wr (w.heap.size + 1) (.int .i64 n) (.int .i64 k) (.slice (some ⟨bb, ob, none⟩) ly c2) ∧ Bx wr (w.heap.size + 1 + 1) (.int .i64 0) (.int .i64 0) (.slice none 0 0) ∧ Whole wr (w.heap.size + 1 + 1 + 1) (.int .i64 h) (.int .i64 k) v ∧ Below w.heap.size w wr ∧ w.heap.size + 1 + 1 + 1 + 1 ≤ wr.heap.size) (fun s _ => k - (intOf s).toNat)
      case atStart => exact ⟨0, v, by omega, rfl, I, HT2.out, T3, T4, T5, B, hz⟩
      case round =>
        clear I HT2 T3 T4 T5 B hz
        obtain ⟨c, v, hc, rfl, I, T2, T3, T4, T5, B, hz⟩ := hrel
        by_cases hl2 : c < k
        · have HT := Lib.hid (And.intro T2 (And.intro T3 (And.intro T4 (And.intro T5 (And.intro B I)))))
          obtain ⟨-, d0, d1, d2, -⟩ := T3
          clear T2 T4 T5 B I
          go_wp2_with fail
          clear d0 d1 d2
          go_loopw [8, 9] (fun s8 s9 wx => ∃ j q : Nat, j ≤ n ∧ s9 = .int .i64 j ∧ s8 = .int .i64 (dotZ (ofL n xs) (ofL k ys) i c j) ∧ wx = wr.drewN q) (fun _ s9 _ => n - (intOf s9).toNat)
          case atStart => exact ⟨0, 0, by omega, rfl, rfl, rfl⟩
          case round =>
            obtain ⟨j, q, hj, rfl, rfl, hw⟩ := hrel
            have HW := Lib.hid hw
            by_cases hl3 : j < n
            · have cA : wr.cell? ⟨ba, oa + (i * n + j), none⟩ = some (.int .i64 (ofL n xs i j)) := by rw [hw]; exact (HT.out.2.2.2.2.1.cell (p := ⟨ba, oa + (i * n + j), none⟩) hba).trans (CA.out i j hlt hl3)
              have cB : wr.cell? ⟨bb, ob + (j * k + c), none⟩ = some (.int .i64 (ofL k ys j c)) := by rw [hw]; exact (HT.out.2.2.2.2.1.cell (p := ⟨bb, ob + (j * k + c), none⟩) hbb).trans (CB.out j c hl3 hl2)
              have fA := flat_lt hlt hl3
              have fB := flat_lt hl3 hl2
              rw [← HL.out.1] at fA
              rw [← HL.out.2] at fB
              have eA := EX.out i j hlt hl3
              have eB := EY.out j c hl3 hl2
              have eD := dotZ_el (A := ofL n xs) (Bm := ofL k ys) (i := i) (k := c) (n := j) (fun t ht => EX.out i t hlt (by omega))
              have X := xor_i64 eD (El.mul (b := ofL k ys j c) eA)
              have DS := Lib.hid (show xorZ (dotZ (ofL n xs) (ofL k ys) i c j) (mulZ (ofL n xs i j) (ofL k ys j c)) = dotZ (ofL n xs) (ofL k ys) i c (j + 1) from rfl)
              obtain ⟨A1, hA1⟩ : ∃ A, A = i * n := ⟨_, rfl⟩
              obtain ⟨B1, hB1⟩ : ∃ A, A = j * k := ⟨_, rfl⟩
              have y1 : (i : Int) * (n : Int) = (A1 : Int) := by rw [hA1]; exact (Int.natCast_mul _ _).symm
              have y3 : (j : Int) * (k : Int) = (B1 : Int) := by rw [hB1]; exact (Int.natCast_mul _ _).symm
              rw [← hA1] at cA fA
              rw [← hB1] at cB fB
              have x1 : IntKind.i64.wrap (A1 : Int) = (A1 : Int) := IntWalk.i64_in _ (by omega)
              have x3 : IntKind.i64.wrap (B1 : Int) = (B1 : Int) := IntWalk.i64_in _ (by omega)
              obtain ⟨A2, hA2⟩ : ∃ A, A = A1 + j := ⟨_, rfl⟩
              obtain ⟨B2, hB2⟩ : ∃ A, A = B1 + c := ⟨_, rfl⟩
              have y2 : (A1 : Int) + (j : Int) = (A2 : Int) := by omega
              have y4 : (B1 : Int) + (c : Int) = (B2 : Int) := by omega
              rw [← hA2] at cA fA
              rw [← hB2] at cB fB
              have x2 : IntKind.i64.wrap (A2 : Int) = (A2 : Int) := IntWalk.i64_in _ (by omega)
              have x4 : IntKind.i64.wrap (B2 : Int) = (B2 : Int) := IntWalk.i64_in _ (by omega)
              obtain ⟨-, d0, d1, d2, -⟩ := HT.out.1.below (below_drewN (Below.refl _ _) q)
              obtain ⟨-, e0, e1, e2, -⟩ := HT.out.2.1.below (below_drewN (Below.refl _ _) q)
              rw [← hw] at d0 d1 d2 e0 e1 e2
              have bA : (A2 : Int) < (lx : Int) := by omega
              have bB : (B2 : Int) < (ly : Int) := by omega
              have LT := Lib.hid (l02Times (ofL n xs i j) (ofL k ys j c) eA.1 eA.2 eB.1)
              generalize ofL n xs i j = x at cA X DS LT
              generalize ofL k ys j c = y at cB X DS LT
              generalize hdd : dotZ (ofL n xs) (ofL k ys) i c j = dd at X DS
              clear hw hA1 hB1 hA2 hB2 eA eB eD hdd
              go_wp2_with fail
              go_quiet ((go_at_call 94; exact Calls.quiet_of_same ((LT.out _).mono (fun _ _ x => ⟨x.1, x.2.symm⟩))))
              clear x1 x2 x3 x4 y1 y2 y3 y4 d0 d1 d2 e0 e1 e2 cA cB
              go_wp2
              go_roundw
              case rel => exact ⟨j + 1, q + nq, by omega, by go_num, by rw [← DS.out], by rw [HW.out, World.drewN_drewN]⟩
              case measure => simp [intOf]; omega
            · obtain rfl : j = n := by omega
              have b0 := Lib.hid (below_of_eq hw)
              have I' := HT.out.2.2.2.2.2.below b0.out
              have T5' := HT.out.2.2.2.1.below b0.out
              have hz' : w.heap.size + 1 + 1 + 1 + 1 ≤ wr.heap.size := Nat.le_trans hz b0.out.size
              have SN := mulL_snoc (A := ofL j xs) (Bm := ofL k ys) (n := j) (i := i) hl2
              have hsz : i * k ≤ 8 * 8 := Nat.mul_le_mul (by omega) (by omega)
              have hlen : (mulL (ofL j xs) (ofL k ys) j k (i * k + c)).length ≤ 1000000 := by rw [mulL_len]; omega
              generalize hzs : mulL (ofL j xs) (ofL k ys) j k (i * k + c) = zs at I' SN hlen
              generalize hdd : dotZ (ofL j xs) (ofL k ys) i c j = dd at SN
              have SN := Lib.hid SN
              have AP := Lib.hid (fun v' w2 (I2 : Ib (w.heap.size + 1 + 1 + 1 + 1) w2 v' (zs ++ [dd])) g2 => app3 (o := .cells #[.int .i64 dd] 2) I' T5' hz' I2 g2)
              have HT' := Lib.hid (And.intro (HT.out.1.below b0.out) (And.intro (HT.out.2.1.below b0.out) (And.intro (HT.out.2.2.1.below b0.out) (chain HT.out.2.2.2.2.1 b0.out))))
              have I' := Lib.hid I'
              obtain ⟨-, d0, d1, d2, f0, f1, f2⟩ := T5'.bx
              obtain ⟨-, e0, e1, e2, -⟩ := HT'.out.1
              clear hw hzs hdd HT T5' HW
              go_wp2_with (at_builtin; refine wpList_append_int rfl (.tmp 57) (.tmp 59) rfl (w.heap.size + 1 + 1 + 1 + 1) _ zs rfl dd I'.out rfl hlen hz' ?_; intro v' w2 I2 g2; obtain ⟨a', L', cap', rfl⟩ := I2.shape; have N := Lib.hid (AP.out _ _ I2 g2); clear d0 d1 d2 f0 f1 f2 I2 g2; obtain ⟨-, d0, d1, d2, f0, f1, f2⟩ := N.out.1.bx)
              go_roundw
              case rel => exact ⟨c + 1, _, by omega, by go_num, by rw [← Nat.add_assoc, SN.out]; exact N.out.2.2.1, (HT'.out.1.under (by omega) N.out.2.1).far (by show w.heap.size + 1 + 1 + 1 ≠ _; omega) _, (HT'.out.2.1.under (by omega) N.out.2.1).far (by show w.heap.size + 1 + 1 + 1 ≠ _; omega) _, (HT'.out.2.2.1.under (by omega) N.out.2.1).far (by show w.heap.size + 1 + 1 + 1 ≠ _; omega) _, N.out.2.2.2, (HT'.out.2.2.2.trans (N.out.2.1.mono (by omega))).setCell (by show _ ≤ w.heap.size + 1 + 1 + 1; omega) _, by rw [World.size_setCell]; exact Nat.le_trans hz' N.out.2.1.size⟩
              case measure => simp [intOf]; omega
        · obtain rfl : c = k := by omega
          rw [mulL_row] at I
          obtain ⟨-, d0, d1, d2, -⟩ := id T3
          go_wp2_with fail
          go_roundw
          case rel => exact ⟨i + 1, v, by omega, by go_num, I, T2, T3, T4, T5, B, hz⟩
          case measure => simp [intOf]; omega
    · obtain rfl : i = h := by omega
      simp only [Nat.add_zero] at I
      rw [FE.out] at I
      obtain ⟨aa, L, cap, rfl⟩ := I.shape
      have LE := Lib.hid (I.own (w0 := w) (by omega)).2
      have O := Lib.hid ((((I.far (p := ⟨w.heap.size + 1 + 1, 0, none⟩) (by show w.heap.size + 1 + 1 < _; omega) (.int .i64 i)).far (p := ⟨w.heap.size + 1 + 1, 1, none⟩) (by show w.heap.size + 1 + 1 < _; omega) (.int .i64 k)).far (p := ⟨w.heap.size + 1 + 1, 2, none⟩) (by show w.heap.size + 1 + 1 < _; omega) (.slice aa L cap)).mono (C := w.heap.size) (by omega))
      have BB := Lib.hid (((B.setCell (p := ⟨w.heap.size + 1 + 1, 0, none⟩) (by show _ ≤ w.heap.size + 1 + 1; omega) (.int .i64 i)).setCell (p := ⟨w.heap.size + 1 + 1, 1, none⟩) (by show _ ≤ w.heap.size + 1 + 1; omega) (.int .i64 k)).setCell (p := ⟨w.heap.size + 1 + 1, 2, none⟩) (by show _ ≤ w.heap.size + 1 + 1; omega) (.slice aa L cap))
      obtain ⟨-, c0, c1', c2', -⟩ := T5.bx
      obtain ⟨-, d0, d1, d2, f0, f1, f2⟩ := T4
      obtain ⟨-, e0, e1, e2, -⟩ := T2
      clear I B T5 T3
      go_wp2
      exact bodyPost_ret (v := mval i k (.slice aa L cap)) (by simp [results, Try.results67, go_sem, *]) rfl ⟨aa, L, cap, rfl, LE.out, O.out, BB.out⟩
end Go.Proofs.Ytgnllkkkkkcoaaa.Gf2
