/-
  The rows of a matrix: what the model's function returns.
-/
import Derived.Test.YtbnjgehgaellmaaL03Mul
import Derived.StillTailTactics
namespace Go.Proofs.Ytbnjgehgaellmaa.Gf2
open Go.RowKit Go.Proofs.Ytbnjgehgaellmaa.At Go.Proofs.Ytbnjgehgaellmaa.MixC Go.Proofs.Ytbnjgehgaellmaa.Ml Go.Proofs.Ytbnjgehgaellmaa.Gr Go.Proofs.Ytbnjgehgaellmaa.Gj Go.Proofs.Ytbnjgehgaellmaa.GfI Go.Proofs.Ytbnjgehgaellmaa.GfS
set_option linter.unusedVariables false

/-- The rows rs of M. -/
def rowsM (rs : List Int) (M : Mx) : Mx := fun i j => M (rs.getD i 0).toNat j
theorem flat_succ (i wd : Nat) (N : Mx) : flat (i + 1) wd N = flat i wd N ++ (List.range wd).map (N i) := by
  unfold flat
  rw [Nat.add_mul, Nat.one_mul, List.range_add, List.map_append, List.map_map]
  congr 1
  refine List.map_congr_left fun j hj => ?_
  have hj := List.mem_range.1 hj
  have hw : 0 < wd := by omega
  show N ((i * wd + j) / wd) ((i * wd + j) % wd) = N i j
  rw [show (i * wd + j) / wd = i from by rw [Nat.mul_comm, Nat.mul_add_div hw, Nat.div_eq_of_lt hj]; rfl, show (i * wd + j) % wd = j from by rw [Nat.mul_comm, Nat.mul_add_mod, Nat.mod_eq_of_lt hj]]
theorem appN {C : Nat} {wr w2 : World} {b : Nat} {x y v v' : Value} {zs L : List Int} (I : Ib C wr v zs) (T : Whole wr b x y v) (hsz : C ≤ wr.heap.size) (I2 : Ib C w2 v' (zs ++ L)) (g2 : wr.grownBy w2 v.ownBlock) :
    Whole w2 b x y v ∧ Below C wr w2 ∧ Ib C (w2.setCell ⟨b, 2, none⟩ v') v' (zs ++ L) ∧ Whole (w2.setCell ⟨b, 2, none⟩ v') b x y v' := by
  have T2 : Whole w2 b x y v := T.grown g2 (T.ne I)
  exact ⟨T2, (Below.refl C wr).grown g2 hsz (fun k hk => (World.ownsRow.lt I k hk).1), I2.apart (p := ⟨b, 2, none⟩) (T2.ne I2) _, T2.put2 _⟩

set_option maxRecDepth 100000 in
set_option maxHeartbeats 2000000 in
theorem l03RowsI (h wd n : Nat) (h1 : 1 ≤ h) (h8 : h ≤ 8) (w1 : 1 ≤ wd) (w8 : wd ≤ 8) (n1 : 1 ≤ n) (n8 : n ≤ 8) (a b : Option Addr) (c2 : Nat) (xs rs : List Int) (hx : xs.length = h * wd) (hn : rs.length = n) (hr : ∀ i, i < n → 0 ≤ rs.getD i 0 ∧ rs.getD i 0 < h) (w : World) (WA : Words w a xs) (WB : Words w b rs) :
    Calls Try.prog 40 #[mval h wd (.slice a xs.length xs.length), .slice b n c2] w (MatResI n wd (flat n wd (rowsM rs (ofL wd xs))) w) := by
  have q1 : h * wd ≤ 8 * 8 := Nat.mul_le_mul h8 w8
  have q2 : n * wd ≤ 8 * 8 := Nat.mul_le_mul n8 w8
  obtain ⟨ba, oa, rfl, hba, ca⟩ := WA.resolve_left (by intro e; rw [e] at hx; have : 1 * 1 ≤ h * wd := Nat.mul_le_mul h1 w1; simp at hx; omega)
  obtain ⟨bb, ob, rfl, hbb, cb⟩ := WB.resolve_left (by intro e; rw [e] at hn; simp at hn; omega)
  obtain ⟨lx, hlx⟩ : ∃ l, l = xs.length := ⟨_, rfl⟩
  have CA := Lib.hid (fun i j (hi : i < h) (hj : j < wd) => (show w.cell? ⟨ba, oa + (i * wd + j), none⟩ = some (.int .i64 (ofL wd xs i j)) from ca _ (by rw [hx]; exact flat_lt hi hj)))
  have CB := Lib.hid (fun i (hi : i < n) => (show w.cell? ⟨bb, ob + i, none⟩ = some (.int .i64 (rs.getD i 0)) from cb _ (by omega)))
  have HR := Lib.hid hr
  have HL := Lib.hid (show lx = h * wd from hlx.trans hx)
  rw [← hlx]
  have hl1 : lx ≤ 64 := by omega
  clear WA WB ca cb hx hlx q1 hr hn
  obtain ⟨i0, hi, hz0, hzz1, hzz2⟩ := info_parts info2
  have l3 := chain (chain (lay w (.cells #[.int .i64 h, .int .i64 wd, .slice (some ⟨ba, oa, none⟩) lx lx] 26)) (lay _ (.cells #[.int .i64 0, .int .i64 0, .slice none 0 0] 26))) (lay _ (.cells #[.int .i64 n, .int .i64 wd, .slice none 0 0] 26))
  have t2 := ((Bx.top w (.int .i64 h) (.int .i64 wd) (.slice (some ⟨ba, oa, none⟩) lx lx) 26).alloc (.cells #[.int .i64 0, .int .i64 0, .slice none 0 0] 26)).alloc (.cells #[.int .i64 n, .int .i64 wd, .slice none 0 0] 26)
  have t4 := (Bx.top (w.alloc (.cells #[.int .i64 h, .int .i64 wd, .slice (some ⟨ba, oa, none⟩) lx lx] 26)) (.int .i64 0) (.int .i64 0) (.slice none 0 0) 26).alloc (.cells #[.int .i64 n, .int .i64 wd, .slice none 0 0] 26)
  have t5 := Whole.top ((w.alloc (.cells #[.int .i64 h, .int .i64 wd, .slice (some ⟨ba, oa, none⟩) lx lx] 26)).alloc (.cells #[.int .i64 0, .int .i64 0, .slice none 0 0] 26)) (.int .i64 n) (.int .i64 wd) (.slice none 0 0)
  simp only [World.size_alloc] at t4 t5
  go_enter Try.func40, Try.ntmps40
  go_wp2_with fail
  go_loopw [6] (fun s wr => ∃ (i : Nat) (v : Value), i ≤ n ∧ s = .int .i64 i ∧ Ib (w.heap.size + 1 + 1 + 1) wr v (flat i wd (rowsM rs (ofL wd xs))) ∧ Bx wr w.heap.size (.int .i64 h) (.int .i64 wd) (.slice (some ⟨ba, oa, none⟩) lx lx) ∧ Bx wr (w.heap.size + 1) (.int .i64 0) (.int .i64 0) (.slice none 0 0) ∧ Whole wr (w.heap.size + 1 + 1) (.int .i64 n) (.int .i64 wd) v ∧ Below w.heap.size w wr ∧ w.heap.size + 1 + 1 + 1 ≤ wr.heap.size) (fun s _ => n - (intOf s).toNat)
  case atStart => exact ⟨0, _, by omega, rfl, by rw [show flat 0 wd (rowsM rs (ofL wd xs)) = [] from by unfold flat; rw [Nat.zero_mul]; rfl]; exact Ib.nil _ _, t2, t4, t5, l3, by simp⟩
  case round =>
    obtain ⟨i, v, hi9, rfl, I, T2, T4, T5, B, hz⟩ := hrel
    clear t2 t4 t5 l3
    by_cases hlt : i < n
    · obtain ⟨r0, r1⟩ := HR.out i hlt
      obtain ⟨p, hp⟩ := Int.eq_ofNat_of_zero_le r0
      have hp8 : p < h := by omega
      have cB : wr.cell? ⟨bb, ob + i, none⟩ = some (.int .i64 (p : Int)) := by rw [← hp]; exact (B.cell (p := ⟨bb, ob + i, none⟩) hbb).trans (CB.out i hlt)
      have SN := flat_succ i wd (rowsM rs (ofL wd xs))
      have hrow : ∀ j, rowsM rs (ofL wd xs) i j = ofL wd xs p j := fun j => by unfold rowsM; rw [hp]; rfl
      have cA : ∀ j, j < wd → wr.cell? ⟨ba, oa + (p * wd + j), none⟩ = some (.int .i64 (rowsM rs (ofL wd xs) i j)) := fun j hj => by rw [hrow j]; exact (B.cell (p := ⟨ba, oa + (p * wd + j), none⟩) hba).trans (CA.out p j hp8 hj)
      have hle : p * wd + wd ≤ lx := by rw [HL.out]; have := flat_le (wd := wd) hp8; first | exact this | (rw [Nat.add_mul, Nat.one_mul] at this; exact this)
      have hzl : (flat i wd (rowsM rs (ofL wd xs))).length ≤ 64 := by rw [flat_length]; exact Nat.le_trans (Nat.mul_le_mul_right wd (by omega : i ≤ n)) q2
      generalize hL : (List.range wd).map (rowsM rs (ofL wd xs) i) = L at SN
      have hLl : L.length = wd := by rw [← hL]; simp
      have hLg : ∀ j u, (L.map (Value.int .i64))[j]? = some u → wr.cell? ⟨ba, oa + p * wd + j, none⟩ = some u := by
        intro j u hu
        rw [List.getElem?_map] at hu
        by_cases hj : j < wd
        · have : L[j]? = some (rowsM rs (ofL wd xs) i j) := by rw [← hL, List.getElem?_map, List.getElem?_range hj]; rfl
          rw [this] at hu
          simp only [Option.map_some, Option.some.injEq] at hu
          rw [← hu, Nat.add_assoc]; exact cA j hj
        · rw [List.getElem?_eq_none (by omega)] at hu; simp at hu
      obtain ⟨P, hP⟩ : ∃ P, P = p * wd := ⟨_, rfl⟩
      have y1 : (p : Int) * (wd : Int) = (P : Int) := by rw [hP]; exact (Int.natCast_mul _ _).symm
      rw [← hP] at hle hLg
      have x1 : IntKind.i64.wrap (P : Int) = (P : Int) := IntWalk.i64_in _ (by omega)
      have x2 : IntKind.i64.wrap ((p : Int) + 1) = (p : Int) + 1 := IntWalk.i64_in _ (by omega)
      have y3 : ((p : Int) + 1) * (wd : Int) = (P : Int) + (wd : Int) := by rw [Int.add_mul, Int.one_mul, y1]
      have x3 : IntKind.i64.wrap ((P : Int) + (wd : Int)) = (P : Int) + (wd : Int) := IntWalk.i64_in _ (by omega)
      have bi : (i : Int) < (n : Int) := by omega
      have b1 : (P : Int) ≤ (P : Int) + (wd : Int) := by omega
      have b2 : (P : Int) + (wd : Int) ≤ (lx : Int) := by omega
      have b3 : (0 : Int) ≤ (P : Int) := by omega
      have k1 : ¬ lx = P := by omega
      have k2 : ((P : Int) + (wd : Int)).toNat = P + wd := by omega
      have k3 : P + wd - P = wd := by omega
      have HT := Lib.hid (And.intro T2 (And.intro T4 (And.intro T5 B)))
      have SN := Lib.hid SN
      have hI := Lib.hid I
      have hLg := Lib.hid hLg
      have T5' := T5.bx
      obtain ⟨-, d0, d1, d2, f0, f1, f2⟩ := T5'
      obtain ⟨-, e0, e1, e2, -⟩ := T2
      generalize hzs : flat i wd (rowsM rs (ofL wd xs)) = zs at SN I hI hzl
      clear hp hL hrow cA hzs hP T4 T5 B I r0 r1
      go_wp2_with fail
      go_still_tail 20, (by kernel_rfl)
      change wpList _ _ _ _ _ wr.drew
      refine wpList_append_own _ rfl (.tmp 19) (.tmp 37) 22 rfl (w.heap.size + 1 + 1 + 1) 2 i0 (.int .i64 0) 1 8 Try.underlying22 hi hz0 hzz1 hzz2 rfl (by decide) v zs.length (zs.map (Value.int .i64)) rfl hI.out ⟨ba, oa + P, none⟩ wd (lx - P) (L.map (Value.int .i64)) rfl (by rw [List.length_map, hLl, Nat.mul_one]) (fun j u hu => by rw [World.cell?_drew, show (⟨ba, oa + P, none⟩ : Addr).add j = ⟨ba, oa + P + j, none⟩ from by simp [Addr.add]]; exact hLg.out j u hu) (by intro u hu; obtain ⟨y, _, rfl⟩ := List.mem_map.1 hu; rfl) (by unfold maxLen; omega) (by omega) hz ?_
      intro v' w3 ho1 hg1 _
      have I3 : Ib (w.heap.size + 1 + 1 + 1) w3 v' (zs ++ L) := by unfold Ib; rw [List.length_append, List.map_append, hLl]; exact ho1
      obtain ⟨a', L', cap', rfl⟩ := I3.shape
      have N := Lib.hid (appN hI.out HT.out.2.2.1 hz I3 ⟨hg1.os, hg1.tape, hg1.output, hg1.size, hg1.block⟩)
      clear d0 d1 d2 f0 f1 f2 e0 e1 e2 I3 ho1 hg1 cB
      obtain ⟨-, d0, d1, d2, f0, f1, f2⟩ := N.out.1.bx
      clear x1 x2 x3 y1 y3
      go_wp2
      go_roundw
      case rel => exact ⟨i + 1, _, by omega, by go_num, by rw [SN.out]; exact N.out.2.2.1, (HT.out.1.under (by omega) N.out.2.1).far (by show w.heap.size + 1 + 1 ≠ _; omega) _, (HT.out.2.1.under (by omega) N.out.2.1).far (by show w.heap.size + 1 + 1 ≠ _; omega) _, N.out.2.2.2, (HT.out.2.2.2.trans (N.out.2.1.mono (by omega))).setCell (by show _ ≤ w.heap.size + 1 + 1; omega) _, by rw [World.size_setCell]; exact Nat.le_trans hz N.out.2.1.size⟩
      case measure => simp [intOf]; omega
    · obtain rfl : i = n := by omega
      obtain ⟨aa, L, cap, rfl⟩ := I.shape
      have LE := Lib.hid (I.own (w0 := w) (by omega)).2
      have O := Lib.hid ((((I.far (p := ⟨w.heap.size + 1, 0, none⟩) (by show w.heap.size + 1 < _; omega) (.int .i64 i)).far (p := ⟨w.heap.size + 1, 1, none⟩) (by show w.heap.size + 1 < _; omega) (.int .i64 wd)).far (p := ⟨w.heap.size + 1, 2, none⟩) (by show w.heap.size + 1 < _; omega) (.slice aa L cap)).mono (C := w.heap.size) (by omega))
      have BB := Lib.hid (((B.setCell (p := ⟨w.heap.size + 1, 0, none⟩) (by show _ ≤ w.heap.size + 1; omega) (.int .i64 i)).setCell (p := ⟨w.heap.size + 1, 1, none⟩) (by show _ ≤ w.heap.size + 1; omega) (.int .i64 wd)).setCell (p := ⟨w.heap.size + 1, 2, none⟩) (by show _ ≤ w.heap.size + 1; omega) (.slice aa L cap))
      obtain ⟨-, c0, c1', c2', -⟩ := T5.bx
      obtain ⟨-, d0, d1, d2, f0, f1, f2⟩ := T4
      clear I B T5 T2
      go_wp2
      exact bodyPost_ret (v := mval i wd (.slice aa L cap)) (by simp [results, Try.results40, go_sem, *]) rfl ⟨aa, L, cap, rfl, LE.out, O.out, BB.out⟩
end Go.Proofs.Ytbnjgehgaellmaa.Gf2
