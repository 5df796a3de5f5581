/-
  The rows of a matrix: what the model's function returns, and with what error's number.
-/
import Derived.Test.YtbnjgehgaellmaaMatRw
import Derived.Test.YtbnjgehgaellmaaMatMul
namespace Go.Proofs.Ytbnjgehgaellmaa.Gf2
open Go.RowKit Go.Proofs.Ytbnjgehgaellmaa.At Go.Proofs.Ytbnjgehgaellmaa.MixC Go.Proofs.Ytbnjgehgaellmaa.Ml Go.Proofs.Ytbnjgehgaellmaa.Gr Go.Proofs.Ytbnjgehgaellmaa.Gj Go.Proofs.Ytbnjgehgaellmaa.GfI Go.Proofs.Ytbnjgehgaellmaa.GfS
open Go.Proofs.Ytbnjgehgaellmaa.Mo (okM implOk l03OK BoolB okM_out)
set_option linter.unusedVariables false

set_option maxRecDepth 100000 in
set_option maxHeartbeats 2000000 in
theorem specMatRows (h wd n m : Nat) (xs rs : List Int) (a b : Option Addr) (c2 : Nat) (o1 : okM h wd xs = true) (n1 : 1 ≤ n) (n8 : n ≤ 8) (hn : rs.length = n) (hm : m ≤ n) (hok : ∀ i, i < m → 0 ≤ rs.getD i 0 ∧ rs.getD i 0 < h) (hbad : m < n → ¬ (0 ≤ rs.getD m 0 ∧ rs.getD m 0 < h))
    (H Wd err : Int) (zs : List Int) (HF1 : m = n → H = n ∧ Wd = wd ∧ err = 0 ∧ zs = flat n wd (rowsM rs (ofL wd xs))) (HF2 : m < n → H = 0 ∧ Wd = 0 ∧ err = 2 ∧ zs = []) (w : World) (WA : Words w a xs) (WB : Words w b rs) :
    Calls Try.prog 10 #[mval h wd (.slice a xs.length xs.length), .slice b n c2] w (MatErr H Wd zs err w) := by
  obtain ⟨⟨h1, h8, w1, w8⟩, lx, ex⟩ := okM_out o1
  have lx' : xs.length = h * wd := by have : (xs.length : Int) = ((h * wd : Nat) : Int) := by rw [lx, Int.natCast_mul]
                                      omega
  have q1 : h * wd ≤ 8 * 8 := Nat.mul_le_mul (by omega) (by omega)
  have OA := fun v (q : Below w.heap.size w v) => l03OK h wd a xs.length xs v (by omega) (WA.below q)
  have RW := fun (e : m = n) v (q : Below w.heap.size w v) => l03RowsI h wd n (by omega) (by omega) (by omega) (by omega) n1 n8 a b c2 xs rs lx' hn (by rw [← e]; exact hok) v (WA.below q) (WB.below q)
  rw [o1] at OA
  obtain ⟨bb, ob, rfl, hbb, cb⟩ := WB.resolve_left (by intro e; rw [e] at hn; simp at hn; omega)
  have CB := Lib.hid (fun i (hi : i < n) => (show w.cell? ⟨bb, ob + i, none⟩ = some (.int .i64 (rs.getD i 0)) from cb _ (by omega)))
  obtain ⟨lxn, hlxn⟩ : ∃ l, l = xs.length := ⟨_, rfl⟩
  rw [← hlxn] at OA RW ⊢
  have OA := Lib.hid OA
  have RW := Lib.hid RW
  have HOK := Lib.hid hok
  have HBAD := Lib.hid hbad
  have HF1 := Lib.hid HF1
  have HF2 := Lib.hid HF2
  have l2 := chain (lay w (.cells #[.int .i64 h, .int .i64 wd, .slice a lxn lxn] 26)) (lay _ (.cells #[.int .i64 0, .int .i64 0, .slice none 0 0] 26))
  have t2 := (Bx.top w (.int .i64 h) (.int .i64 wd) (.slice a lxn lxn) 26).alloc (.cells #[.int .i64 0, .int .i64 0, .slice none 0 0] 26)
  have t4 := Bx.top (w.alloc (.cells #[.int .i64 h, .int .i64 wd, .slice a lxn lxn] 26)) (.int .i64 0) (.int .i64 0) (.slice none 0 0) 26
  simp only [World.size_alloc] at t4
  have hz2 := l2.size
  simp only [World.size_alloc] at hz2
  have i1 : (1 : Int) ≤ (n : Int) := by omega
  have i8 : (n : Int) ≤ 8 := by omega
  have iw : IntKind.i64.wrap ((h : Int) - 1) = (h : Int) - 1 := IntWalk.i64_in _ (by omega)
  clear lx lx' ex o1 hlxn WA WB q1 cb hok hbad hn
  go_enter Try.func10, Try.ntmps10
  go_wp2_with fail
  refine (OA.out _ l2).mono ?_
  rintro e v1 ⟨rfl, b1⟩
  have B1 := chain l2 b1
  have hb1 := b1.size
  simp only [World.size_alloc] at hb1
  have t2 := t2.below b1
  have t4 := t4.below b1
  clear b1 l2
  have HT := Lib.hid (fun (wr : World) (q : Nat) (hw : wr = v1.drewN q) => And.intro (t2.below (below_of_eq hw)) (And.intro (t4.below (below_of_eq hw)) (chain B1 (below_of_eq hw))))
  clear t2 t4 B1
  go_wp2_with fail
  go_loopw [6] (fun s wr => ∃ i q : Nat, i ≤ m ∧ s = .int .i64 i ∧ wr = v1.drewN q) (fun s _ => n - (intOf s).toNat)
  case atStart => exact ⟨0, 0, by omega, rfl, rfl⟩
  case round =>
    obtain ⟨i, q, him, rfl, hw⟩ := hrel
    obtain ⟨T2, T4, B⟩ := HT.out _ _ hw
    by_cases hlt : i < n
    · have cB : wr.cell? ⟨bb, ob + i, none⟩ = some (.int .i64 (rs.getD i 0)) := (B.cell (p := ⟨bb, ob + i, none⟩) hbb).trans (CB.out i hlt)
      have bi : (i : Int) < (n : Int) := by omega
      by_cases him2 : i < m
      · obtain ⟨r0, r1⟩ := HOK.out i him2
        have LI := Lib.hid (l00In (rs.getD i 0) 0 ((h : Int) - 1))
        have IT := inB_yes (n := rs.getD i 0) (low := 0) (high := (h : Int) - 1) r0 (by omega)
        rw [IT] at LI
        generalize rs.getD i 0 = r at cB LI
        have HW := Lib.hid hw
        obtain ⟨-, d0, d1, d2, -⟩ := T2
        clear hw T4 B IT r0 r1
        go_wp2_with fail
        go_quiet ((go_at_call 39; exact Calls.quiet_of_same ((LI.out _).mono (fun _ _ x => ⟨x.1, x.2.symm⟩))))
        clear d0 d1 d2 cB
        go_wp2
        go_roundw
        case rel => exact ⟨i + 1, q + nq, by omega, by go_num, by rw [HW.out, World.drewN_drewN]⟩
        case measure => simp [intOf]; omega
      · obtain rfl : i = m := by omega
        have nb := HBAD.out hlt
        obtain ⟨rfl, rfl, rfl, rfl⟩ := HF2.out hlt
        have LI := Lib.hid (l00In (rs.getD i 0) 0 ((h : Int) - 1))
        have IT : inB (rs.getD i 0) 0 ((h : Int) - 1) = false := decide_eq_false (fun q => nb ⟨q.1, by omega⟩)
        rw [IT] at LI
        generalize rs.getD i 0 = r at cB LI
        have HW := Lib.hid hw
        obtain ⟨-, d0, d1, d2, -⟩ := T2
        clear hw T4 B IT nb
        go_wp2_with fail
        go_quiet ((go_at_call 39; exact Calls.quiet_of_same ((LI.out _).mono (fun _ _ x => ⟨x.1, x.2.symm⟩))))
        clear d0 d1 d2 cB
        obtain ⟨T2, T4, B2⟩ := HT.out (wr.drewN nq) (q + nq) (by rw [HW.out, World.drewN_drewN])
        obtain ⟨-, r0, r1, r2, s0, s1, s2⟩ := T4
        have RES := Lib.hid (err_res (h := 0) (wd := 0) (err := 2) (L := 0) (cap := 0) (a := none) rfl (.inl rfl) (((B2.setCell (p := ⟨w.heap.size + 1, 0, none⟩) (by show _ ≤ w.heap.size + 1; omega) (.int .i64 0)).setCell (p := ⟨w.heap.size + 1, 1, none⟩) (by show _ ≤ w.heap.size + 1; omega) (.int .i64 0)).setCell (p := ⟨w.heap.size + 1, 2, none⟩) (by show _ ≤ w.heap.size + 1; omega) (.slice none 0 0)))
        clear T2 B2
        go_wp2
        exact bodyPost_ret (v := .tuple #[mval 0 0 (.slice none 0 0), .int .i64 2]) (by simp [results, Try.results10, go_sem, *]) rfl RES.out
    · obtain rfl : i = m := by omega
      obtain rfl : i = n := by omega
      obtain ⟨rfl, rfl, rfl, rfl⟩ := HF1.out rfl
      have bz := B.size
      have hv2 : w.heap.size + 1 < wr.heap.size := T4.lt
      have HB := Lib.hid (And.intro T4 B)
      obtain ⟨-, d0, d1, d2, -⟩ := T2
      clear T4 B hw
      go_wp2_with fail
      refine (RW.out (by trivial) _ HB.out.2).mono ?_
      rintro e v3 ⟨aa, L, cap, rfl, hL, I, b3⟩
      have B3 := chain HB.out.2 b3
      obtain ⟨-, r0, r1, r2, s0, s1, s2⟩ := HB.out.1.below b3
      have RES := Lib.hid (fin_res (w := w) (h := i) (wd := wd) (err := 0) (cap := cap) hL (I.own (Nat.le_refl _)).1 B3 hv2 (by omega) (by omega) (.int .i64 i) (.int .i64 wd) (.slice aa L cap))
      clear B3 b3 I hL HB d0 d1 d2
      go_wp2
      exact bodyPost_ret (v := .tuple #[mval i wd (.slice aa L cap), .int .i64 0]) (by simp [results, Try.results10, go_sem, *]) rfl RES.out
end Go.Proofs.Ytbnjgehgaellmaa.Gf2
