/-
  The rows of a matrix: what the program's function returns, where the matrix and the number of rows are right (written by tools/gen/mri.py).
-/
import Derived.Test.YtbnjgehgaellmaaMatRw3
import Derived.Test.YtbnjgehgaellmaaMatMul
import Derived.Test.YtbnjgehgaellmaaCodeM
import Derived.Test.YtbnjgehgaellmaaRs
import Derived.Deep.DeepCutAuto
namespace Go.Proofs.Ytbnjgehgaellmaa.Gf2
open Go.RowKit Go.Proofs.Ytbnjgehgaellmaa.At Go.Proofs.Ytbnjgehgaellmaa.MixC Go.Proofs.Ytbnjgehgaellmaa.Ml Go.Proofs.Ytbnjgehgaellmaa.Gr Go.Proofs.Ytbnjgehgaellmaa.Gj Go.Proofs.Ytbnjgehgaellmaa.GfI
open Go.Proofs.Ytbnjgehgaellmaa.Mo (okM implOk BoolB okM_out)
open Go.Proofs.Ytbnjgehgaellmaa.Rd (tj tk ya yb yc yd ye yf)
set_option linter.unusedVariables false
set_option linter.unusedSimpArgs false

theorem set3B {w : World} {b : Nat} {x y z : Value} (h : Bx w b x y z) (x' y' z' : Value) : Bx (((w.setCell ⟨b, 0, none⟩ x').setCell ⟨b, 1, none⟩ y').setCell ⟨b, 2, none⟩ z') b x' y' z' := by
  obtain ⟨l, c0, c1, c2, f0, f1, f2⟩ := h
  refine ⟨by simpa using l, ?_, ?_, ?_, by simpa using f0, by simpa using f1, by simpa using f2⟩ <;> simp [World.cell?_setCell_same, World.cell?_setCell_other, c0, c1, c2]
theorem set3X {w : World} {c b : Nat} {x y z : Value} (h : Bx w c x y z) (hne : c ≠ b) (x' y' z' : Value) : Bx (((w.setCell ⟨b, 0, none⟩ x').setCell ⟨b, 1, none⟩ y').setCell ⟨b, 2, none⟩ z') c x y z :=
  ((h.far (p := ⟨b, 0, none⟩) hne.symm x').far (p := ⟨b, 1, none⟩) hne.symm y').far (p := ⟨b, 2, none⟩) hne.symm z'
theorem set3M {B : Nat} {w : World} {b g h wd : Nat} {M : Mx} (m : Mat .i64 B w g h wd M) (hne : b ≠ g) (x' y' z' : Value) : Mat .i64 B (((w.setCell ⟨b, 0, none⟩ x').setCell ⟨b, 1, none⟩ y').setCell ⟨b, 2, none⟩ z') g h wd M :=
  ((m.far (p := ⟨b, 0, none⟩) hne x').far (p := ⟨b, 1, none⟩) hne y').far (p := ⟨b, 2, none⟩) hne z'
theorem set3W {B : Nat} {w0 w : World} {b : Nat} (h : Below B w0 w) (hb : B ≤ b) (x' y' z' : Value) : Below B w0 (((w.setCell ⟨b, 0, none⟩ x').setCell ⟨b, 1, none⟩ y').setCell ⟨b, 2, none⟩ z') :=
  ((h.setCell (p := ⟨b, 0, none⟩) hb x').setCell (p := ⟨b, 1, none⟩) hb y').setCell (p := ⟨b, 2, none⟩) hb z'
/-- The two grids that MatRows works on, each behind a box. -/
def Two (w : World) (h wd n NF NT : Nat) (M : Mx) (s6 s7 : Value) (wx : World) : Prop :=
  ∃ p6 p7 gF gT : Nat, s6 = .pointer (some ⟨p6, 0, none⟩) ∧ s7 = .pointer (some ⟨p7, 0, none⟩) ∧
    Bx wx p6 (.int .i64 h) (.int .i64 wd) (.slice (some ⟨gF, 0, none⟩) NF NF) ∧ Bx wx p7 (.int .i64 n) (.int .i64 wd) (.slice (some ⟨gT, 0, none⟩) NT NT) ∧
    Mat .i64 w.heap.size wx gF h wd M ∧ Mat .i64 w.heap.size wx gT n wd (fun _ _ => 0) ∧ (p6 ≠ gT ∧ p7 ≠ gT ∧ gF ≠ gT ∧ w.heap.size + 1 < gT)
def rTo (rs : List Int) (M : Mx) (k : Nat) : Mx := fun a b => if a < k then M (rs.getD a 0).toNat b else 0
def rowL (wd : Nat) (M : Mx) (t : Nat) : List Int := (List.range wd).map (M t)
theorem rowL_len (wd : Nat) (M : Mx) (t : Nat) : (rowL wd M t).length = wd := by simp [rowL]
theorem rowL_get {wd : Nat} {M : Mx} {t j : Nat} (h : j < wd) : (rowL wd M t).getD j 0 = M t j := by simp [rowL, h]
set_option maxRecDepth 100000 in
set_option maxHeartbeats 40000000 in
theorem implMatRows (h wd n m : Nat) (xs rs : List Int) (a b : Option Addr) (c2 : Nat) (o1 : okM h wd xs = true) (n1 : 1 ≤ n) (n8 : n ≤ 8) (hn : rs.length = n) (hm : m ≤ n) (hok : ∀ i, i < m → 0 ≤ rs.getD i 0 ∧ rs.getD i 0 < h) (hbad : m < n → ¬ (0 ≤ rs.getD m 0 ∧ rs.getD m 0 < h))
    (H Wd err : Int) (zs : List Int) (HF1 : m = n → H = n ∧ Wd = wd ∧ err = 0 ∧ zs = flat n wd (rowsM rs (ofL wd xs))) (HF2 : m < n → H = 0 ∧ Wd = 0 ∧ err = 2 ∧ zs = []) (w : World) (WA : Words w a xs) (WB : Words w b rs) :
    Calls Try.prog 13 #[mval h wd (.slice a xs.length xs.length), .slice b n c2] w (MatErr H Wd zs err w) := by
  obtain ⟨⟨h1, h8, w1, w8⟩, lx, ex⟩ := okM_out o1
  have lx' : xs.length = h * wd := by have : (xs.length : Int) = ((h * wd : Nat) : Int) := by rw [lx, Int.natCast_mul]
                                      omega
  have q1 : h * wd ≤ 8 * 8 := Nat.mul_le_mul (by omega) (by omega)
  have q2 : n * wd ≤ 8 * 8 := Nat.mul_le_mul (by omega) (by omega)
  have OA := fun v (q : Below w.heap.size w v) => implOk h wd a xs.length xs v (by omega) (WA.below q)
  rw [o1] at OA
  have GO := fun v (q : Below w.heap.size w v) => gridOf h wd (by omega) (by omega) a xs.length xs lx' v (WA.below q)
  have NG := Lib.hid (newGrid n wd (by omega))
  obtain ⟨bb, ob, rfl, hbb, cb⟩ := WB.resolve_left (by intro e; rw [e] at hn; simp at hn; omega)
  have CB := Lib.hid (fun i (hi : i < n) => (show w.cell? ⟨bb, ob + i, none⟩ = some (.int .i64 (rs.getD i 0)) from cb _ (by omega)))
  obtain ⟨lxn, hlxn⟩ : ∃ l, l = xs.length := ⟨_, rfl⟩
  rw [← hlxn] at OA GO ⊢
  obtain ⟨NF, hNF⟩ : ∃ N, N = h * wd := ⟨_, rfl⟩
  obtain ⟨NT, hNT⟩ : ∃ N, N = n * wd := ⟨_, rfl⟩
  have HF0 := Lib.hid hNF
  have HT0 := Lib.hid hNT
  have f64 : NF ≤ 64 := by omega
  have t64 : NT ≤ 64 := by omega
  obtain ⟨M, hM⟩ : ∃ M : Mx, M = ofL wd xs := ⟨_, rfl⟩
  rw [← hM] at GO HF1
  have OA := Lib.hid OA
  have GO := Lib.hid GO
  have HOK := Lib.hid hok
  have HBAD := Lib.hid hbad
  have HF1 := Lib.hid HF1
  have HF2 := Lib.hid HF2
  have l2 := chain (lay w (.cells #[.int .i64 h, .int .i64 wd, .slice a lxn lxn] 26)) (lay _ (.cells #[.int .i64 0, .int .i64 0, .slice none 0 0] 26))
  have t2 := (Bx.top w (.int .i64 h) (.int .i64 wd) (.slice a lxn lxn) 26).alloc (.cells #[.int .i64 0, .int .i64 0, .slice none 0 0] 26)
  have t4 := Bx.top (w.alloc (.cells #[.int .i64 h, .int .i64 wd, .slice a lxn lxn] 26)) (.int .i64 0) (.int .i64 0) (.slice none 0 0) 26
  simp only [World.size_alloc] at t4
  have i0 : ((n : Int) == 0) = false := by rw [beq_eq_false_iff_ne]; omega
  have i8 : decide ((8 : Int) < (n : Int)) = false := decide_eq_false (by omega)
  clear lx lx' ex o1 hlxn WA WB cb hok hbad hn hNF hNT hM q1 q2
  go_enter Try.func13, Try.ntmps13
  go_wp2_with fail
  refine (OA.out _ l2).mono ?_
  rintro e v1 ⟨rfl, b1⟩
  have T2 := Lib.hid (t2.below b1)
  have T4 := Lib.hid (t4.below b1)
  have BV := Lib.hid (chain l2 b1)
  clear t2 t4 b1 l2 OA
  obtain ⟨-, c0, c1, c2, -⟩ := T2.out
  go_upto_region 5 with fail
  go_cut [6, 7] (fun s6 s7 wx => Two w h wd n NF NT M s6 s7 wx ∧ Bx wx w.heap.size (.int .i64 h) (.int .i64 wd) (.slice a lxn lxn) ∧ Bx wx (w.heap.size + 1) (.int .i64 0) (.int .i64 0) (.slice none 0 0) ∧ Below w.heap.size w wx)
  case first =>
    refine wp_region_noPanic ?_
    refine wp_region_held_drew (S := (fun w' => w'.cell? ⟨w.heap.size, 0, none⟩ = some (.int .i64 h) ∧ w'.cell? ⟨w.heap.size, 1, none⟩ = some (.int .i64 wd) ∧ w'.cell? ⟨w.heap.size, 2, none⟩ = some (.slice a lxn lxn))) (by kernel_rfl) ?_ (fun hHeld => ?_)
    · go_keep
    refine tj 0 rfl ?_
    (try simp only [Act.put, ya, yb, yc, yd, ye, yf])
    refine tj 2 rfl ?_
    (try simp only [Act.put, ya, yb, yc, yd, ye, yf])
    refine tj 3 rfl ?_
    (try simp only [Act.put, ya, yb, yc, yd, ye, yf])
    refine tj 4 rfl ?_
    (try simp only [Act.put, ya, yb, yc, yd, ye, yf])
    refine tj 5 rfl ?_
    (try simp only [Act.put, ya, yb, yc, yd, ye, yf])
    refine wpAnyH_ready (rs := [1, 7, 8]) (by kernel_rfl) (by simp) ?_
    refine AllReadyH.cons rfl (fun K hK => ?_) (AllReadyH.cons rfl (fun K hK => ?_) (AllReadyH.cons rfl (fun K hK => ?_) (AllReadyH.nil)))
    · skip
      go_simp
      have n00 := Lib.hid T4.out.lt
      have nV0 := Lib.hid BV.out.size
      go_at_call 42
      refine (GO.out _ (by first | exact BV.out | exact BV.out.drew)).mono ?_
      rintro e u1 ⟨gF, rfl, m0, b9⟩
      rw [← HF0.out]
      (try replace b9 := undrew b9)
      have m1 : v1.heap.size ≤ gF := m0.old
      have m5 := Lib.hid m1
      clear m1
      have T2 := Lib.hid (T2.out.below b9)
      have T4 := Lib.hid (T4.out.below b9)
      have BV := Lib.hid (chain BV.out b9)
      have m0 := matMono (C := w.heap.size) m0 (by have z := nV0.out; first | exact z | simpa using z)
      have MF := Lib.hid m0
      clear m0 b9
      obtain ⟨-, c0, c1, c2, -⟩ := T2.out
      (try go_wp2_with fail)
      refine hK.out _ _ ?_ (fun hHeld1 => ?_)
      · (try dsimp only); go_keep
      clear hK K
      (try simp only [Act.put, ya, yb, yc, yd, ye, yf])
      refine wpAnyH_ready (rs := [6, 7, 8]) (by kernel_rfl) (by simp) ?_
      refine AllReadyH.cons rfl (fun K hK => ?_) (AllReadyH.cons rfl (fun K hK => ?_) (AllReadyH.cons rfl (fun K hK => ?_) (AllReadyH.nil)))
      · skip
        go_simp
        have nMF1 := Lib.hid MF.out.lt
        have n01 := Lib.hid T4.out.lt
        have nV1 := Lib.hid BV.out.size
        go_at_call 43
        refine (NG.out _).mono ?_
        rintro e u2 ⟨gT, rfl, m0, b9⟩
        rw [← HT0.out]
        (try replace b9 := undrew b9)
        have m1 : u1.heap.size ≤ gT := m0.old
        have m6 := Lib.hid m1
        clear m1
        have MF := Lib.hid (MF.out.below b9)
        have T2 := Lib.hid (T2.out.below b9)
        have T4 := Lib.hid (T4.out.below b9)
        have BV := Lib.hid (chain BV.out b9)
        have m0 := matMono (C := w.heap.size) m0 (by have z := nV1.out; first | exact z | simpa using z)
        have MT := Lib.hid m0
        clear m0 b9
        obtain ⟨-, c0, c1, c2, -⟩ := T2.out
        (try go_wp2_with fail)
        refine hK.out _ _ ?_ (fun hHeld6 => ?_)
        · (try dsimp only); go_keep
        clear hK K
        (try simp only [Act.put, ya, yb, yc, yd, ye, yf])
        refine wpAnyH_ready (rs := [7, 8]) (by kernel_rfl) (by simp) ?_
        refine AllReadyH.cons rfl (fun K hK => ?_) (AllReadyH.cons rfl (fun K hK => ?_) (AllReadyH.nil))
        · skip
          go_simp
          have nMF2 := Lib.hid MF.out.lt
          have nMT2 := Lib.hid MT.out.lt
          have n02 := Lib.hid T4.out.lt
          have nV2 := Lib.hid BV.out.size
          have LZ := lay u2 (.cells #[.int .i64 0, .int .i64 0, .slice none 0 0] 96)
          have b0 := Bx.top u2 (.int .i64 0) (.int .i64 0) (.slice none 0 0) 96
          (try simp only [World.size_alloc] at b0)
          have B6 := Lib.hid b0
          clear b0
          have MF := Lib.hid (MF.out.below LZ)
          have MT := Lib.hid (MT.out.below LZ)
          have T2 := Lib.hid (T2.out.below LZ)
          have T4 := Lib.hid (T4.out.below LZ)
          have BV := Lib.hid (chain BV.out LZ)
          clear LZ
          obtain ⟨-, c0, c1, c2, -⟩ := T2.out
          refine hK.out _ _ ?_ (fun hHeld7 => ?_)
          · (try dsimp only); go_keep
          clear hK K
          (try simp only [Act.put, ya, yb, yc, yd, ye, yf])
          refine wpAnyH_ready (rs := [8]) (by kernel_rfl) (by simp) ?_
          refine AllReadyH.cons rfl (fun K hK => ?_) (AllReadyH.nil)
          go_simp
          have nMF3 := Lib.hid MF.out.lt
          have nMT3 := Lib.hid MT.out.lt
          have nB63 := Lib.hid B6.out.lt
          have n03 := Lib.hid T4.out.lt
          have nV3 := Lib.hid BV.out.size
          have LZ := lay (u2.alloc (.cells #[.int .i64 0, .int .i64 0, .slice none 0 0] 96)) (.cells #[.int .i64 0, .int .i64 0, .slice none 0 0] 96)
          have b0 := Bx.top (u2.alloc (.cells #[.int .i64 0, .int .i64 0, .slice none 0 0] 96)) (.int .i64 0) (.int .i64 0) (.slice none 0 0) 96
          (try simp only [World.size_alloc] at b0)
          have B7 := Lib.hid b0
          clear b0
          have MF := Lib.hid (MF.out.below LZ)
          have MT := Lib.hid (MT.out.below LZ)
          have B6 := Lib.hid (B6.out.below LZ)
          have T2 := Lib.hid (T2.out.below LZ)
          have T4 := Lib.hid (T4.out.below LZ)
          have BV := Lib.hid (chain BV.out LZ)
          clear LZ
          obtain ⟨-, c0, c1, c2, -⟩ := T2.out
          refine hK.out _ _ ?_ (fun hHeld8 => ?_)
          · (try dsimp only); go_keep
          clear hK K
          (try simp only [Act.put, ya, yb, yc, yd, ye, yf])
          generalize ((u2.alloc (.cells #[.int .i64 0, .int .i64 0, .slice none 0 0] 96)).alloc (.cells #[.int .i64 0, .int .i64 0, .slice none 0 0] 96)) = Wv at *
          have zn00 := n00.out
          (try simp only [World.size_alloc] at zn00)
          have znV0 := nV0.out
          (try simp only [World.size_alloc] at znV0)
          have znMF1 := nMF1.out
          (try simp only [World.size_alloc] at znMF1)
          have zn01 := n01.out
          (try simp only [World.size_alloc] at zn01)
          have znV1 := nV1.out
          (try simp only [World.size_alloc] at znV1)
          have znMF2 := nMF2.out
          (try simp only [World.size_alloc] at znMF2)
          have znMT2 := nMT2.out
          (try simp only [World.size_alloc] at znMT2)
          have zn02 := n02.out
          (try simp only [World.size_alloc] at zn02)
          have znV2 := nV2.out
          (try simp only [World.size_alloc] at znV2)
          have znMF3 := nMF3.out
          (try simp only [World.size_alloc] at znMF3)
          have znMT3 := nMT3.out
          (try simp only [World.size_alloc] at znMT3)
          have znB63 := nB63.out
          (try simp only [World.size_alloc] at znB63)
          have zn03 := n03.out
          (try simp only [World.size_alloc] at zn03)
          have znV3 := nV3.out
          (try simp only [World.size_alloc] at znV3)
          have zm5 := m5.out
          (try simp only [World.size_alloc] at zm5)
          have zm6 := m6.out
          (try simp only [World.size_alloc] at zm6)
          refine wpAnyH_ready (rs := [9]) (by kernel_rfl) (by simp) ?_
          refine AllReadyH.cons rfl (fun K hK => ?_) AllReadyH.nil
          obtain ⟨-, k0, k1, k2, j0, j1, j2⟩ := B6.out
          go_simp
          have T2 := Lib.hid (set3X (b := u2.heap.size) T2.out (by omega) (.int .i64 h) (.int .i64 wd) (.slice (some ⟨gF, 0, none⟩) NF NF))
          have T4 := Lib.hid (set3X (b := u2.heap.size) T4.out (by omega) (.int .i64 h) (.int .i64 wd) (.slice (some ⟨gF, 0, none⟩) NF NF))
          have B7 := Lib.hid (set3X (b := u2.heap.size) B7.out (by omega) (.int .i64 h) (.int .i64 wd) (.slice (some ⟨gF, 0, none⟩) NF NF))
          have MF := Lib.hid (set3M (b := u2.heap.size) MF.out (by omega) (.int .i64 h) (.int .i64 wd) (.slice (some ⟨gF, 0, none⟩) NF NF))
          have MT := Lib.hid (set3M (b := u2.heap.size) MT.out (by omega) (.int .i64 h) (.int .i64 wd) (.slice (some ⟨gF, 0, none⟩) NF NF))
          have BV := Lib.hid (set3W (b := u2.heap.size) BV.out (by omega) (.int .i64 h) (.int .i64 wd) (.slice (some ⟨gF, 0, none⟩) NF NF))
          have B6 := Lib.hid (set3B (b := u2.heap.size) B6.out (.int .i64 h) (.int .i64 wd) (.slice (some ⟨gF, 0, none⟩) NF NF))
          clear c0 c1 c2 k0 k1 k2 j0 j1 j2
          obtain ⟨-, c0, c1, c2, -⟩ := T2.out
          refine hK.out _ _ ?_ (fun hHeldS => ?_)
          · (try dsimp only); go_keep
          clear hK K
          (try simp only [Act.put, ya, yb, yc, yd, ye, yf])
          refine wpAnyH_ready (rs := [10]) (by kernel_rfl) (by simp) ?_
          refine AllReadyH.cons rfl (fun K hK => ?_) AllReadyH.nil
          obtain ⟨-, k0, k1, k2, j0, j1, j2⟩ := B7.out
          go_simp
          have T2 := Lib.hid (set3X (b := u2.heap.size + 1) T2.out (by omega) (.int .i64 n) (.int .i64 wd) (.slice (some ⟨gT, 0, none⟩) NT NT))
          have T4 := Lib.hid (set3X (b := u2.heap.size + 1) T4.out (by omega) (.int .i64 n) (.int .i64 wd) (.slice (some ⟨gT, 0, none⟩) NT NT))
          have B6 := Lib.hid (set3X (b := u2.heap.size + 1) B6.out (by omega) (.int .i64 n) (.int .i64 wd) (.slice (some ⟨gT, 0, none⟩) NT NT))
          have MF := Lib.hid (set3M (b := u2.heap.size + 1) MF.out (by omega) (.int .i64 n) (.int .i64 wd) (.slice (some ⟨gT, 0, none⟩) NT NT))
          have MT := Lib.hid (set3M (b := u2.heap.size + 1) MT.out (by omega) (.int .i64 n) (.int .i64 wd) (.slice (some ⟨gT, 0, none⟩) NT NT))
          have BV := Lib.hid (set3W (b := u2.heap.size + 1) BV.out (by omega) (.int .i64 n) (.int .i64 wd) (.slice (some ⟨gT, 0, none⟩) NT NT))
          have B7 := Lib.hid (set3B (b := u2.heap.size + 1) B7.out (.int .i64 n) (.int .i64 wd) (.slice (some ⟨gT, 0, none⟩) NT NT))
          clear c0 c1 c2 k0 k1 k2 j0 j1 j2
          obtain ⟨-, c0, c1, c2, -⟩ := T2.out
          refine hK.out _ _ ?_ (fun hHeldS => ?_)
          · (try dsimp only); go_keep
          clear hK K
          (try simp only [Act.put, ya, yb, yc, yd, ye, yf])
          refine wpAnyH_done (by kernel_rfl) ?_ _
          refine NoPanic.normal ?_
          go_wp2_with fail
          go_meet
          case rel => exact ⟨⟨_, _, gF, gT, rfl, rfl, B6.out, B7.out, MF.out, MT.out, by omega, by omega, by omega, by omega⟩, T2.out, T4.out, BV.out⟩
        · skip
          go_simp
          have nMF2 := Lib.hid MF.out.lt
          have nMT2 := Lib.hid MT.out.lt
          have n02 := Lib.hid T4.out.lt
          have nV2 := Lib.hid BV.out.size
          have LZ := lay u2 (.cells #[.int .i64 0, .int .i64 0, .slice none 0 0] 96)
          have b0 := Bx.top u2 (.int .i64 0) (.int .i64 0) (.slice none 0 0) 96
          (try simp only [World.size_alloc] at b0)
          have B7 := Lib.hid b0
          clear b0
          have MF := Lib.hid (MF.out.below LZ)
          have MT := Lib.hid (MT.out.below LZ)
          have T2 := Lib.hid (T2.out.below LZ)
          have T4 := Lib.hid (T4.out.below LZ)
          have BV := Lib.hid (chain BV.out LZ)
          clear LZ
          obtain ⟨-, c0, c1, c2, -⟩ := T2.out
          refine hK.out _ _ ?_ (fun hHeld8 => ?_)
          · (try dsimp only); go_keep
          clear hK K
          (try simp only [Act.put, ya, yb, yc, yd, ye, yf])
          refine wpAnyH_ready (rs := [7]) (by kernel_rfl) (by simp) ?_
          refine AllReadyH.cons rfl (fun K hK => ?_) (AllReadyH.nil)
          go_simp
          have nMF3 := Lib.hid MF.out.lt
          have nMT3 := Lib.hid MT.out.lt
          have nB73 := Lib.hid B7.out.lt
          have n03 := Lib.hid T4.out.lt
          have nV3 := Lib.hid BV.out.size
          have LZ := lay (u2.alloc (.cells #[.int .i64 0, .int .i64 0, .slice none 0 0] 96)) (.cells #[.int .i64 0, .int .i64 0, .slice none 0 0] 96)
          have b0 := Bx.top (u2.alloc (.cells #[.int .i64 0, .int .i64 0, .slice none 0 0] 96)) (.int .i64 0) (.int .i64 0) (.slice none 0 0) 96
          (try simp only [World.size_alloc] at b0)
          have B6 := Lib.hid b0
          clear b0
          have MF := Lib.hid (MF.out.below LZ)
          have MT := Lib.hid (MT.out.below LZ)
          have B7 := Lib.hid (B7.out.below LZ)
          have T2 := Lib.hid (T2.out.below LZ)
          have T4 := Lib.hid (T4.out.below LZ)
          have BV := Lib.hid (chain BV.out LZ)
          clear LZ
          obtain ⟨-, c0, c1, c2, -⟩ := T2.out
          refine hK.out _ _ ?_ (fun hHeld7 => ?_)
          · (try dsimp only); go_keep
          clear hK K
          (try simp only [Act.put, ya, yb, yc, yd, ye, yf])
          generalize ((u2.alloc (.cells #[.int .i64 0, .int .i64 0, .slice none 0 0] 96)).alloc (.cells #[.int .i64 0, .int .i64 0, .slice none 0 0] 96)) = Wv at *
          have zn00 := n00.out
          (try simp only [World.size_alloc] at zn00)
          have znV0 := nV0.out
          (try simp only [World.size_alloc] at znV0)
          have znMF1 := nMF1.out
          (try simp only [World.size_alloc] at znMF1)
          have zn01 := n01.out
          (try simp only [World.size_alloc] at zn01)
          have znV1 := nV1.out
          (try simp only [World.size_alloc] at znV1)
          have znMF2 := nMF2.out
          (try simp only [World.size_alloc] at znMF2)
          have znMT2 := nMT2.out
          (try simp only [World.size_alloc] at znMT2)
          have zn02 := n02.out
          (try simp only [World.size_alloc] at zn02)
          have znV2 := nV2.out
          (try simp only [World.size_alloc] at znV2)
          have znMF3 := nMF3.out
          (try simp only [World.size_alloc] at znMF3)
          have znMT3 := nMT3.out
          (try simp only [World.size_alloc] at znMT3)
          have znB73 := nB73.out
          (try simp only [World.size_alloc] at znB73)
          have zn03 := n03.out
          (try simp only [World.size_alloc] at zn03)
          have znV3 := nV3.out
          (try simp only [World.size_alloc] at znV3)
          have zm5 := m5.out
          (try simp only [World.size_alloc] at zm5)
          have zm6 := m6.out
          (try simp only [World.size_alloc] at zm6)
          refine wpAnyH_ready (rs := [9]) (by kernel_rfl) (by simp) ?_
          refine AllReadyH.cons rfl (fun K hK => ?_) AllReadyH.nil
          obtain ⟨-, k0, k1, k2, j0, j1, j2⟩ := B6.out
          go_simp
          have T2 := Lib.hid (set3X (b := u2.heap.size + 1) T2.out (by omega) (.int .i64 h) (.int .i64 wd) (.slice (some ⟨gF, 0, none⟩) NF NF))
          have T4 := Lib.hid (set3X (b := u2.heap.size + 1) T4.out (by omega) (.int .i64 h) (.int .i64 wd) (.slice (some ⟨gF, 0, none⟩) NF NF))
          have B7 := Lib.hid (set3X (b := u2.heap.size + 1) B7.out (by omega) (.int .i64 h) (.int .i64 wd) (.slice (some ⟨gF, 0, none⟩) NF NF))
          have MF := Lib.hid (set3M (b := u2.heap.size + 1) MF.out (by omega) (.int .i64 h) (.int .i64 wd) (.slice (some ⟨gF, 0, none⟩) NF NF))
          have MT := Lib.hid (set3M (b := u2.heap.size + 1) MT.out (by omega) (.int .i64 h) (.int .i64 wd) (.slice (some ⟨gF, 0, none⟩) NF NF))
          have BV := Lib.hid (set3W (b := u2.heap.size + 1) BV.out (by omega) (.int .i64 h) (.int .i64 wd) (.slice (some ⟨gF, 0, none⟩) NF NF))
          have B6 := Lib.hid (set3B (b := u2.heap.size + 1) B6.out (.int .i64 h) (.int .i64 wd) (.slice (some ⟨gF, 0, none⟩) NF NF))
          clear c0 c1 c2 k0 k1 k2 j0 j1 j2
          obtain ⟨-, c0, c1, c2, -⟩ := T2.out
          refine hK.out _ _ ?_ (fun hHeldS => ?_)
          · (try dsimp only); go_keep
          clear hK K
          (try simp only [Act.put, ya, yb, yc, yd, ye, yf])
          refine wpAnyH_ready (rs := [10]) (by kernel_rfl) (by simp) ?_
          refine AllReadyH.cons rfl (fun K hK => ?_) AllReadyH.nil
          obtain ⟨-, k0, k1, k2, j0, j1, j2⟩ := B7.out
          go_simp
          have T2 := Lib.hid (set3X (b := u2.heap.size) T2.out (by omega) (.int .i64 n) (.int .i64 wd) (.slice (some ⟨gT, 0, none⟩) NT NT))
          have T4 := Lib.hid (set3X (b := u2.heap.size) T4.out (by omega) (.int .i64 n) (.int .i64 wd) (.slice (some ⟨gT, 0, none⟩) NT NT))
          have B6 := Lib.hid (set3X (b := u2.heap.size) B6.out (by omega) (.int .i64 n) (.int .i64 wd) (.slice (some ⟨gT, 0, none⟩) NT NT))
          have MF := Lib.hid (set3M (b := u2.heap.size) MF.out (by omega) (.int .i64 n) (.int .i64 wd) (.slice (some ⟨gT, 0, none⟩) NT NT))
          have MT := Lib.hid (set3M (b := u2.heap.size) MT.out (by omega) (.int .i64 n) (.int .i64 wd) (.slice (some ⟨gT, 0, none⟩) NT NT))
          have BV := Lib.hid (set3W (b := u2.heap.size) BV.out (by omega) (.int .i64 n) (.int .i64 wd) (.slice (some ⟨gT, 0, none⟩) NT NT))
          have B7 := Lib.hid (set3B (b := u2.heap.size) B7.out (.int .i64 n) (.int .i64 wd) (.slice (some ⟨gT, 0, none⟩) NT NT))
          clear c0 c1 c2 k0 k1 k2 j0 j1 j2
          obtain ⟨-, c0, c1, c2, -⟩ := T2.out
          refine hK.out _ _ ?_ (fun hHeldS => ?_)
          · (try dsimp only); go_keep
          clear hK K
          (try simp only [Act.put, ya, yb, yc, yd, ye, yf])
          refine wpAnyH_done (by kernel_rfl) ?_ _
          refine NoPanic.normal ?_
          go_wp2_with fail
          go_meet
          case rel => exact ⟨⟨_, _, gF, gT, rfl, rfl, B6.out, B7.out, MF.out, MT.out, by omega, by omega, by omega, by omega⟩, T2.out, T4.out, BV.out⟩
      · skip
        go_simp
        have nMF1 := Lib.hid MF.out.lt
        have n01 := Lib.hid T4.out.lt
        have nV1 := Lib.hid BV.out.size
        have LZ := lay u1 (.cells #[.int .i64 0, .int .i64 0, .slice none 0 0] 96)
        have b0 := Bx.top u1 (.int .i64 0) (.int .i64 0) (.slice none 0 0) 96
        (try simp only [World.size_alloc] at b0)
        have B6 := Lib.hid b0
        clear b0
        have MF := Lib.hid (MF.out.below LZ)
        have T2 := Lib.hid (T2.out.below LZ)
        have T4 := Lib.hid (T4.out.below LZ)
        have BV := Lib.hid (chain BV.out LZ)
        clear LZ
        obtain ⟨-, c0, c1, c2, -⟩ := T2.out
        refine hK.out _ _ ?_ (fun hHeld7 => ?_)
        · (try dsimp only); go_keep
        clear hK K
        (try simp only [Act.put, ya, yb, yc, yd, ye, yf])
        refine wpAnyH_ready (rs := [6, 8]) (by kernel_rfl) (by simp) ?_
        refine AllReadyH.cons rfl (fun K hK => ?_) (AllReadyH.cons rfl (fun K hK => ?_) (AllReadyH.nil))
        · skip
          go_simp
          have nMF2 := Lib.hid MF.out.lt
          have nB62 := Lib.hid B6.out.lt
          have n02 := Lib.hid T4.out.lt
          have nV2 := Lib.hid BV.out.size
          go_at_call 43
          refine (NG.out _).mono ?_
          rintro e u2 ⟨gT, rfl, m0, b9⟩
          rw [← HT0.out]
          (try replace b9 := undrew b9)
          have m1 : (u1.alloc (.cells #[.int .i64 0, .int .i64 0, .slice none 0 0] 96)).heap.size ≤ gT := m0.old
          have m6 := Lib.hid m1
          clear m1
          have MF := Lib.hid (MF.out.below b9)
          have B6 := Lib.hid (B6.out.below b9)
          have T2 := Lib.hid (T2.out.below b9)
          have T4 := Lib.hid (T4.out.below b9)
          have BV := Lib.hid (chain BV.out b9)
          have m0 := matMono (C := w.heap.size) m0 (by have z := nV2.out; first | exact z | simpa using z)
          have MT := Lib.hid m0
          clear m0 b9
          obtain ⟨-, c0, c1, c2, -⟩ := T2.out
          (try go_wp2_with fail)
          refine hK.out _ _ ?_ (fun hHeld6 => ?_)
          · (try dsimp only); go_keep
          clear hK K
          (try simp only [Act.put, ya, yb, yc, yd, ye, yf])
          refine wpAnyH_ready (rs := [8]) (by kernel_rfl) (by simp) ?_
          refine AllReadyH.cons rfl (fun K hK => ?_) (AllReadyH.nil)
          go_simp
          have nMF3 := Lib.hid MF.out.lt
          have nB63 := Lib.hid B6.out.lt
          have nMT3 := Lib.hid MT.out.lt
          have n03 := Lib.hid T4.out.lt
          have nV3 := Lib.hid BV.out.size
          have LZ := lay u2 (.cells #[.int .i64 0, .int .i64 0, .slice none 0 0] 96)
          have b0 := Bx.top u2 (.int .i64 0) (.int .i64 0) (.slice none 0 0) 96
          (try simp only [World.size_alloc] at b0)
          have B7 := Lib.hid b0
          clear b0
          have MF := Lib.hid (MF.out.below LZ)
          have B6 := Lib.hid (B6.out.below LZ)
          have MT := Lib.hid (MT.out.below LZ)
          have T2 := Lib.hid (T2.out.below LZ)
          have T4 := Lib.hid (T4.out.below LZ)
          have BV := Lib.hid (chain BV.out LZ)
          clear LZ
          obtain ⟨-, c0, c1, c2, -⟩ := T2.out
          refine hK.out _ _ ?_ (fun hHeld8 => ?_)
          · (try dsimp only); go_keep
          clear hK K
          (try simp only [Act.put, ya, yb, yc, yd, ye, yf])
          generalize (u2.alloc (.cells #[.int .i64 0, .int .i64 0, .slice none 0 0] 96)) = Wv at *
          have zn00 := n00.out
          (try simp only [World.size_alloc] at zn00)
          have znV0 := nV0.out
          (try simp only [World.size_alloc] at znV0)
          have znMF1 := nMF1.out
          (try simp only [World.size_alloc] at znMF1)
          have zn01 := n01.out
          (try simp only [World.size_alloc] at zn01)
          have znV1 := nV1.out
          (try simp only [World.size_alloc] at znV1)
          have znMF2 := nMF2.out
          (try simp only [World.size_alloc] at znMF2)
          have znB62 := nB62.out
          (try simp only [World.size_alloc] at znB62)
          have zn02 := n02.out
          (try simp only [World.size_alloc] at zn02)
          have znV2 := nV2.out
          (try simp only [World.size_alloc] at znV2)
          have znMF3 := nMF3.out
          (try simp only [World.size_alloc] at znMF3)
          have znB63 := nB63.out
          (try simp only [World.size_alloc] at znB63)
          have znMT3 := nMT3.out
          (try simp only [World.size_alloc] at znMT3)
          have zn03 := n03.out
          (try simp only [World.size_alloc] at zn03)
          have znV3 := nV3.out
          (try simp only [World.size_alloc] at znV3)
          have zm5 := m5.out
          (try simp only [World.size_alloc] at zm5)
          have zm6 := m6.out
          (try simp only [World.size_alloc] at zm6)
          refine wpAnyH_ready (rs := [9]) (by kernel_rfl) (by simp) ?_
          refine AllReadyH.cons rfl (fun K hK => ?_) AllReadyH.nil
          obtain ⟨-, k0, k1, k2, j0, j1, j2⟩ := B6.out
          go_simp
          have T2 := Lib.hid (set3X (b := u1.heap.size) T2.out (by omega) (.int .i64 h) (.int .i64 wd) (.slice (some ⟨gF, 0, none⟩) NF NF))
          have T4 := Lib.hid (set3X (b := u1.heap.size) T4.out (by omega) (.int .i64 h) (.int .i64 wd) (.slice (some ⟨gF, 0, none⟩) NF NF))
          have B7 := Lib.hid (set3X (b := u1.heap.size) B7.out (by omega) (.int .i64 h) (.int .i64 wd) (.slice (some ⟨gF, 0, none⟩) NF NF))
          have MF := Lib.hid (set3M (b := u1.heap.size) MF.out (by omega) (.int .i64 h) (.int .i64 wd) (.slice (some ⟨gF, 0, none⟩) NF NF))
          have MT := Lib.hid (set3M (b := u1.heap.size) MT.out (by omega) (.int .i64 h) (.int .i64 wd) (.slice (some ⟨gF, 0, none⟩) NF NF))
          have BV := Lib.hid (set3W (b := u1.heap.size) BV.out (by omega) (.int .i64 h) (.int .i64 wd) (.slice (some ⟨gF, 0, none⟩) NF NF))
          have B6 := Lib.hid (set3B (b := u1.heap.size) B6.out (.int .i64 h) (.int .i64 wd) (.slice (some ⟨gF, 0, none⟩) NF NF))
          clear c0 c1 c2 k0 k1 k2 j0 j1 j2
          obtain ⟨-, c0, c1, c2, -⟩ := T2.out
          refine hK.out _ _ ?_ (fun hHeldS => ?_)
          · (try dsimp only); go_keep
          clear hK K
          (try simp only [Act.put, ya, yb, yc, yd, ye, yf])
          refine wpAnyH_ready (rs := [10]) (by kernel_rfl) (by simp) ?_
          refine AllReadyH.cons rfl (fun K hK => ?_) AllReadyH.nil
          obtain ⟨-, k0, k1, k2, j0, j1, j2⟩ := B7.out
          go_simp
          have T2 := Lib.hid (set3X (b := u2.heap.size) T2.out (by omega) (.int .i64 n) (.int .i64 wd) (.slice (some ⟨gT, 0, none⟩) NT NT))
          have T4 := Lib.hid (set3X (b := u2.heap.size) T4.out (by omega) (.int .i64 n) (.int .i64 wd) (.slice (some ⟨gT, 0, none⟩) NT NT))
          have B6 := Lib.hid (set3X (b := u2.heap.size) B6.out (by omega) (.int .i64 n) (.int .i64 wd) (.slice (some ⟨gT, 0, none⟩) NT NT))
          have MF := Lib.hid (set3M (b := u2.heap.size) MF.out (by omega) (.int .i64 n) (.int .i64 wd) (.slice (some ⟨gT, 0, none⟩) NT NT))
          have MT := Lib.hid (set3M (b := u2.heap.size) MT.out (by omega) (.int .i64 n) (.int .i64 wd) (.slice (some ⟨gT, 0, none⟩) NT NT))
          have BV := Lib.hid (set3W (b := u2.heap.size) BV.out (by omega) (.int .i64 n) (.int .i64 wd) (.slice (some ⟨gT, 0, none⟩) NT NT))
          have B7 := Lib.hid (set3B (b := u2.heap.size) B7.out (.int .i64 n) (.int .i64 wd) (.slice (some ⟨gT, 0, none⟩) NT NT))
          clear c0 c1 c2 k0 k1 k2 j0 j1 j2
          obtain ⟨-, c0, c1, c2, -⟩ := T2.out
          refine hK.out _ _ ?_ (fun hHeldS => ?_)
          · (try dsimp only); go_keep
          clear hK K
          (try simp only [Act.put, ya, yb, yc, yd, ye, yf])
          refine wpAnyH_done (by kernel_rfl) ?_ _
          refine NoPanic.normal ?_
          go_wp2_with fail
          go_meet
          case rel => exact ⟨⟨_, _, gF, gT, rfl, rfl, B6.out, B7.out, MF.out, MT.out, by omega, by omega, by omega, by omega⟩, T2.out, T4.out, BV.out⟩
        · skip
          go_simp
          have nMF2 := Lib.hid MF.out.lt
          have nB62 := Lib.hid B6.out.lt
          have n02 := Lib.hid T4.out.lt
          have nV2 := Lib.hid BV.out.size
          have LZ := lay (u1.alloc (.cells #[.int .i64 0, .int .i64 0, .slice none 0 0] 96)) (.cells #[.int .i64 0, .int .i64 0, .slice none 0 0] 96)
          have b0 := Bx.top (u1.alloc (.cells #[.int .i64 0, .int .i64 0, .slice none 0 0] 96)) (.int .i64 0) (.int .i64 0) (.slice none 0 0) 96
          (try simp only [World.size_alloc] at b0)
          have B7 := Lib.hid b0
          clear b0
          have MF := Lib.hid (MF.out.below LZ)
          have B6 := Lib.hid (B6.out.below LZ)
          have T2 := Lib.hid (T2.out.below LZ)
          have T4 := Lib.hid (T4.out.below LZ)
          have BV := Lib.hid (chain BV.out LZ)
          clear LZ
          obtain ⟨-, c0, c1, c2, -⟩ := T2.out
          refine hK.out _ _ ?_ (fun hHeld8 => ?_)
          · (try dsimp only); go_keep
          clear hK K
          (try simp only [Act.put, ya, yb, yc, yd, ye, yf])
          refine wpAnyH_ready (rs := [6]) (by kernel_rfl) (by simp) ?_
          refine AllReadyH.cons rfl (fun K hK => ?_) (AllReadyH.nil)
          go_simp
          have nMF3 := Lib.hid MF.out.lt
          have nB63 := Lib.hid B6.out.lt
          have nB73 := Lib.hid B7.out.lt
          have n03 := Lib.hid T4.out.lt
          have nV3 := Lib.hid BV.out.size
          go_at_call 43
          refine (NG.out _).mono ?_
          rintro e u2 ⟨gT, rfl, m0, b9⟩
          rw [← HT0.out]
          (try replace b9 := undrew b9)
          have m1 : ((u1.alloc (.cells #[.int .i64 0, .int .i64 0, .slice none 0 0] 96)).alloc (.cells #[.int .i64 0, .int .i64 0, .slice none 0 0] 96)).heap.size ≤ gT := m0.old
          have m6 := Lib.hid m1
          clear m1
          have MF := Lib.hid (MF.out.below b9)
          have B6 := Lib.hid (B6.out.below b9)
          have B7 := Lib.hid (B7.out.below b9)
          have T2 := Lib.hid (T2.out.below b9)
          have T4 := Lib.hid (T4.out.below b9)
          have BV := Lib.hid (chain BV.out b9)
          have m0 := matMono (C := w.heap.size) m0 (by have z := nV3.out; first | exact z | simpa using z)
          have MT := Lib.hid m0
          clear m0 b9
          obtain ⟨-, c0, c1, c2, -⟩ := T2.out
          (try go_wp2_with fail)
          refine hK.out _ _ ?_ (fun hHeld6 => ?_)
          · (try dsimp only); go_keep
          clear hK K
          (try simp only [Act.put, ya, yb, yc, yd, ye, yf])
          have zn00 := n00.out
          (try simp only [World.size_alloc] at zn00)
          have znV0 := nV0.out
          (try simp only [World.size_alloc] at znV0)
          have znMF1 := nMF1.out
          (try simp only [World.size_alloc] at znMF1)
          have zn01 := n01.out
          (try simp only [World.size_alloc] at zn01)
          have znV1 := nV1.out
          (try simp only [World.size_alloc] at znV1)
          have znMF2 := nMF2.out
          (try simp only [World.size_alloc] at znMF2)
          have znB62 := nB62.out
          (try simp only [World.size_alloc] at znB62)
          have zn02 := n02.out
          (try simp only [World.size_alloc] at zn02)
          have znV2 := nV2.out
          (try simp only [World.size_alloc] at znV2)
          have znMF3 := nMF3.out
          (try simp only [World.size_alloc] at znMF3)
          have znB63 := nB63.out
          (try simp only [World.size_alloc] at znB63)
          have znB73 := nB73.out
          (try simp only [World.size_alloc] at znB73)
          have zn03 := n03.out
          (try simp only [World.size_alloc] at zn03)
          have znV3 := nV3.out
          (try simp only [World.size_alloc] at znV3)
          have zm5 := m5.out
          (try simp only [World.size_alloc] at zm5)
          have zm6 := m6.out
          (try simp only [World.size_alloc] at zm6)
          refine wpAnyH_ready (rs := [9]) (by kernel_rfl) (by simp) ?_
          refine AllReadyH.cons rfl (fun K hK => ?_) AllReadyH.nil
          obtain ⟨-, k0, k1, k2, j0, j1, j2⟩ := B6.out
          go_simp
          have T2 := Lib.hid (set3X (b := u1.heap.size) T2.out (by omega) (.int .i64 h) (.int .i64 wd) (.slice (some ⟨gF, 0, none⟩) NF NF))
          have T4 := Lib.hid (set3X (b := u1.heap.size) T4.out (by omega) (.int .i64 h) (.int .i64 wd) (.slice (some ⟨gF, 0, none⟩) NF NF))
          have B7 := Lib.hid (set3X (b := u1.heap.size) B7.out (by omega) (.int .i64 h) (.int .i64 wd) (.slice (some ⟨gF, 0, none⟩) NF NF))
          have MF := Lib.hid (set3M (b := u1.heap.size) MF.out (by omega) (.int .i64 h) (.int .i64 wd) (.slice (some ⟨gF, 0, none⟩) NF NF))
          have MT := Lib.hid (set3M (b := u1.heap.size) MT.out (by omega) (.int .i64 h) (.int .i64 wd) (.slice (some ⟨gF, 0, none⟩) NF NF))
          have BV := Lib.hid (set3W (b := u1.heap.size) BV.out (by omega) (.int .i64 h) (.int .i64 wd) (.slice (some ⟨gF, 0, none⟩) NF NF))
          have B6 := Lib.hid (set3B (b := u1.heap.size) B6.out (.int .i64 h) (.int .i64 wd) (.slice (some ⟨gF, 0, none⟩) NF NF))
          clear c0 c1 c2 k0 k1 k2 j0 j1 j2
          obtain ⟨-, c0, c1, c2, -⟩ := T2.out
          refine hK.out _ _ ?_ (fun hHeldS => ?_)
          · (try dsimp only); go_keep
          clear hK K
          (try simp only [Act.put, ya, yb, yc, yd, ye, yf])
          refine wpAnyH_ready (rs := [10]) (by kernel_rfl) (by simp) ?_
          refine AllReadyH.cons rfl (fun K hK => ?_) AllReadyH.nil
          obtain ⟨-, k0, k1, k2, j0, j1, j2⟩ := B7.out
          go_simp
          have T2 := Lib.hid (set3X (b := u1.heap.size + 1) T2.out (by omega) (.int .i64 n) (.int .i64 wd) (.slice (some ⟨gT, 0, none⟩) NT NT))
          have T4 := Lib.hid (set3X (b := u1.heap.size + 1) T4.out (by omega) (.int .i64 n) (.int .i64 wd) (.slice (some ⟨gT, 0, none⟩) NT NT))
          have B6 := Lib.hid (set3X (b := u1.heap.size + 1) B6.out (by omega) (.int .i64 n) (.int .i64 wd) (.slice (some ⟨gT, 0, none⟩) NT NT))
          have MF := Lib.hid (set3M (b := u1.heap.size + 1) MF.out (by omega) (.int .i64 n) (.int .i64 wd) (.slice (some ⟨gT, 0, none⟩) NT NT))
          have MT := Lib.hid (set3M (b := u1.heap.size + 1) MT.out (by omega) (.int .i64 n) (.int .i64 wd) (.slice (some ⟨gT, 0, none⟩) NT NT))
          have BV := Lib.hid (set3W (b := u1.heap.size + 1) BV.out (by omega) (.int .i64 n) (.int .i64 wd) (.slice (some ⟨gT, 0, none⟩) NT NT))
          have B7 := Lib.hid (set3B (b := u1.heap.size + 1) B7.out (.int .i64 n) (.int .i64 wd) (.slice (some ⟨gT, 0, none⟩) NT NT))
          clear c0 c1 c2 k0 k1 k2 j0 j1 j2
          obtain ⟨-, c0, c1, c2, -⟩ := T2.out
          refine hK.out _ _ ?_ (fun hHeldS => ?_)
          · (try dsimp only); go_keep
          clear hK K
          (try simp only [Act.put, ya, yb, yc, yd, ye, yf])
          refine wpAnyH_done (by kernel_rfl) ?_ _
          refine NoPanic.normal ?_
          go_wp2_with fail
          go_meet
          case rel => exact ⟨⟨_, _, gF, gT, rfl, rfl, B6.out, B7.out, MF.out, MT.out, by omega, by omega, by omega, by omega⟩, T2.out, T4.out, BV.out⟩
      · skip
        go_simp
        have nMF1 := Lib.hid MF.out.lt
        have n01 := Lib.hid T4.out.lt
        have nV1 := Lib.hid BV.out.size
        have LZ := lay u1 (.cells #[.int .i64 0, .int .i64 0, .slice none 0 0] 96)
        have b0 := Bx.top u1 (.int .i64 0) (.int .i64 0) (.slice none 0 0) 96
        (try simp only [World.size_alloc] at b0)
        have B7 := Lib.hid b0
        clear b0
        have MF := Lib.hid (MF.out.below LZ)
        have T2 := Lib.hid (T2.out.below LZ)
        have T4 := Lib.hid (T4.out.below LZ)
        have BV := Lib.hid (chain BV.out LZ)
        clear LZ
        obtain ⟨-, c0, c1, c2, -⟩ := T2.out
        refine hK.out _ _ ?_ (fun hHeld8 => ?_)
        · (try dsimp only); go_keep
        clear hK K
        (try simp only [Act.put, ya, yb, yc, yd, ye, yf])
        refine wpAnyH_ready (rs := [6, 7]) (by kernel_rfl) (by simp) ?_
        refine AllReadyH.cons rfl (fun K hK => ?_) (AllReadyH.cons rfl (fun K hK => ?_) (AllReadyH.nil))
        · skip
          go_simp
          have nMF2 := Lib.hid MF.out.lt
          have nB72 := Lib.hid B7.out.lt
          have n02 := Lib.hid T4.out.lt
          have nV2 := Lib.hid BV.out.size
          go_at_call 43
          refine (NG.out _).mono ?_
          rintro e u2 ⟨gT, rfl, m0, b9⟩
          rw [← HT0.out]
          (try replace b9 := undrew b9)
          have m1 : (u1.alloc (.cells #[.int .i64 0, .int .i64 0, .slice none 0 0] 96)).heap.size ≤ gT := m0.old
          have m6 := Lib.hid m1
          clear m1
          have MF := Lib.hid (MF.out.below b9)
          have B7 := Lib.hid (B7.out.below b9)
          have T2 := Lib.hid (T2.out.below b9)
          have T4 := Lib.hid (T4.out.below b9)
          have BV := Lib.hid (chain BV.out b9)
          have m0 := matMono (C := w.heap.size) m0 (by have z := nV2.out; first | exact z | simpa using z)
          have MT := Lib.hid m0
          clear m0 b9
          obtain ⟨-, c0, c1, c2, -⟩ := T2.out
          (try go_wp2_with fail)
          refine hK.out _ _ ?_ (fun hHeld6 => ?_)
          · (try dsimp only); go_keep
          clear hK K
          (try simp only [Act.put, ya, yb, yc, yd, ye, yf])
          refine wpAnyH_ready (rs := [7]) (by kernel_rfl) (by simp) ?_
          refine AllReadyH.cons rfl (fun K hK => ?_) (AllReadyH.nil)
          go_simp
          have nMF3 := Lib.hid MF.out.lt
          have nB73 := Lib.hid B7.out.lt
          have nMT3 := Lib.hid MT.out.lt
          have n03 := Lib.hid T4.out.lt
          have nV3 := Lib.hid BV.out.size
          have LZ := lay u2 (.cells #[.int .i64 0, .int .i64 0, .slice none 0 0] 96)
          have b0 := Bx.top u2 (.int .i64 0) (.int .i64 0) (.slice none 0 0) 96
          (try simp only [World.size_alloc] at b0)
          have B6 := Lib.hid b0
          clear b0
          have MF := Lib.hid (MF.out.below LZ)
          have B7 := Lib.hid (B7.out.below LZ)
          have MT := Lib.hid (MT.out.below LZ)
          have T2 := Lib.hid (T2.out.below LZ)
          have T4 := Lib.hid (T4.out.below LZ)
          have BV := Lib.hid (chain BV.out LZ)
          clear LZ
          obtain ⟨-, c0, c1, c2, -⟩ := T2.out
          refine hK.out _ _ ?_ (fun hHeld7 => ?_)
          · (try dsimp only); go_keep
          clear hK K
          (try simp only [Act.put, ya, yb, yc, yd, ye, yf])
          generalize (u2.alloc (.cells #[.int .i64 0, .int .i64 0, .slice none 0 0] 96)) = Wv at *
          have zn00 := n00.out
          (try simp only [World.size_alloc] at zn00)
          have znV0 := nV0.out
          (try simp only [World.size_alloc] at znV0)
          have znMF1 := nMF1.out
          (try simp only [World.size_alloc] at znMF1)
          have zn01 := n01.out
          (try simp only [World.size_alloc] at zn01)
          have znV1 := nV1.out
          (try simp only [World.size_alloc] at znV1)
          have znMF2 := nMF2.out
          (try simp only [World.size_alloc] at znMF2)
          have znB72 := nB72.out
          (try simp only [World.size_alloc] at znB72)
          have zn02 := n02.out
          (try simp only [World.size_alloc] at zn02)
          have znV2 := nV2.out
          (try simp only [World.size_alloc] at znV2)
          have znMF3 := nMF3.out
          (try simp only [World.size_alloc] at znMF3)
          have znB73 := nB73.out
          (try simp only [World.size_alloc] at znB73)
          have znMT3 := nMT3.out
          (try simp only [World.size_alloc] at znMT3)
          have zn03 := n03.out
          (try simp only [World.size_alloc] at zn03)
          have znV3 := nV3.out
          (try simp only [World.size_alloc] at znV3)
          have zm5 := m5.out
          (try simp only [World.size_alloc] at zm5)
          have zm6 := m6.out
          (try simp only [World.size_alloc] at zm6)
          refine wpAnyH_ready (rs := [9]) (by kernel_rfl) (by simp) ?_
          refine AllReadyH.cons rfl (fun K hK => ?_) AllReadyH.nil
          obtain ⟨-, k0, k1, k2, j0, j1, j2⟩ := B6.out
          go_simp
          have T2 := Lib.hid (set3X (b := u2.heap.size) T2.out (by omega) (.int .i64 h) (.int .i64 wd) (.slice (some ⟨gF, 0, none⟩) NF NF))
          have T4 := Lib.hid (set3X (b := u2.heap.size) T4.out (by omega) (.int .i64 h) (.int .i64 wd) (.slice (some ⟨gF, 0, none⟩) NF NF))
          have B7 := Lib.hid (set3X (b := u2.heap.size) B7.out (by omega) (.int .i64 h) (.int .i64 wd) (.slice (some ⟨gF, 0, none⟩) NF NF))
          have MF := Lib.hid (set3M (b := u2.heap.size) MF.out (by omega) (.int .i64 h) (.int .i64 wd) (.slice (some ⟨gF, 0, none⟩) NF NF))
          have MT := Lib.hid (set3M (b := u2.heap.size) MT.out (by omega) (.int .i64 h) (.int .i64 wd) (.slice (some ⟨gF, 0, none⟩) NF NF))
          have BV := Lib.hid (set3W (b := u2.heap.size) BV.out (by omega) (.int .i64 h) (.int .i64 wd) (.slice (some ⟨gF, 0, none⟩) NF NF))
          have B6 := Lib.hid (set3B (b := u2.heap.size) B6.out (.int .i64 h) (.int .i64 wd) (.slice (some ⟨gF, 0, none⟩) NF NF))
          clear c0 c1 c2 k0 k1 k2 j0 j1 j2
          obtain ⟨-, c0, c1, c2, -⟩ := T2.out
          refine hK.out _ _ ?_ (fun hHeldS => ?_)
          · (try dsimp only); go_keep
          clear hK K
          (try simp only [Act.put, ya, yb, yc, yd, ye, yf])
          refine wpAnyH_ready (rs := [10]) (by kernel_rfl) (by simp) ?_
          refine AllReadyH.cons rfl (fun K hK => ?_) AllReadyH.nil
          obtain ⟨-, k0, k1, k2, j0, j1, j2⟩ := B7.out
          go_simp
          have T2 := Lib.hid (set3X (b := u1.heap.size) T2.out (by omega) (.int .i64 n) (.int .i64 wd) (.slice (some ⟨gT, 0, none⟩) NT NT))
          have T4 := Lib.hid (set3X (b := u1.heap.size) T4.out (by omega) (.int .i64 n) (.int .i64 wd) (.slice (some ⟨gT, 0, none⟩) NT NT))
          have B6 := Lib.hid (set3X (b := u1.heap.size) B6.out (by omega) (.int .i64 n) (.int .i64 wd) (.slice (some ⟨gT, 0, none⟩) NT NT))
          have MF := Lib.hid (set3M (b := u1.heap.size) MF.out (by omega) (.int .i64 n) (.int .i64 wd) (.slice (some ⟨gT, 0, none⟩) NT NT))
          have MT := Lib.hid (set3M (b := u1.heap.size) MT.out (by omega) (.int .i64 n) (.int .i64 wd) (.slice (some ⟨gT, 0, none⟩) NT NT))
          have BV := Lib.hid (set3W (b := u1.heap.size) BV.out (by omega) (.int .i64 n) (.int .i64 wd) (.slice (some ⟨gT, 0, none⟩) NT NT))
          have B7 := Lib.hid (set3B (b := u1.heap.size) B7.out (.int .i64 n) (.int .i64 wd) (.slice (some ⟨gT, 0, none⟩) NT NT))
          clear c0 c1 c2 k0 k1 k2 j0 j1 j2
          obtain ⟨-, c0, c1, c2, -⟩ := T2.out
          refine hK.out _ _ ?_ (fun hHeldS => ?_)
          · (try dsimp only); go_keep
          clear hK K
          (try simp only [Act.put, ya, yb, yc, yd, ye, yf])
          refine wpAnyH_done (by kernel_rfl) ?_ _
          refine NoPanic.normal ?_
          go_wp2_with fail
          go_meet
          case rel => exact ⟨⟨_, _, gF, gT, rfl, rfl, B6.out, B7.out, MF.out, MT.out, by omega, by omega, by omega, by omega⟩, T2.out, T4.out, BV.out⟩
        · skip
          go_simp
          have nMF2 := Lib.hid MF.out.lt
          have nB72 := Lib.hid B7.out.lt
          have n02 := Lib.hid T4.out.lt
          have nV2 := Lib.hid BV.out.size
          have LZ := lay (u1.alloc (.cells #[.int .i64 0, .int .i64 0, .slice none 0 0] 96)) (.cells #[.int .i64 0, .int .i64 0, .slice none 0 0] 96)
          have b0 := Bx.top (u1.alloc (.cells #[.int .i64 0, .int .i64 0, .slice none 0 0] 96)) (.int .i64 0) (.int .i64 0) (.slice none 0 0) 96
          (try simp only [World.size_alloc] at b0)
          have B6 := Lib.hid b0
          clear b0
          have MF := Lib.hid (MF.out.below LZ)
          have B7 := Lib.hid (B7.out.below LZ)
          have T2 := Lib.hid (T2.out.below LZ)
          have T4 := Lib.hid (T4.out.below LZ)
          have BV := Lib.hid (chain BV.out LZ)
          clear LZ
          obtain ⟨-, c0, c1, c2, -⟩ := T2.out
          refine hK.out _ _ ?_ (fun hHeld7 => ?_)
          · (try dsimp only); go_keep
          clear hK K
          (try simp only [Act.put, ya, yb, yc, yd, ye, yf])
          refine wpAnyH_ready (rs := [6]) (by kernel_rfl) (by simp) ?_
          refine AllReadyH.cons rfl (fun K hK => ?_) (AllReadyH.nil)
          go_simp
          have nMF3 := Lib.hid MF.out.lt
          have nB73 := Lib.hid B7.out.lt
          have nB63 := Lib.hid B6.out.lt
          have n03 := Lib.hid T4.out.lt
          have nV3 := Lib.hid BV.out.size
          go_at_call 43
          refine (NG.out _).mono ?_
          rintro e u2 ⟨gT, rfl, m0, b9⟩
          rw [← HT0.out]
          (try replace b9 := undrew b9)
          have m1 : ((u1.alloc (.cells #[.int .i64 0, .int .i64 0, .slice none 0 0] 96)).alloc (.cells #[.int .i64 0, .int .i64 0, .slice none 0 0] 96)).heap.size ≤ gT := m0.old
          have m6 := Lib.hid m1
          clear m1
          have MF := Lib.hid (MF.out.below b9)
          have B7 := Lib.hid (B7.out.below b9)
          have B6 := Lib.hid (B6.out.below b9)
          have T2 := Lib.hid (T2.out.below b9)
          have T4 := Lib.hid (T4.out.below b9)
          have BV := Lib.hid (chain BV.out b9)
          have m0 := matMono (C := w.heap.size) m0 (by have z := nV3.out; first | exact z | simpa using z)
          have MT := Lib.hid m0
          clear m0 b9
          obtain ⟨-, c0, c1, c2, -⟩ := T2.out
          (try go_wp2_with fail)
          refine hK.out _ _ ?_ (fun hHeld6 => ?_)
          · (try dsimp only); go_keep
          clear hK K
          (try simp only [Act.put, ya, yb, yc, yd, ye, yf])
          have zn00 := n00.out
          (try simp only [World.size_alloc] at zn00)
          have znV0 := nV0.out
          (try simp only [World.size_alloc] at znV0)
          have znMF1 := nMF1.out
          (try simp only [World.size_alloc] at znMF1)
          have zn01 := n01.out
          (try simp only [World.size_alloc] at zn01)
          have znV1 := nV1.out
          (try simp only [World.size_alloc] at znV1)
          have znMF2 := nMF2.out
          (try simp only [World.size_alloc] at znMF2)
          have znB72 := nB72.out
          (try simp only [World.size_alloc] at znB72)
          have zn02 := n02.out
          (try simp only [World.size_alloc] at zn02)
          have znV2 := nV2.out
          (try simp only [World.size_alloc] at znV2)
          have znMF3 := nMF3.out
          (try simp only [World.size_alloc] at znMF3)
          have znB73 := nB73.out
          (try simp only [World.size_alloc] at znB73)
          have znB63 := nB63.out
          (try simp only [World.size_alloc] at znB63)
          have zn03 := n03.out
          (try simp only [World.size_alloc] at zn03)
          have znV3 := nV3.out
          (try simp only [World.size_alloc] at znV3)
          have zm5 := m5.out
          (try simp only [World.size_alloc] at zm5)
          have zm6 := m6.out
          (try simp only [World.size_alloc] at zm6)
          refine wpAnyH_ready (rs := [9]) (by kernel_rfl) (by simp) ?_
          refine AllReadyH.cons rfl (fun K hK => ?_) AllReadyH.nil
          obtain ⟨-, k0, k1, k2, j0, j1, j2⟩ := B6.out
          go_simp
          have T2 := Lib.hid (set3X (b := u1.heap.size + 1) T2.out (by omega) (.int .i64 h) (.int .i64 wd) (.slice (some ⟨gF, 0, none⟩) NF NF))
          have T4 := Lib.hid (set3X (b := u1.heap.size + 1) T4.out (by omega) (.int .i64 h) (.int .i64 wd) (.slice (some ⟨gF, 0, none⟩) NF NF))
          have B7 := Lib.hid (set3X (b := u1.heap.size + 1) B7.out (by omega) (.int .i64 h) (.int .i64 wd) (.slice (some ⟨gF, 0, none⟩) NF NF))
          have MF := Lib.hid (set3M (b := u1.heap.size + 1) MF.out (by omega) (.int .i64 h) (.int .i64 wd) (.slice (some ⟨gF, 0, none⟩) NF NF))
          have MT := Lib.hid (set3M (b := u1.heap.size + 1) MT.out (by omega) (.int .i64 h) (.int .i64 wd) (.slice (some ⟨gF, 0, none⟩) NF NF))
          have BV := Lib.hid (set3W (b := u1.heap.size + 1) BV.out (by omega) (.int .i64 h) (.int .i64 wd) (.slice (some ⟨gF, 0, none⟩) NF NF))
          have B6 := Lib.hid (set3B (b := u1.heap.size + 1) B6.out (.int .i64 h) (.int .i64 wd) (.slice (some ⟨gF, 0, none⟩) NF NF))
          clear c0 c1 c2 k0 k1 k2 j0 j1 j2
          obtain ⟨-, c0, c1, c2, -⟩ := T2.out
          refine hK.out _ _ ?_ (fun hHeldS => ?_)
          · (try dsimp only); go_keep
          clear hK K
          (try simp only [Act.put, ya, yb, yc, yd, ye, yf])
          refine wpAnyH_ready (rs := [10]) (by kernel_rfl) (by simp) ?_
          refine AllReadyH.cons rfl (fun K hK => ?_) AllReadyH.nil
          obtain ⟨-, k0, k1, k2, j0, j1, j2⟩ := B7.out
          go_simp
          have T2 := Lib.hid (set3X (b := u1.heap.size) T2.out (by omega) (.int .i64 n) (.int .i64 wd) (.slice (some ⟨gT, 0, none⟩) NT NT))
          have T4 := Lib.hid (set3X (b := u1.heap.size) T4.out (by omega) (.int .i64 n) (.int .i64 wd) (.slice (some ⟨gT, 0, none⟩) NT NT))
          have B6 := Lib.hid (set3X (b := u1.heap.size) B6.out (by omega) (.int .i64 n) (.int .i64 wd) (.slice (some ⟨gT, 0, none⟩) NT NT))
          have MF := Lib.hid (set3M (b := u1.heap.size) MF.out (by omega) (.int .i64 n) (.int .i64 wd) (.slice (some ⟨gT, 0, none⟩) NT NT))
          have MT := Lib.hid (set3M (b := u1.heap.size) MT.out (by omega) (.int .i64 n) (.int .i64 wd) (.slice (some ⟨gT, 0, none⟩) NT NT))
          have BV := Lib.hid (set3W (b := u1.heap.size) BV.out (by omega) (.int .i64 n) (.int .i64 wd) (.slice (some ⟨gT, 0, none⟩) NT NT))
          have B7 := Lib.hid (set3B (b := u1.heap.size) B7.out (.int .i64 n) (.int .i64 wd) (.slice (some ⟨gT, 0, none⟩) NT NT))
          clear c0 c1 c2 k0 k1 k2 j0 j1 j2
          obtain ⟨-, c0, c1, c2, -⟩ := T2.out
          refine hK.out _ _ ?_ (fun hHeldS => ?_)
          · (try dsimp only); go_keep
          clear hK K
          (try simp only [Act.put, ya, yb, yc, yd, ye, yf])
          refine wpAnyH_done (by kernel_rfl) ?_ _
          refine NoPanic.normal ?_
          go_wp2_with fail
          go_meet
          case rel => exact ⟨⟨_, _, gF, gT, rfl, rfl, B6.out, B7.out, MF.out, MT.out, by omega, by omega, by omega, by omega⟩, T2.out, T4.out, BV.out⟩
    · skip
      go_simp
      have n00 := Lib.hid T4.out.lt
      have nV0 := Lib.hid BV.out.size
      have LZ := lay v1 (.cells #[.int .i64 0, .int .i64 0, .slice none 0 0] 96)
      have b0 := Bx.top v1 (.int .i64 0) (.int .i64 0) (.slice none 0 0) 96
      (try simp only [World.size_alloc] at b0)
      have B6 := Lib.hid b0
      clear b0
      have T2 := Lib.hid (T2.out.below LZ)
      have T4 := Lib.hid (T4.out.below LZ)
      have BV := Lib.hid (chain BV.out LZ)
      clear LZ
      obtain ⟨-, c0, c1, c2, -⟩ := T2.out
      refine hK.out _ _ ?_ (fun hHeld7 => ?_)
      · (try dsimp only); go_keep
      clear hK K
      (try simp only [Act.put, ya, yb, yc, yd, ye, yf])
      refine wpAnyH_ready (rs := [1, 8]) (by kernel_rfl) (by simp) ?_
      refine AllReadyH.cons rfl (fun K hK => ?_) (AllReadyH.cons rfl (fun K hK => ?_) (AllReadyH.nil))
      · skip
        go_simp
        have nB61 := Lib.hid B6.out.lt
        have n01 := Lib.hid T4.out.lt
        have nV1 := Lib.hid BV.out.size
        go_at_call 42
        refine (GO.out _ (by first | exact BV.out | exact BV.out.drew)).mono ?_
        rintro e u1 ⟨gF, rfl, m0, b9⟩
        rw [← HF0.out]
        (try replace b9 := undrew b9)
        have m1 : (v1.alloc (.cells #[.int .i64 0, .int .i64 0, .slice none 0 0] 96)).heap.size ≤ gF := m0.old
        have m5 := Lib.hid m1
        clear m1
        have B6 := Lib.hid (B6.out.below b9)
        have T2 := Lib.hid (T2.out.below b9)
        have T4 := Lib.hid (T4.out.below b9)
        have BV := Lib.hid (chain BV.out b9)
        have m0 := matMono (C := w.heap.size) m0 (by have z := nV1.out; first | exact z | simpa using z)
        have MF := Lib.hid m0
        clear m0 b9
        obtain ⟨-, c0, c1, c2, -⟩ := T2.out
        (try go_wp2_with fail)
        refine hK.out _ _ ?_ (fun hHeld1 => ?_)
        · (try dsimp only); go_keep
        clear hK K
        (try simp only [Act.put, ya, yb, yc, yd, ye, yf])
        refine wpAnyH_ready (rs := [6, 8]) (by kernel_rfl) (by simp) ?_
        refine AllReadyH.cons rfl (fun K hK => ?_) (AllReadyH.cons rfl (fun K hK => ?_) (AllReadyH.nil))
        · skip
          go_simp
          have nB62 := Lib.hid B6.out.lt
          have nMF2 := Lib.hid MF.out.lt
          have n02 := Lib.hid T4.out.lt
          have nV2 := Lib.hid BV.out.size
          go_at_call 43
          refine (NG.out _).mono ?_
          rintro e u2 ⟨gT, rfl, m0, b9⟩
          rw [← HT0.out]
          (try replace b9 := undrew b9)
          have m1 : u1.heap.size ≤ gT := m0.old
          have m6 := Lib.hid m1
          clear m1
          have B6 := Lib.hid (B6.out.below b9)
          have MF := Lib.hid (MF.out.below b9)
          have T2 := Lib.hid (T2.out.below b9)
          have T4 := Lib.hid (T4.out.below b9)
          have BV := Lib.hid (chain BV.out b9)
          have m0 := matMono (C := w.heap.size) m0 (by have z := nV2.out; first | exact z | simpa using z)
          have MT := Lib.hid m0
          clear m0 b9
          obtain ⟨-, c0, c1, c2, -⟩ := T2.out
          (try go_wp2_with fail)
          refine hK.out _ _ ?_ (fun hHeld6 => ?_)
          · (try dsimp only); go_keep
          clear hK K
          (try simp only [Act.put, ya, yb, yc, yd, ye, yf])
          refine wpAnyH_ready (rs := [8]) (by kernel_rfl) (by simp) ?_
          refine AllReadyH.cons rfl (fun K hK => ?_) (AllReadyH.nil)
          go_simp
          have nB63 := Lib.hid B6.out.lt
          have nMF3 := Lib.hid MF.out.lt
          have nMT3 := Lib.hid MT.out.lt
          have n03 := Lib.hid T4.out.lt
          have nV3 := Lib.hid BV.out.size
          have LZ := lay u2 (.cells #[.int .i64 0, .int .i64 0, .slice none 0 0] 96)
          have b0 := Bx.top u2 (.int .i64 0) (.int .i64 0) (.slice none 0 0) 96
          (try simp only [World.size_alloc] at b0)
          have B7 := Lib.hid b0
          clear b0
          have B6 := Lib.hid (B6.out.below LZ)
          have MF := Lib.hid (MF.out.below LZ)
          have MT := Lib.hid (MT.out.below LZ)
          have T2 := Lib.hid (T2.out.below LZ)
          have T4 := Lib.hid (T4.out.below LZ)
          have BV := Lib.hid (chain BV.out LZ)
          clear LZ
          obtain ⟨-, c0, c1, c2, -⟩ := T2.out
          refine hK.out _ _ ?_ (fun hHeld8 => ?_)
          · (try dsimp only); go_keep
          clear hK K
          (try simp only [Act.put, ya, yb, yc, yd, ye, yf])
          generalize (u2.alloc (.cells #[.int .i64 0, .int .i64 0, .slice none 0 0] 96)) = Wv at *
          have zn00 := n00.out
          (try simp only [World.size_alloc] at zn00)
          have znV0 := nV0.out
          (try simp only [World.size_alloc] at znV0)
          have znB61 := nB61.out
          (try simp only [World.size_alloc] at znB61)
          have zn01 := n01.out
          (try simp only [World.size_alloc] at zn01)
          have znV1 := nV1.out
          (try simp only [World.size_alloc] at znV1)
          have znB62 := nB62.out
          (try simp only [World.size_alloc] at znB62)
          have znMF2 := nMF2.out
          (try simp only [World.size_alloc] at znMF2)
          have zn02 := n02.out
          (try simp only [World.size_alloc] at zn02)
          have znV2 := nV2.out
          (try simp only [World.size_alloc] at znV2)
          have znB63 := nB63.out
          (try simp only [World.size_alloc] at znB63)
          have znMF3 := nMF3.out
          (try simp only [World.size_alloc] at znMF3)
          have znMT3 := nMT3.out
          (try simp only [World.size_alloc] at znMT3)
          have zn03 := n03.out
          (try simp only [World.size_alloc] at zn03)
          have znV3 := nV3.out
          (try simp only [World.size_alloc] at znV3)
          have zm5 := m5.out
          (try simp only [World.size_alloc] at zm5)
          have zm6 := m6.out
          (try simp only [World.size_alloc] at zm6)
          refine wpAnyH_ready (rs := [9]) (by kernel_rfl) (by simp) ?_
          refine AllReadyH.cons rfl (fun K hK => ?_) AllReadyH.nil
          obtain ⟨-, k0, k1, k2, j0, j1, j2⟩ := B6.out
          go_simp
          have T2 := Lib.hid (set3X (b := v1.heap.size) T2.out (by omega) (.int .i64 h) (.int .i64 wd) (.slice (some ⟨gF, 0, none⟩) NF NF))
          have T4 := Lib.hid (set3X (b := v1.heap.size) T4.out (by omega) (.int .i64 h) (.int .i64 wd) (.slice (some ⟨gF, 0, none⟩) NF NF))
          have B7 := Lib.hid (set3X (b := v1.heap.size) B7.out (by omega) (.int .i64 h) (.int .i64 wd) (.slice (some ⟨gF, 0, none⟩) NF NF))
          have MF := Lib.hid (set3M (b := v1.heap.size) MF.out (by omega) (.int .i64 h) (.int .i64 wd) (.slice (some ⟨gF, 0, none⟩) NF NF))
          have MT := Lib.hid (set3M (b := v1.heap.size) MT.out (by omega) (.int .i64 h) (.int .i64 wd) (.slice (some ⟨gF, 0, none⟩) NF NF))
          have BV := Lib.hid (set3W (b := v1.heap.size) BV.out (by omega) (.int .i64 h) (.int .i64 wd) (.slice (some ⟨gF, 0, none⟩) NF NF))
          have B6 := Lib.hid (set3B (b := v1.heap.size) B6.out (.int .i64 h) (.int .i64 wd) (.slice (some ⟨gF, 0, none⟩) NF NF))
          clear c0 c1 c2 k0 k1 k2 j0 j1 j2
          obtain ⟨-, c0, c1, c2, -⟩ := T2.out
          refine hK.out _ _ ?_ (fun hHeldS => ?_)
          · (try dsimp only); go_keep
          clear hK K
          (try simp only [Act.put, ya, yb, yc, yd, ye, yf])
          refine wpAnyH_ready (rs := [10]) (by kernel_rfl) (by simp) ?_
          refine AllReadyH.cons rfl (fun K hK => ?_) AllReadyH.nil
          obtain ⟨-, k0, k1, k2, j0, j1, j2⟩ := B7.out
          go_simp
          have T2 := Lib.hid (set3X (b := u2.heap.size) T2.out (by omega) (.int .i64 n) (.int .i64 wd) (.slice (some ⟨gT, 0, none⟩) NT NT))
          have T4 := Lib.hid (set3X (b := u2.heap.size) T4.out (by omega) (.int .i64 n) (.int .i64 wd) (.slice (some ⟨gT, 0, none⟩) NT NT))
          have B6 := Lib.hid (set3X (b := u2.heap.size) B6.out (by omega) (.int .i64 n) (.int .i64 wd) (.slice (some ⟨gT, 0, none⟩) NT NT))
          have MF := Lib.hid (set3M (b := u2.heap.size) MF.out (by omega) (.int .i64 n) (.int .i64 wd) (.slice (some ⟨gT, 0, none⟩) NT NT))
          have MT := Lib.hid (set3M (b := u2.heap.size) MT.out (by omega) (.int .i64 n) (.int .i64 wd) (.slice (some ⟨gT, 0, none⟩) NT NT))
          have BV := Lib.hid (set3W (b := u2.heap.size) BV.out (by omega) (.int .i64 n) (.int .i64 wd) (.slice (some ⟨gT, 0, none⟩) NT NT))
          have B7 := Lib.hid (set3B (b := u2.heap.size) B7.out (.int .i64 n) (.int .i64 wd) (.slice (some ⟨gT, 0, none⟩) NT NT))
          clear c0 c1 c2 k0 k1 k2 j0 j1 j2
          obtain ⟨-, c0, c1, c2, -⟩ := T2.out
          refine hK.out _ _ ?_ (fun hHeldS => ?_)
          · (try dsimp only); go_keep
          clear hK K
          (try simp only [Act.put, ya, yb, yc, yd, ye, yf])
          refine wpAnyH_done (by kernel_rfl) ?_ _
          refine NoPanic.normal ?_
          go_wp2_with fail
          go_meet
          case rel => exact ⟨⟨_, _, gF, gT, rfl, rfl, B6.out, B7.out, MF.out, MT.out, by omega, by omega, by omega, by omega⟩, T2.out, T4.out, BV.out⟩
        · skip
          go_simp
          have nB62 := Lib.hid B6.out.lt
          have nMF2 := Lib.hid MF.out.lt
          have n02 := Lib.hid T4.out.lt
          have nV2 := Lib.hid BV.out.size
          have LZ := lay u1 (.cells #[.int .i64 0, .int .i64 0, .slice none 0 0] 96)
          have b0 := Bx.top u1 (.int .i64 0) (.int .i64 0) (.slice none 0 0) 96
          (try simp only [World.size_alloc] at b0)
          have B7 := Lib.hid b0
          clear b0
          have B6 := Lib.hid (B6.out.below LZ)
          have MF := Lib.hid (MF.out.below LZ)
          have T2 := Lib.hid (T2.out.below LZ)
          have T4 := Lib.hid (T4.out.below LZ)
          have BV := Lib.hid (chain BV.out LZ)
          clear LZ
          obtain ⟨-, c0, c1, c2, -⟩ := T2.out
          refine hK.out _ _ ?_ (fun hHeld8 => ?_)
          · (try dsimp only); go_keep
          clear hK K
          (try simp only [Act.put, ya, yb, yc, yd, ye, yf])
          refine wpAnyH_ready (rs := [6]) (by kernel_rfl) (by simp) ?_
          refine AllReadyH.cons rfl (fun K hK => ?_) (AllReadyH.nil)
          go_simp
          have nB63 := Lib.hid B6.out.lt
          have nMF3 := Lib.hid MF.out.lt
          have nB73 := Lib.hid B7.out.lt
          have n03 := Lib.hid T4.out.lt
          have nV3 := Lib.hid BV.out.size
          go_at_call 43
          refine (NG.out _).mono ?_
          rintro e u2 ⟨gT, rfl, m0, b9⟩
          rw [← HT0.out]
          (try replace b9 := undrew b9)
          have m1 : (u1.alloc (.cells #[.int .i64 0, .int .i64 0, .slice none 0 0] 96)).heap.size ≤ gT := m0.old
          have m6 := Lib.hid m1
          clear m1
          have B6 := Lib.hid (B6.out.below b9)
          have MF := Lib.hid (MF.out.below b9)
          have B7 := Lib.hid (B7.out.below b9)
          have T2 := Lib.hid (T2.out.below b9)
          have T4 := Lib.hid (T4.out.below b9)
          have BV := Lib.hid (chain BV.out b9)
          have m0 := matMono (C := w.heap.size) m0 (by have z := nV3.out; first | exact z | simpa using z)
          have MT := Lib.hid m0
          clear m0 b9
          obtain ⟨-, c0, c1, c2, -⟩ := T2.out
          (try go_wp2_with fail)
          refine hK.out _ _ ?_ (fun hHeld6 => ?_)
          · (try dsimp only); go_keep
          clear hK K
          (try simp only [Act.put, ya, yb, yc, yd, ye, yf])
          have zn00 := n00.out
          (try simp only [World.size_alloc] at zn00)
          have znV0 := nV0.out
          (try simp only [World.size_alloc] at znV0)
          have znB61 := nB61.out
          (try simp only [World.size_alloc] at znB61)
          have zn01 := n01.out
          (try simp only [World.size_alloc] at zn01)
          have znV1 := nV1.out
          (try simp only [World.size_alloc] at znV1)
          have znB62 := nB62.out
          (try simp only [World.size_alloc] at znB62)
          have znMF2 := nMF2.out
          (try simp only [World.size_alloc] at znMF2)
          have zn02 := n02.out
          (try simp only [World.size_alloc] at zn02)
          have znV2 := nV2.out
          (try simp only [World.size_alloc] at znV2)
          have znB63 := nB63.out
          (try simp only [World.size_alloc] at znB63)
          have znMF3 := nMF3.out
          (try simp only [World.size_alloc] at znMF3)
          have znB73 := nB73.out
          (try simp only [World.size_alloc] at znB73)
          have zn03 := n03.out
          (try simp only [World.size_alloc] at zn03)
          have znV3 := nV3.out
          (try simp only [World.size_alloc] at znV3)
          have zm5 := m5.out
          (try simp only [World.size_alloc] at zm5)
          have zm6 := m6.out
          (try simp only [World.size_alloc] at zm6)
          refine wpAnyH_ready (rs := [9]) (by kernel_rfl) (by simp) ?_
          refine AllReadyH.cons rfl (fun K hK => ?_) AllReadyH.nil
          obtain ⟨-, k0, k1, k2, j0, j1, j2⟩ := B6.out
          go_simp
          have T2 := Lib.hid (set3X (b := v1.heap.size) T2.out (by omega) (.int .i64 h) (.int .i64 wd) (.slice (some ⟨gF, 0, none⟩) NF NF))
          have T4 := Lib.hid (set3X (b := v1.heap.size) T4.out (by omega) (.int .i64 h) (.int .i64 wd) (.slice (some ⟨gF, 0, none⟩) NF NF))
          have B7 := Lib.hid (set3X (b := v1.heap.size) B7.out (by omega) (.int .i64 h) (.int .i64 wd) (.slice (some ⟨gF, 0, none⟩) NF NF))
          have MF := Lib.hid (set3M (b := v1.heap.size) MF.out (by omega) (.int .i64 h) (.int .i64 wd) (.slice (some ⟨gF, 0, none⟩) NF NF))
          have MT := Lib.hid (set3M (b := v1.heap.size) MT.out (by omega) (.int .i64 h) (.int .i64 wd) (.slice (some ⟨gF, 0, none⟩) NF NF))
          have BV := Lib.hid (set3W (b := v1.heap.size) BV.out (by omega) (.int .i64 h) (.int .i64 wd) (.slice (some ⟨gF, 0, none⟩) NF NF))
          have B6 := Lib.hid (set3B (b := v1.heap.size) B6.out (.int .i64 h) (.int .i64 wd) (.slice (some ⟨gF, 0, none⟩) NF NF))
          clear c0 c1 c2 k0 k1 k2 j0 j1 j2
          obtain ⟨-, c0, c1, c2, -⟩ := T2.out
          refine hK.out _ _ ?_ (fun hHeldS => ?_)
          · (try dsimp only); go_keep
          clear hK K
          (try simp only [Act.put, ya, yb, yc, yd, ye, yf])
          refine wpAnyH_ready (rs := [10]) (by kernel_rfl) (by simp) ?_
          refine AllReadyH.cons rfl (fun K hK => ?_) AllReadyH.nil
          obtain ⟨-, k0, k1, k2, j0, j1, j2⟩ := B7.out
          go_simp
          have T2 := Lib.hid (set3X (b := u1.heap.size) T2.out (by omega) (.int .i64 n) (.int .i64 wd) (.slice (some ⟨gT, 0, none⟩) NT NT))
          have T4 := Lib.hid (set3X (b := u1.heap.size) T4.out (by omega) (.int .i64 n) (.int .i64 wd) (.slice (some ⟨gT, 0, none⟩) NT NT))
          have B6 := Lib.hid (set3X (b := u1.heap.size) B6.out (by omega) (.int .i64 n) (.int .i64 wd) (.slice (some ⟨gT, 0, none⟩) NT NT))
          have MF := Lib.hid (set3M (b := u1.heap.size) MF.out (by omega) (.int .i64 n) (.int .i64 wd) (.slice (some ⟨gT, 0, none⟩) NT NT))
          have MT := Lib.hid (set3M (b := u1.heap.size) MT.out (by omega) (.int .i64 n) (.int .i64 wd) (.slice (some ⟨gT, 0, none⟩) NT NT))
          have BV := Lib.hid (set3W (b := u1.heap.size) BV.out (by omega) (.int .i64 n) (.int .i64 wd) (.slice (some ⟨gT, 0, none⟩) NT NT))
          have B7 := Lib.hid (set3B (b := u1.heap.size) B7.out (.int .i64 n) (.int .i64 wd) (.slice (some ⟨gT, 0, none⟩) NT NT))
          clear c0 c1 c2 k0 k1 k2 j0 j1 j2
          obtain ⟨-, c0, c1, c2, -⟩ := T2.out
          refine hK.out _ _ ?_ (fun hHeldS => ?_)
          · (try dsimp only); go_keep
          clear hK K
          (try simp only [Act.put, ya, yb, yc, yd, ye, yf])
          refine wpAnyH_done (by kernel_rfl) ?_ _
          refine NoPanic.normal ?_
          go_wp2_with fail
          go_meet
          case rel => exact ⟨⟨_, _, gF, gT, rfl, rfl, B6.out, B7.out, MF.out, MT.out, by omega, by omega, by omega, by omega⟩, T2.out, T4.out, BV.out⟩
      · skip
        go_simp
        have nB61 := Lib.hid B6.out.lt
        have n01 := Lib.hid T4.out.lt
        have nV1 := Lib.hid BV.out.size
        have LZ := lay (v1.alloc (.cells #[.int .i64 0, .int .i64 0, .slice none 0 0] 96)) (.cells #[.int .i64 0, .int .i64 0, .slice none 0 0] 96)
        have b0 := Bx.top (v1.alloc (.cells #[.int .i64 0, .int .i64 0, .slice none 0 0] 96)) (.int .i64 0) (.int .i64 0) (.slice none 0 0) 96
        (try simp only [World.size_alloc] at b0)
        have B7 := Lib.hid b0
        clear b0
        have B6 := Lib.hid (B6.out.below LZ)
        have T2 := Lib.hid (T2.out.below LZ)
        have T4 := Lib.hid (T4.out.below LZ)
        have BV := Lib.hid (chain BV.out LZ)
        clear LZ
        obtain ⟨-, c0, c1, c2, -⟩ := T2.out
        refine hK.out _ _ ?_ (fun hHeld8 => ?_)
        · (try dsimp only); go_keep
        clear hK K
        (try simp only [Act.put, ya, yb, yc, yd, ye, yf])
        refine wpAnyH_ready (rs := [1]) (by kernel_rfl) (by simp) ?_
        refine AllReadyH.cons rfl (fun K hK => ?_) (AllReadyH.nil)
        go_simp
        have nB62 := Lib.hid B6.out.lt
        have nB72 := Lib.hid B7.out.lt
        have n02 := Lib.hid T4.out.lt
        have nV2 := Lib.hid BV.out.size
        go_at_call 42
        refine (GO.out _ (by first | exact BV.out | exact BV.out.drew)).mono ?_
        rintro e u1 ⟨gF, rfl, m0, b9⟩
        rw [← HF0.out]
        (try replace b9 := undrew b9)
        have m1 : ((v1.alloc (.cells #[.int .i64 0, .int .i64 0, .slice none 0 0] 96)).alloc (.cells #[.int .i64 0, .int .i64 0, .slice none 0 0] 96)).heap.size ≤ gF := m0.old
        have m5 := Lib.hid m1
        clear m1
        have B6 := Lib.hid (B6.out.below b9)
        have B7 := Lib.hid (B7.out.below b9)
        have T2 := Lib.hid (T2.out.below b9)
        have T4 := Lib.hid (T4.out.below b9)
        have BV := Lib.hid (chain BV.out b9)
        have m0 := matMono (C := w.heap.size) m0 (by have z := nV2.out; first | exact z | simpa using z)
        have MF := Lib.hid m0
        clear m0 b9
        obtain ⟨-, c0, c1, c2, -⟩ := T2.out
        (try go_wp2_with fail)
        refine hK.out _ _ ?_ (fun hHeld1 => ?_)
        · (try dsimp only); go_keep
        clear hK K
        (try simp only [Act.put, ya, yb, yc, yd, ye, yf])
        refine wpAnyH_ready (rs := [6]) (by kernel_rfl) (by simp) ?_
        refine AllReadyH.cons rfl (fun K hK => ?_) (AllReadyH.nil)
        go_simp
        have nB63 := Lib.hid B6.out.lt
        have nB73 := Lib.hid B7.out.lt
        have nMF3 := Lib.hid MF.out.lt
        have n03 := Lib.hid T4.out.lt
        have nV3 := Lib.hid BV.out.size
        go_at_call 43
        refine (NG.out _).mono ?_
        rintro e u2 ⟨gT, rfl, m0, b9⟩
        rw [← HT0.out]
        (try replace b9 := undrew b9)
        have m1 : u1.heap.size ≤ gT := m0.old
        have m6 := Lib.hid m1
        clear m1
        have B6 := Lib.hid (B6.out.below b9)
        have B7 := Lib.hid (B7.out.below b9)
        have MF := Lib.hid (MF.out.below b9)
        have T2 := Lib.hid (T2.out.below b9)
        have T4 := Lib.hid (T4.out.below b9)
        have BV := Lib.hid (chain BV.out b9)
        have m0 := matMono (C := w.heap.size) m0 (by have z := nV3.out; first | exact z | simpa using z)
        have MT := Lib.hid m0
        clear m0 b9
        obtain ⟨-, c0, c1, c2, -⟩ := T2.out
        (try go_wp2_with fail)
        refine hK.out _ _ ?_ (fun hHeld6 => ?_)
        · (try dsimp only); go_keep
        clear hK K
        (try simp only [Act.put, ya, yb, yc, yd, ye, yf])
        have zn00 := n00.out
        (try simp only [World.size_alloc] at zn00)
        have znV0 := nV0.out
        (try simp only [World.size_alloc] at znV0)
        have znB61 := nB61.out
        (try simp only [World.size_alloc] at znB61)
        have zn01 := n01.out
        (try simp only [World.size_alloc] at zn01)
        have znV1 := nV1.out
        (try simp only [World.size_alloc] at znV1)
        have znB62 := nB62.out
        (try simp only [World.size_alloc] at znB62)
        have znB72 := nB72.out
        (try simp only [World.size_alloc] at znB72)
        have zn02 := n02.out
        (try simp only [World.size_alloc] at zn02)
        have znV2 := nV2.out
        (try simp only [World.size_alloc] at znV2)
        have znB63 := nB63.out
        (try simp only [World.size_alloc] at znB63)
        have znB73 := nB73.out
        (try simp only [World.size_alloc] at znB73)
        have znMF3 := nMF3.out
        (try simp only [World.size_alloc] at znMF3)
        have zn03 := n03.out
        (try simp only [World.size_alloc] at zn03)
        have znV3 := nV3.out
        (try simp only [World.size_alloc] at znV3)
        have zm5 := m5.out
        (try simp only [World.size_alloc] at zm5)
        have zm6 := m6.out
        (try simp only [World.size_alloc] at zm6)
        refine wpAnyH_ready (rs := [9]) (by kernel_rfl) (by simp) ?_
        refine AllReadyH.cons rfl (fun K hK => ?_) AllReadyH.nil
        obtain ⟨-, k0, k1, k2, j0, j1, j2⟩ := B6.out
        go_simp
        have T2 := Lib.hid (set3X (b := v1.heap.size) T2.out (by omega) (.int .i64 h) (.int .i64 wd) (.slice (some ⟨gF, 0, none⟩) NF NF))
        have T4 := Lib.hid (set3X (b := v1.heap.size) T4.out (by omega) (.int .i64 h) (.int .i64 wd) (.slice (some ⟨gF, 0, none⟩) NF NF))
        have B7 := Lib.hid (set3X (b := v1.heap.size) B7.out (by omega) (.int .i64 h) (.int .i64 wd) (.slice (some ⟨gF, 0, none⟩) NF NF))
        have MF := Lib.hid (set3M (b := v1.heap.size) MF.out (by omega) (.int .i64 h) (.int .i64 wd) (.slice (some ⟨gF, 0, none⟩) NF NF))
        have MT := Lib.hid (set3M (b := v1.heap.size) MT.out (by omega) (.int .i64 h) (.int .i64 wd) (.slice (some ⟨gF, 0, none⟩) NF NF))
        have BV := Lib.hid (set3W (b := v1.heap.size) BV.out (by omega) (.int .i64 h) (.int .i64 wd) (.slice (some ⟨gF, 0, none⟩) NF NF))
        have B6 := Lib.hid (set3B (b := v1.heap.size) B6.out (.int .i64 h) (.int .i64 wd) (.slice (some ⟨gF, 0, none⟩) NF NF))
        clear c0 c1 c2 k0 k1 k2 j0 j1 j2
        obtain ⟨-, c0, c1, c2, -⟩ := T2.out
        refine hK.out _ _ ?_ (fun hHeldS => ?_)
        · (try dsimp only); go_keep
        clear hK K
        (try simp only [Act.put, ya, yb, yc, yd, ye, yf])
        refine wpAnyH_ready (rs := [10]) (by kernel_rfl) (by simp) ?_
        refine AllReadyH.cons rfl (fun K hK => ?_) AllReadyH.nil
        obtain ⟨-, k0, k1, k2, j0, j1, j2⟩ := B7.out
        go_simp
        have T2 := Lib.hid (set3X (b := v1.heap.size + 1) T2.out (by omega) (.int .i64 n) (.int .i64 wd) (.slice (some ⟨gT, 0, none⟩) NT NT))
        have T4 := Lib.hid (set3X (b := v1.heap.size + 1) T4.out (by omega) (.int .i64 n) (.int .i64 wd) (.slice (some ⟨gT, 0, none⟩) NT NT))
        have B6 := Lib.hid (set3X (b := v1.heap.size + 1) B6.out (by omega) (.int .i64 n) (.int .i64 wd) (.slice (some ⟨gT, 0, none⟩) NT NT))
        have MF := Lib.hid (set3M (b := v1.heap.size + 1) MF.out (by omega) (.int .i64 n) (.int .i64 wd) (.slice (some ⟨gT, 0, none⟩) NT NT))
        have MT := Lib.hid (set3M (b := v1.heap.size + 1) MT.out (by omega) (.int .i64 n) (.int .i64 wd) (.slice (some ⟨gT, 0, none⟩) NT NT))
        have BV := Lib.hid (set3W (b := v1.heap.size + 1) BV.out (by omega) (.int .i64 n) (.int .i64 wd) (.slice (some ⟨gT, 0, none⟩) NT NT))
        have B7 := Lib.hid (set3B (b := v1.heap.size + 1) B7.out (.int .i64 n) (.int .i64 wd) (.slice (some ⟨gT, 0, none⟩) NT NT))
        clear c0 c1 c2 k0 k1 k2 j0 j1 j2
        obtain ⟨-, c0, c1, c2, -⟩ := T2.out
        refine hK.out _ _ ?_ (fun hHeldS => ?_)
        · (try dsimp only); go_keep
        clear hK K
        (try simp only [Act.put, ya, yb, yc, yd, ye, yf])
        refine wpAnyH_done (by kernel_rfl) ?_ _
        refine NoPanic.normal ?_
        go_wp2_with fail
        go_meet
        case rel => exact ⟨⟨_, _, gF, gT, rfl, rfl, B6.out, B7.out, MF.out, MT.out, by omega, by omega, by omega, by omega⟩, T2.out, T4.out, BV.out⟩
    · skip
      go_simp
      have n00 := Lib.hid T4.out.lt
      have nV0 := Lib.hid BV.out.size
      have LZ := lay v1 (.cells #[.int .i64 0, .int .i64 0, .slice none 0 0] 96)
      have b0 := Bx.top v1 (.int .i64 0) (.int .i64 0) (.slice none 0 0) 96
      (try simp only [World.size_alloc] at b0)
      have B7 := Lib.hid b0
      clear b0
      have T2 := Lib.hid (T2.out.below LZ)
      have T4 := Lib.hid (T4.out.below LZ)
      have BV := Lib.hid (chain BV.out LZ)
      clear LZ
      obtain ⟨-, c0, c1, c2, -⟩ := T2.out
      refine hK.out _ _ ?_ (fun hHeld8 => ?_)
      · (try dsimp only); go_keep
      clear hK K
      (try simp only [Act.put, ya, yb, yc, yd, ye, yf])
      refine wpAnyH_ready (rs := [1, 7]) (by kernel_rfl) (by simp) ?_
      refine AllReadyH.cons rfl (fun K hK => ?_) (AllReadyH.cons rfl (fun K hK => ?_) (AllReadyH.nil))
      · skip
        go_simp
        have nB71 := Lib.hid B7.out.lt
        have n01 := Lib.hid T4.out.lt
        have nV1 := Lib.hid BV.out.size
        go_at_call 42
        refine (GO.out _ (by first | exact BV.out | exact BV.out.drew)).mono ?_
        rintro e u1 ⟨gF, rfl, m0, b9⟩
        rw [← HF0.out]
        (try replace b9 := undrew b9)
        have m1 : (v1.alloc (.cells #[.int .i64 0, .int .i64 0, .slice none 0 0] 96)).heap.size ≤ gF := m0.old
        have m5 := Lib.hid m1
        clear m1
        have B7 := Lib.hid (B7.out.below b9)
        have T2 := Lib.hid (T2.out.below b9)
        have T4 := Lib.hid (T4.out.below b9)
        have BV := Lib.hid (chain BV.out b9)
        have m0 := matMono (C := w.heap.size) m0 (by have z := nV1.out; first | exact z | simpa using z)
        have MF := Lib.hid m0
        clear m0 b9
        obtain ⟨-, c0, c1, c2, -⟩ := T2.out
        (try go_wp2_with fail)
        refine hK.out _ _ ?_ (fun hHeld1 => ?_)
        · (try dsimp only); go_keep
        clear hK K
        (try simp only [Act.put, ya, yb, yc, yd, ye, yf])
        refine wpAnyH_ready (rs := [6, 7]) (by kernel_rfl) (by simp) ?_
        refine AllReadyH.cons rfl (fun K hK => ?_) (AllReadyH.cons rfl (fun K hK => ?_) (AllReadyH.nil))
        · skip
          go_simp
          have nB72 := Lib.hid B7.out.lt
          have nMF2 := Lib.hid MF.out.lt
          have n02 := Lib.hid T4.out.lt
          have nV2 := Lib.hid BV.out.size
          go_at_call 43
          refine (NG.out _).mono ?_
          rintro e u2 ⟨gT, rfl, m0, b9⟩
          rw [← HT0.out]
          (try replace b9 := undrew b9)
          have m1 : u1.heap.size ≤ gT := m0.old
          have m6 := Lib.hid m1
          clear m1
          have B7 := Lib.hid (B7.out.below b9)
          have MF := Lib.hid (MF.out.below b9)
          have T2 := Lib.hid (T2.out.below b9)
          have T4 := Lib.hid (T4.out.below b9)
          have BV := Lib.hid (chain BV.out b9)
          have m0 := matMono (C := w.heap.size) m0 (by have z := nV2.out; first | exact z | simpa using z)
          have MT := Lib.hid m0
          clear m0 b9
          obtain ⟨-, c0, c1, c2, -⟩ := T2.out
          (try go_wp2_with fail)
          refine hK.out _ _ ?_ (fun hHeld6 => ?_)
          · (try dsimp only); go_keep
          clear hK K
          (try simp only [Act.put, ya, yb, yc, yd, ye, yf])
          refine wpAnyH_ready (rs := [7]) (by kernel_rfl) (by simp) ?_
          refine AllReadyH.cons rfl (fun K hK => ?_) (AllReadyH.nil)
          go_simp
          have nB73 := Lib.hid B7.out.lt
          have nMF3 := Lib.hid MF.out.lt
          have nMT3 := Lib.hid MT.out.lt
          have n03 := Lib.hid T4.out.lt
          have nV3 := Lib.hid BV.out.size
          have LZ := lay u2 (.cells #[.int .i64 0, .int .i64 0, .slice none 0 0] 96)
          have b0 := Bx.top u2 (.int .i64 0) (.int .i64 0) (.slice none 0 0) 96
          (try simp only [World.size_alloc] at b0)
          have B6 := Lib.hid b0
          clear b0
          have B7 := Lib.hid (B7.out.below LZ)
          have MF := Lib.hid (MF.out.below LZ)
          have MT := Lib.hid (MT.out.below LZ)
          have T2 := Lib.hid (T2.out.below LZ)
          have T4 := Lib.hid (T4.out.below LZ)
          have BV := Lib.hid (chain BV.out LZ)
          clear LZ
          obtain ⟨-, c0, c1, c2, -⟩ := T2.out
          refine hK.out _ _ ?_ (fun hHeld7 => ?_)
          · (try dsimp only); go_keep
          clear hK K
          (try simp only [Act.put, ya, yb, yc, yd, ye, yf])
          generalize (u2.alloc (.cells #[.int .i64 0, .int .i64 0, .slice none 0 0] 96)) = Wv at *
          have zn00 := n00.out
          (try simp only [World.size_alloc] at zn00)
          have znV0 := nV0.out
          (try simp only [World.size_alloc] at znV0)
          have znB71 := nB71.out
          (try simp only [World.size_alloc] at znB71)
          have zn01 := n01.out
          (try simp only [World.size_alloc] at zn01)
          have znV1 := nV1.out
          (try simp only [World.size_alloc] at znV1)
          have znB72 := nB72.out
          (try simp only [World.size_alloc] at znB72)
          have znMF2 := nMF2.out
          (try simp only [World.size_alloc] at znMF2)
          have zn02 := n02.out
          (try simp only [World.size_alloc] at zn02)
          have znV2 := nV2.out
          (try simp only [World.size_alloc] at znV2)
          have znB73 := nB73.out
          (try simp only [World.size_alloc] at znB73)
          have znMF3 := nMF3.out
          (try simp only [World.size_alloc] at znMF3)
          have znMT3 := nMT3.out
          (try simp only [World.size_alloc] at znMT3)
          have zn03 := n03.out
          (try simp only [World.size_alloc] at zn03)
          have znV3 := nV3.out
          (try simp only [World.size_alloc] at znV3)
          have zm5 := m5.out
          (try simp only [World.size_alloc] at zm5)
          have zm6 := m6.out
          (try simp only [World.size_alloc] at zm6)
          refine wpAnyH_ready (rs := [9]) (by kernel_rfl) (by simp) ?_
          refine AllReadyH.cons rfl (fun K hK => ?_) AllReadyH.nil
          obtain ⟨-, k0, k1, k2, j0, j1, j2⟩ := B6.out
          go_simp
          have T2 := Lib.hid (set3X (b := u2.heap.size) T2.out (by omega) (.int .i64 h) (.int .i64 wd) (.slice (some ⟨gF, 0, none⟩) NF NF))
          have T4 := Lib.hid (set3X (b := u2.heap.size) T4.out (by omega) (.int .i64 h) (.int .i64 wd) (.slice (some ⟨gF, 0, none⟩) NF NF))
          have B7 := Lib.hid (set3X (b := u2.heap.size) B7.out (by omega) (.int .i64 h) (.int .i64 wd) (.slice (some ⟨gF, 0, none⟩) NF NF))
          have MF := Lib.hid (set3M (b := u2.heap.size) MF.out (by omega) (.int .i64 h) (.int .i64 wd) (.slice (some ⟨gF, 0, none⟩) NF NF))
          have MT := Lib.hid (set3M (b := u2.heap.size) MT.out (by omega) (.int .i64 h) (.int .i64 wd) (.slice (some ⟨gF, 0, none⟩) NF NF))
          have BV := Lib.hid (set3W (b := u2.heap.size) BV.out (by omega) (.int .i64 h) (.int .i64 wd) (.slice (some ⟨gF, 0, none⟩) NF NF))
          have B6 := Lib.hid (set3B (b := u2.heap.size) B6.out (.int .i64 h) (.int .i64 wd) (.slice (some ⟨gF, 0, none⟩) NF NF))
          clear c0 c1 c2 k0 k1 k2 j0 j1 j2
          obtain ⟨-, c0, c1, c2, -⟩ := T2.out
          refine hK.out _ _ ?_ (fun hHeldS => ?_)
          · (try dsimp only); go_keep
          clear hK K
          (try simp only [Act.put, ya, yb, yc, yd, ye, yf])
          refine wpAnyH_ready (rs := [10]) (by kernel_rfl) (by simp) ?_
          refine AllReadyH.cons rfl (fun K hK => ?_) AllReadyH.nil
          obtain ⟨-, k0, k1, k2, j0, j1, j2⟩ := B7.out
          go_simp
          have T2 := Lib.hid (set3X (b := v1.heap.size) T2.out (by omega) (.int .i64 n) (.int .i64 wd) (.slice (some ⟨gT, 0, none⟩) NT NT))
          have T4 := Lib.hid (set3X (b := v1.heap.size) T4.out (by omega) (.int .i64 n) (.int .i64 wd) (.slice (some ⟨gT, 0, none⟩) NT NT))
          have B6 := Lib.hid (set3X (b := v1.heap.size) B6.out (by omega) (.int .i64 n) (.int .i64 wd) (.slice (some ⟨gT, 0, none⟩) NT NT))
          have MF := Lib.hid (set3M (b := v1.heap.size) MF.out (by omega) (.int .i64 n) (.int .i64 wd) (.slice (some ⟨gT, 0, none⟩) NT NT))
          have MT := Lib.hid (set3M (b := v1.heap.size) MT.out (by omega) (.int .i64 n) (.int .i64 wd) (.slice (some ⟨gT, 0, none⟩) NT NT))
          have BV := Lib.hid (set3W (b := v1.heap.size) BV.out (by omega) (.int .i64 n) (.int .i64 wd) (.slice (some ⟨gT, 0, none⟩) NT NT))
          have B7 := Lib.hid (set3B (b := v1.heap.size) B7.out (.int .i64 n) (.int .i64 wd) (.slice (some ⟨gT, 0, none⟩) NT NT))
          clear c0 c1 c2 k0 k1 k2 j0 j1 j2
          obtain ⟨-, c0, c1, c2, -⟩ := T2.out
          refine hK.out _ _ ?_ (fun hHeldS => ?_)
          · (try dsimp only); go_keep
          clear hK K
          (try simp only [Act.put, ya, yb, yc, yd, ye, yf])
          refine wpAnyH_done (by kernel_rfl) ?_ _
          refine NoPanic.normal ?_
          go_wp2_with fail
          go_meet
          case rel => exact ⟨⟨_, _, gF, gT, rfl, rfl, B6.out, B7.out, MF.out, MT.out, by omega, by omega, by omega, by omega⟩, T2.out, T4.out, BV.out⟩
        · skip
          go_simp
          have nB72 := Lib.hid B7.out.lt
          have nMF2 := Lib.hid MF.out.lt
          have n02 := Lib.hid T4.out.lt
          have nV2 := Lib.hid BV.out.size
          have LZ := lay u1 (.cells #[.int .i64 0, .int .i64 0, .slice none 0 0] 96)
          have b0 := Bx.top u1 (.int .i64 0) (.int .i64 0) (.slice none 0 0) 96
          (try simp only [World.size_alloc] at b0)
          have B6 := Lib.hid b0
          clear b0
          have B7 := Lib.hid (B7.out.below LZ)
          have MF := Lib.hid (MF.out.below LZ)
          have T2 := Lib.hid (T2.out.below LZ)
          have T4 := Lib.hid (T4.out.below LZ)
          have BV := Lib.hid (chain BV.out LZ)
          clear LZ
          obtain ⟨-, c0, c1, c2, -⟩ := T2.out
          refine hK.out _ _ ?_ (fun hHeld7 => ?_)
          · (try dsimp only); go_keep
          clear hK K
          (try simp only [Act.put, ya, yb, yc, yd, ye, yf])
          refine wpAnyH_ready (rs := [6]) (by kernel_rfl) (by simp) ?_
          refine AllReadyH.cons rfl (fun K hK => ?_) (AllReadyH.nil)
          go_simp
          have nB73 := Lib.hid B7.out.lt
          have nMF3 := Lib.hid MF.out.lt
          have nB63 := Lib.hid B6.out.lt
          have n03 := Lib.hid T4.out.lt
          have nV3 := Lib.hid BV.out.size
          go_at_call 43
          refine (NG.out _).mono ?_
          rintro e u2 ⟨gT, rfl, m0, b9⟩
          rw [← HT0.out]
          (try replace b9 := undrew b9)
          have m1 : (u1.alloc (.cells #[.int .i64 0, .int .i64 0, .slice none 0 0] 96)).heap.size ≤ gT := m0.old
          have m6 := Lib.hid m1
          clear m1
          have B7 := Lib.hid (B7.out.below b9)
          have MF := Lib.hid (MF.out.below b9)
          have B6 := Lib.hid (B6.out.below b9)
          have T2 := Lib.hid (T2.out.below b9)
          have T4 := Lib.hid (T4.out.below b9)
          have BV := Lib.hid (chain BV.out b9)
          have m0 := matMono (C := w.heap.size) m0 (by have z := nV3.out; first | exact z | simpa using z)
          have MT := Lib.hid m0
          clear m0 b9
          obtain ⟨-, c0, c1, c2, -⟩ := T2.out
          (try go_wp2_with fail)
          refine hK.out _ _ ?_ (fun hHeld6 => ?_)
          · (try dsimp only); go_keep
          clear hK K
          (try simp only [Act.put, ya, yb, yc, yd, ye, yf])
          have zn00 := n00.out
          (try simp only [World.size_alloc] at zn00)
          have znV0 := nV0.out
          (try simp only [World.size_alloc] at znV0)
          have znB71 := nB71.out
          (try simp only [World.size_alloc] at znB71)
          have zn01 := n01.out
          (try simp only [World.size_alloc] at zn01)
          have znV1 := nV1.out
          (try simp only [World.size_alloc] at znV1)
          have znB72 := nB72.out
          (try simp only [World.size_alloc] at znB72)
          have znMF2 := nMF2.out
          (try simp only [World.size_alloc] at znMF2)
          have zn02 := n02.out
          (try simp only [World.size_alloc] at zn02)
          have znV2 := nV2.out
          (try simp only [World.size_alloc] at znV2)
          have znB73 := nB73.out
          (try simp only [World.size_alloc] at znB73)
          have znMF3 := nMF3.out
          (try simp only [World.size_alloc] at znMF3)
          have znB63 := nB63.out
          (try simp only [World.size_alloc] at znB63)
          have zn03 := n03.out
          (try simp only [World.size_alloc] at zn03)
          have znV3 := nV3.out
          (try simp only [World.size_alloc] at znV3)
          have zm5 := m5.out
          (try simp only [World.size_alloc] at zm5)
          have zm6 := m6.out
          (try simp only [World.size_alloc] at zm6)
          refine wpAnyH_ready (rs := [9]) (by kernel_rfl) (by simp) ?_
          refine AllReadyH.cons rfl (fun K hK => ?_) AllReadyH.nil
          obtain ⟨-, k0, k1, k2, j0, j1, j2⟩ := B6.out
          go_simp
          have T2 := Lib.hid (set3X (b := u1.heap.size) T2.out (by omega) (.int .i64 h) (.int .i64 wd) (.slice (some ⟨gF, 0, none⟩) NF NF))
          have T4 := Lib.hid (set3X (b := u1.heap.size) T4.out (by omega) (.int .i64 h) (.int .i64 wd) (.slice (some ⟨gF, 0, none⟩) NF NF))
          have B7 := Lib.hid (set3X (b := u1.heap.size) B7.out (by omega) (.int .i64 h) (.int .i64 wd) (.slice (some ⟨gF, 0, none⟩) NF NF))
          have MF := Lib.hid (set3M (b := u1.heap.size) MF.out (by omega) (.int .i64 h) (.int .i64 wd) (.slice (some ⟨gF, 0, none⟩) NF NF))
          have MT := Lib.hid (set3M (b := u1.heap.size) MT.out (by omega) (.int .i64 h) (.int .i64 wd) (.slice (some ⟨gF, 0, none⟩) NF NF))
          have BV := Lib.hid (set3W (b := u1.heap.size) BV.out (by omega) (.int .i64 h) (.int .i64 wd) (.slice (some ⟨gF, 0, none⟩) NF NF))
          have B6 := Lib.hid (set3B (b := u1.heap.size) B6.out (.int .i64 h) (.int .i64 wd) (.slice (some ⟨gF, 0, none⟩) NF NF))
          clear c0 c1 c2 k0 k1 k2 j0 j1 j2
          obtain ⟨-, c0, c1, c2, -⟩ := T2.out
          refine hK.out _ _ ?_ (fun hHeldS => ?_)
          · (try dsimp only); go_keep
          clear hK K
          (try simp only [Act.put, ya, yb, yc, yd, ye, yf])
          refine wpAnyH_ready (rs := [10]) (by kernel_rfl) (by simp) ?_
          refine AllReadyH.cons rfl (fun K hK => ?_) AllReadyH.nil
          obtain ⟨-, k0, k1, k2, j0, j1, j2⟩ := B7.out
          go_simp
          have T2 := Lib.hid (set3X (b := v1.heap.size) T2.out (by omega) (.int .i64 n) (.int .i64 wd) (.slice (some ⟨gT, 0, none⟩) NT NT))
          have T4 := Lib.hid (set3X (b := v1.heap.size) T4.out (by omega) (.int .i64 n) (.int .i64 wd) (.slice (some ⟨gT, 0, none⟩) NT NT))
          have B6 := Lib.hid (set3X (b := v1.heap.size) B6.out (by omega) (.int .i64 n) (.int .i64 wd) (.slice (some ⟨gT, 0, none⟩) NT NT))
          have MF := Lib.hid (set3M (b := v1.heap.size) MF.out (by omega) (.int .i64 n) (.int .i64 wd) (.slice (some ⟨gT, 0, none⟩) NT NT))
          have MT := Lib.hid (set3M (b := v1.heap.size) MT.out (by omega) (.int .i64 n) (.int .i64 wd) (.slice (some ⟨gT, 0, none⟩) NT NT))
          have BV := Lib.hid (set3W (b := v1.heap.size) BV.out (by omega) (.int .i64 n) (.int .i64 wd) (.slice (some ⟨gT, 0, none⟩) NT NT))
          have B7 := Lib.hid (set3B (b := v1.heap.size) B7.out (.int .i64 n) (.int .i64 wd) (.slice (some ⟨gT, 0, none⟩) NT NT))
          clear c0 c1 c2 k0 k1 k2 j0 j1 j2
          obtain ⟨-, c0, c1, c2, -⟩ := T2.out
          refine hK.out _ _ ?_ (fun hHeldS => ?_)
          · (try dsimp only); go_keep
          clear hK K
          (try simp only [Act.put, ya, yb, yc, yd, ye, yf])
          refine wpAnyH_done (by kernel_rfl) ?_ _
          refine NoPanic.normal ?_
          go_wp2_with fail
          go_meet
          case rel => exact ⟨⟨_, _, gF, gT, rfl, rfl, B6.out, B7.out, MF.out, MT.out, by omega, by omega, by omega, by omega⟩, T2.out, T4.out, BV.out⟩
      · skip
        go_simp
        have nB71 := Lib.hid B7.out.lt
        have n01 := Lib.hid T4.out.lt
        have nV1 := Lib.hid BV.out.size
        have LZ := lay (v1.alloc (.cells #[.int .i64 0, .int .i64 0, .slice none 0 0] 96)) (.cells #[.int .i64 0, .int .i64 0, .slice none 0 0] 96)
        have b0 := Bx.top (v1.alloc (.cells #[.int .i64 0, .int .i64 0, .slice none 0 0] 96)) (.int .i64 0) (.int .i64 0) (.slice none 0 0) 96
        (try simp only [World.size_alloc] at b0)
        have B6 := Lib.hid b0
        clear b0
        have B7 := Lib.hid (B7.out.below LZ)
        have T2 := Lib.hid (T2.out.below LZ)
        have T4 := Lib.hid (T4.out.below LZ)
        have BV := Lib.hid (chain BV.out LZ)
        clear LZ
        obtain ⟨-, c0, c1, c2, -⟩ := T2.out
        refine hK.out _ _ ?_ (fun hHeld7 => ?_)
        · (try dsimp only); go_keep
        clear hK K
        (try simp only [Act.put, ya, yb, yc, yd, ye, yf])
        refine wpAnyH_ready (rs := [1]) (by kernel_rfl) (by simp) ?_
        refine AllReadyH.cons rfl (fun K hK => ?_) (AllReadyH.nil)
        go_simp
        have nB72 := Lib.hid B7.out.lt
        have nB62 := Lib.hid B6.out.lt
        have n02 := Lib.hid T4.out.lt
        have nV2 := Lib.hid BV.out.size
        go_at_call 42
        refine (GO.out _ (by first | exact BV.out | exact BV.out.drew)).mono ?_
        rintro e u1 ⟨gF, rfl, m0, b9⟩
        rw [← HF0.out]
        (try replace b9 := undrew b9)
        have m1 : ((v1.alloc (.cells #[.int .i64 0, .int .i64 0, .slice none 0 0] 96)).alloc (.cells #[.int .i64 0, .int .i64 0, .slice none 0 0] 96)).heap.size ≤ gF := m0.old
        have m5 := Lib.hid m1
        clear m1
        have B7 := Lib.hid (B7.out.below b9)
        have B6 := Lib.hid (B6.out.below b9)
        have T2 := Lib.hid (T2.out.below b9)
        have T4 := Lib.hid (T4.out.below b9)
        have BV := Lib.hid (chain BV.out b9)
        have m0 := matMono (C := w.heap.size) m0 (by have z := nV2.out; first | exact z | simpa using z)
        have MF := Lib.hid m0
        clear m0 b9
        obtain ⟨-, c0, c1, c2, -⟩ := T2.out
        (try go_wp2_with fail)
        refine hK.out _ _ ?_ (fun hHeld1 => ?_)
        · (try dsimp only); go_keep
        clear hK K
        (try simp only [Act.put, ya, yb, yc, yd, ye, yf])
        refine wpAnyH_ready (rs := [6]) (by kernel_rfl) (by simp) ?_
        refine AllReadyH.cons rfl (fun K hK => ?_) (AllReadyH.nil)
        go_simp
        have nB73 := Lib.hid B7.out.lt
        have nB63 := Lib.hid B6.out.lt
        have nMF3 := Lib.hid MF.out.lt
        have n03 := Lib.hid T4.out.lt
        have nV3 := Lib.hid BV.out.size
        go_at_call 43
        refine (NG.out _).mono ?_
        rintro e u2 ⟨gT, rfl, m0, b9⟩
        rw [← HT0.out]
        (try replace b9 := undrew b9)
        have m1 : u1.heap.size ≤ gT := m0.old
        have m6 := Lib.hid m1
        clear m1
        have B7 := Lib.hid (B7.out.below b9)
        have B6 := Lib.hid (B6.out.below b9)
        have MF := Lib.hid (MF.out.below b9)
        have T2 := Lib.hid (T2.out.below b9)
        have T4 := Lib.hid (T4.out.below b9)
        have BV := Lib.hid (chain BV.out b9)
        have m0 := matMono (C := w.heap.size) m0 (by have z := nV3.out; first | exact z | simpa using z)
        have MT := Lib.hid m0
        clear m0 b9
        obtain ⟨-, c0, c1, c2, -⟩ := T2.out
        (try go_wp2_with fail)
        refine hK.out _ _ ?_ (fun hHeld6 => ?_)
        · (try dsimp only); go_keep
        clear hK K
        (try simp only [Act.put, ya, yb, yc, yd, ye, yf])
        have zn00 := n00.out
        (try simp only [World.size_alloc] at zn00)
        have znV0 := nV0.out
        (try simp only [World.size_alloc] at znV0)
        have znB71 := nB71.out
        (try simp only [World.size_alloc] at znB71)
        have zn01 := n01.out
        (try simp only [World.size_alloc] at zn01)
        have znV1 := nV1.out
        (try simp only [World.size_alloc] at znV1)
        have znB72 := nB72.out
        (try simp only [World.size_alloc] at znB72)
        have znB62 := nB62.out
        (try simp only [World.size_alloc] at znB62)
        have zn02 := n02.out
        (try simp only [World.size_alloc] at zn02)
        have znV2 := nV2.out
        (try simp only [World.size_alloc] at znV2)
        have znB73 := nB73.out
        (try simp only [World.size_alloc] at znB73)
        have znB63 := nB63.out
        (try simp only [World.size_alloc] at znB63)
        have znMF3 := nMF3.out
        (try simp only [World.size_alloc] at znMF3)
        have zn03 := n03.out
        (try simp only [World.size_alloc] at zn03)
        have znV3 := nV3.out
        (try simp only [World.size_alloc] at znV3)
        have zm5 := m5.out
        (try simp only [World.size_alloc] at zm5)
        have zm6 := m6.out
        (try simp only [World.size_alloc] at zm6)
        refine wpAnyH_ready (rs := [9]) (by kernel_rfl) (by simp) ?_
        refine AllReadyH.cons rfl (fun K hK => ?_) AllReadyH.nil
        obtain ⟨-, k0, k1, k2, j0, j1, j2⟩ := B6.out
        go_simp
        have T2 := Lib.hid (set3X (b := v1.heap.size + 1) T2.out (by omega) (.int .i64 h) (.int .i64 wd) (.slice (some ⟨gF, 0, none⟩) NF NF))
        have T4 := Lib.hid (set3X (b := v1.heap.size + 1) T4.out (by omega) (.int .i64 h) (.int .i64 wd) (.slice (some ⟨gF, 0, none⟩) NF NF))
        have B7 := Lib.hid (set3X (b := v1.heap.size + 1) B7.out (by omega) (.int .i64 h) (.int .i64 wd) (.slice (some ⟨gF, 0, none⟩) NF NF))
        have MF := Lib.hid (set3M (b := v1.heap.size + 1) MF.out (by omega) (.int .i64 h) (.int .i64 wd) (.slice (some ⟨gF, 0, none⟩) NF NF))
        have MT := Lib.hid (set3M (b := v1.heap.size + 1) MT.out (by omega) (.int .i64 h) (.int .i64 wd) (.slice (some ⟨gF, 0, none⟩) NF NF))
        have BV := Lib.hid (set3W (b := v1.heap.size + 1) BV.out (by omega) (.int .i64 h) (.int .i64 wd) (.slice (some ⟨gF, 0, none⟩) NF NF))
        have B6 := Lib.hid (set3B (b := v1.heap.size + 1) B6.out (.int .i64 h) (.int .i64 wd) (.slice (some ⟨gF, 0, none⟩) NF NF))
        clear c0 c1 c2 k0 k1 k2 j0 j1 j2
        obtain ⟨-, c0, c1, c2, -⟩ := T2.out
        refine hK.out _ _ ?_ (fun hHeldS => ?_)
        · (try dsimp only); go_keep
        clear hK K
        (try simp only [Act.put, ya, yb, yc, yd, ye, yf])
        refine wpAnyH_ready (rs := [10]) (by kernel_rfl) (by simp) ?_
        refine AllReadyH.cons rfl (fun K hK => ?_) AllReadyH.nil
        obtain ⟨-, k0, k1, k2, j0, j1, j2⟩ := B7.out
        go_simp
        have T2 := Lib.hid (set3X (b := v1.heap.size) T2.out (by omega) (.int .i64 n) (.int .i64 wd) (.slice (some ⟨gT, 0, none⟩) NT NT))
        have T4 := Lib.hid (set3X (b := v1.heap.size) T4.out (by omega) (.int .i64 n) (.int .i64 wd) (.slice (some ⟨gT, 0, none⟩) NT NT))
        have B6 := Lib.hid (set3X (b := v1.heap.size) B6.out (by omega) (.int .i64 n) (.int .i64 wd) (.slice (some ⟨gT, 0, none⟩) NT NT))
        have MF := Lib.hid (set3M (b := v1.heap.size) MF.out (by omega) (.int .i64 n) (.int .i64 wd) (.slice (some ⟨gT, 0, none⟩) NT NT))
        have MT := Lib.hid (set3M (b := v1.heap.size) MT.out (by omega) (.int .i64 n) (.int .i64 wd) (.slice (some ⟨gT, 0, none⟩) NT NT))
        have BV := Lib.hid (set3W (b := v1.heap.size) BV.out (by omega) (.int .i64 n) (.int .i64 wd) (.slice (some ⟨gT, 0, none⟩) NT NT))
        have B7 := Lib.hid (set3B (b := v1.heap.size) B7.out (.int .i64 n) (.int .i64 wd) (.slice (some ⟨gT, 0, none⟩) NT NT))
        clear c0 c1 c2 k0 k1 k2 j0 j1 j2
        obtain ⟨-, c0, c1, c2, -⟩ := T2.out
        refine hK.out _ _ ?_ (fun hHeldS => ?_)
        · (try dsimp only); go_keep
        clear hK K
        (try simp only [Act.put, ya, yb, yc, yd, ye, yf])
        refine wpAnyH_done (by kernel_rfl) ?_ _
        refine NoPanic.normal ?_
        go_wp2_with fail
        go_meet
        case rel => exact ⟨⟨_, _, gF, gT, rfl, rfl, B6.out, B7.out, MF.out, MT.out, by omega, by omega, by omega, by omega⟩, T2.out, T4.out, BV.out⟩
  case rest =>
    obtain ⟨⟨p6, p7, gF, gT, rfl, rfl, B6, B7, MF, MT0, ne1, ne2, ne3, ne4⟩, X2, X4, XV⟩ := hcut
    have MT := MT0.ext (N := rTo rs M 0) (fun a b _ _ => by unfold rTo; rw [if_neg (Nat.not_lt_zero _)])
    clear MT0 T2 T4 BV c0 c1 c2
    go_wp2
    go_loopw [32] (fun s wr => ∃ i : Nat, i ≤ m ∧ s = .int .i64 i ∧ Mat .i64 w.heap.size wr gF h wd M ∧ Mat .i64 w.heap.size wr gT n wd (rTo rs M i) ∧ Bx wr p6 (.int .i64 h) (.int .i64 wd) (.slice (some ⟨gF, 0, none⟩) NF NF) ∧ Bx wr p7 (.int .i64 n) (.int .i64 wd) (.slice (some ⟨gT, 0, none⟩) NT NT) ∧ Bx wr w.heap.size (.int .i64 h) (.int .i64 wd) (.slice a lxn lxn) ∧ Bx wr (w.heap.size + 1) (.int .i64 0) (.int .i64 0) (.slice none 0 0) ∧ Below w.heap.size w wr) (fun s _ => n - (intOf s).toNat)
    case atStart => exact ⟨0, by omega, rfl, MF, MT, B6, B7, X2, X4, XV⟩
    case round =>
      clear MF MT B6 B7 X2 X4 XV
      obtain ⟨i, him, rfl, mf, mt, b6, b7, t2, t4, bv⟩ := hrel
      have MF := Lib.hid mf
      have MT := Lib.hid mt
      have B6 := Lib.hid b6
      have B7 := Lib.hid b7
      have T2 := Lib.hid t2
      have T4 := Lib.hid t4
      have BV := Lib.hid bv
      clear mf mt b6 b7 t2 t4 bv
      by_cases hlt : i < n
      · have cB : wr.cell? ⟨bb, ob + i, none⟩ = some (.int .i64 (rs.getD i 0)) := (BV.out.cell (p := ⟨bb, ob + i, none⟩) hbb).trans (CB.out i hlt)
        have bi : (i : Int) < (n : Int) := by omega
        obtain ⟨-, d0, d1, d2, -⟩ := T2.out
        by_cases him2 : i < m
        · obtain ⟨r0, r1⟩ := HOK.out i him2
          obtain ⟨t, ht⟩ : ∃ t : Nat, rs.getD i 0 = (t : Int) := ⟨(rs.getD i 0).toNat, by omega⟩
          have ROW := Lib.hid (fun (a b : Nat) (hb : b < wd) => (show (if a = i then (rowL wd M t).getD b 0 else rTo rs M i a b) = rTo rs M (i + 1) a b from by
            unfold rTo
            by_cases e : a = i
            · subst e; rw [if_pos rfl, if_pos (Nat.lt_succ_self _), rowL_get hb, ht]; rfl
            · rw [if_neg e]; by_cases l : a < i
              · rw [if_pos l, if_pos (by omega)]
              · rw [if_neg l, if_neg (by omega)]))
          rw [ht] at cB r0 r1
          have tl : t < h := by omega
          have RT := Lib.hid (row n wd gT i NT HT0.out hlt (by omega) (by omega))
          have RF := Lib.hid (row h wd gF t NF HF0.out tl (by omega) (by omega))
          have e1 : decide ((t : Int) < 0) = false := decide_eq_false (by omega)
          have e2 : decide ((h : Int) ≤ (t : Int)) = false := decide_eq_false (by omega)
          clear ht r0 r1
          go_upto_region 11 with fail
          clear d0 d1 d2 cB
          obtain ⟨-, x0, x1, x2, -⟩ := B7.out
          obtain ⟨-, y0, y1, y2, -⟩ := B6.out
          refine wp_region_noPanic ?_
          refine wp_region_held_drew (S := (fun w' => w'.cell? ⟨p7, 0, none⟩ = some (.int .i64 n) ∧ w'.cell? ⟨p7, 1, none⟩ = some (.int .i64 wd) ∧ w'.cell? ⟨p7, 2, none⟩ = some (.slice (some ⟨gT, 0, none⟩) NT NT) ∧ w'.cell? ⟨p6, 0, none⟩ = some (.int .i64 h) ∧ w'.cell? ⟨p6, 1, none⟩ = some (.int .i64 wd) ∧ w'.cell? ⟨p6, 2, none⟩ = some (.slice (some ⟨gF, 0, none⟩) NF NF))) (by kernel_rfl) ?_ (fun hHeld => ?_)
          · go_keep
          refine tj 0 rfl ?_
          (try simp only [Act.put, ya, yb, yc, yd, ye, yf])
          refine tj 1 rfl ?_
          (try simp only [Act.put, ya, yb, yc, yd, ye, yf])
          refine tj 3 rfl ?_
          (try simp only [Act.put, ya, yb, yc, yd, ye, yf])
          refine tj 4 rfl ?_
          (try simp only [Act.put, ya, yb, yc, yd, ye, yf])
          refine wpAnyH_ready (rs := [2]) (by kernel_rfl) (by simp) ?_
          refine AllReadyH.cons rfl (fun K hK => ?_) (AllReadyH.nil)
          go_simp
          go_at_call 44
          refine (RT.out _).mono ?_
          rintro e u3 ⟨rfl, b9⟩
          (try replace b9 := undrew b9)
          have MF := Lib.hid (MF.out.below b9)
          have MT := Lib.hid (MT.out.below b9)
          have B6 := Lib.hid (B6.out.below b9)
          have B7 := Lib.hid (B7.out.below b9)
          have T2 := Lib.hid (T2.out.below b9)
          have T4 := Lib.hid (T4.out.below b9)
          have BV := Lib.hid (chain BV.out b9)
          clear b9 x0 x1 x2 y0 y1 y2
          obtain ⟨-, x0, x1, x2, -⟩ := B7.out
          obtain ⟨-, y0, y1, y2, -⟩ := B6.out
          (try go_wp2_with fail)
          refine hK.out _ _ ?_ (fun hHeld2 => ?_)
          · (try dsimp only); go_keep
          clear hK K
          (try simp only [Act.put, ya, yb, yc, yd, ye, yf])
          refine wpAnyH_ready (rs := [5]) (by kernel_rfl) (by simp) ?_
          refine AllReadyH.cons rfl (fun K hK => ?_) (AllReadyH.nil)
          go_simp
          go_at_call 44
          refine (RF.out _).mono ?_
          rintro e u4 ⟨rfl, b9⟩
          (try replace b9 := undrew b9)
          have MF := Lib.hid (MF.out.below b9)
          have MT := Lib.hid (MT.out.below b9)
          have B6 := Lib.hid (B6.out.below b9)
          have B7 := Lib.hid (B7.out.below b9)
          have T2 := Lib.hid (T2.out.below b9)
          have T4 := Lib.hid (T4.out.below b9)
          have BV := Lib.hid (chain BV.out b9)
          clear b9 x0 x1 x2 y0 y1 y2
          obtain ⟨-, x0, x1, x2, -⟩ := B7.out
          obtain ⟨-, y0, y1, y2, -⟩ := B6.out
          (try go_wp2_with fail)
          refine hK.out _ _ ?_ (fun hHeld5 => ?_)
          · (try dsimp only); go_keep
          clear hK K
          (try simp only [Act.put, ya, yb, yc, yd, ye, yf])
          refine wpAnyH_ready (rs := [6]) (by kernel_rfl) (by simp) ?_
          refine AllReadyH.cons rfl (fun K hK => ?_) AllReadyH.nil
          have hsrc : ∀ j, j < (rowL wd M t).length → u4.cell? ((⟨gF, t * wd, none⟩ : Addr).add j) = some (.int .i64 ((rowL wd M t).getD j 0)) := fun j hj => by rw [rowL_len] at hj; rw [rowL_get hj, Addr.add_lit]; exact MF.out.cell t j tl hj
          have hdst : ∀ j, j < (rowL wd M t).length → (u4.cell? ⟨gT, i * wd + j, none⟩).isSome = true := fun j hj => by rw [rowL_len] at hj; rw [MT.out.cell i j hlt hj]; rfl
          refine step_copy_ints (k := .i64) rfl (.tmp 48) (.tmp 51) 22 22 rfl 2 Try.underlying22 (by kernel_rfl) gT (i * wd) wd wd ⟨gF, t * wd, none⟩ wd wd rfl rfl (rowL wd M t) (by rw [rowL_len]; exact (Nat.min_self _).symm) hsrc hdst MT.out.free ?_
          intro w5 W5
          rw [rowL_len] at W5
          have MT5 := Lib.hid ((MT.out.row hlt W5).ext (fun a b ha hb => ROW.out a b hb))
          have MF5 := Lib.hid (MF.out.aside W5 ne3)
          have B65 := Lib.hid (B6.out.wrote W5 ne1)
          have B75 := Lib.hid (B7.out.wrote W5 ne2)
          have T25 := Lib.hid (T2.out.wrote W5 (by omega))
          have T45 := Lib.hid (T4.out.wrote W5 (by omega))
          have BV5 := Lib.hid (W5.below BV.out (by omega))
          clear hsrc hdst x0 x1 x2 y0 y1 y2 W5
          obtain ⟨-, x0, x1, x2, -⟩ := B75.out
          obtain ⟨-, y0, y1, y2, -⟩ := B65.out
          refine hK.out _ _ ?_ (fun hHeldS => ?_)
          · (try dsimp only); go_keep
          clear hK K
          (try simp only [Act.put, ya, yb, yc, yd, ye, yf])
          refine wpAnyH_done (by kernel_rfl) ?_ _
          refine NoPanic.normal ?_
          go_wp2
          go_roundw
          case rel => exact ⟨i + 1, by omega, by go_num, MF5.out, MT5.out, B65.out, B75.out, T25.out, T45.out, BV5.out⟩
          case measure => simp [intOf]; omega
        · obtain rfl : i = m := by omega
          have nb := HBAD.out hlt
          obtain ⟨rfl, rfl, rfl, rfl⟩ := HF2.out hlt
          obtain ⟨-, r0, r1, r2, s0, s1, s2⟩ := T4.out
          have RES := Lib.hid (err_res (h := 0) (wd := 0) (err := 2) (L := 0) (cap := 0) (a := none) rfl (.inl rfl) (((BV.out.setCell (p := ⟨w.heap.size + 1, 0, none⟩) (by show _ ≤ w.heap.size + 1; omega) (.int .i64 0)).setCell (p := ⟨w.heap.size + 1, 1, none⟩) (by show _ ≤ w.heap.size + 1; omega) (.int .i64 0)).setCell (p := ⟨w.heap.size + 1, 2, none⟩) (by show _ ≤ w.heap.size + 1; omega) (.slice none 0 0)))
          generalize rs.getD i 0 = r at cB nb
          by_cases q0 : r < 0
          · have e1 : decide (r < 0) = true := decide_eq_true q0
            clear nb q0
            go_wp2
            exact bodyPost_ret (v := .tuple #[mval 0 0 (.slice none 0 0), .int .i64 2]) (by simp [results, Try.results13, go_sem, *]) rfl RES.out
          · have e1 : decide (r < 0) = false := decide_eq_false q0
            have e2 : decide ((h : Int) ≤ r) = true := decide_eq_true (by omega)
            clear nb q0
            go_wp2
            exact bodyPost_ret (v := .tuple #[mval 0 0 (.slice none 0 0), .int .i64 2]) (by simp [results, Try.results13, go_sem, *]) rfl RES.out
      · obtain rfl : i = n := by omega
        obtain rfl : m = i := by omega
        obtain ⟨rfl, rfl, rfl, rfl⟩ := HF1.out rfl
        obtain ⟨-, x0, x1, x2, -⟩ := B7.out
        have T4b := T4
        go_wp2_with fail
        refine (matrixOf m wd (some ⟨gT, 0, none⟩) NT NT _).mono ?_
        rintro e v3 ⟨rfl, b3⟩
        have MT2 := MT.out.below b3
        obtain ⟨-, r0, r1, r2, s0, s1, s2⟩ := T4b.out.below b3
        have OW : OwnS ((w.alloc (.cells #[.int .i64 h, .int .i64 wd, .slice a lxn lxn] 26)).alloc (.cells #[.int .i64 0, .int .i64 0, .slice none 0 0] 26)) v3 (some ⟨gT, 0, none⟩) (flat m wd (rowsM rs M)) := by
          have h1 : Mat .i64 (w.heap.size + 1 + 1) v3 gT m wd (rTo rs M m) := ⟨by omega, MT2.lt, MT2.cell, MT2.free⟩
          have h2 := Mat_own (w0 := ((w.alloc (.cells #[.int .i64 h, .int .i64 wd, .slice a lxn lxn] 26)).alloc (.cells #[.int .i64 0, .int .i64 0, .slice none 0 0] 26))) h1 (by simp)
          rwa [flat_ext (N := rowsM rs M) (fun a b ha _ => by unfold rTo rowsM; rw [if_pos ha])] at h2
        have RES := Lib.hid (fin_res (w := w) (L := NT) (h := m) (wd := wd) (err := 0) (cap := NT) (q := w.heap.size + 1) (by rw [flat_length]; exact HT0.out) OW (chain BV.out b3) (by simp) (by omega) (by simp <;> omega) (.int .i64 m) (.int .i64 wd) (.slice (some ⟨gT, 0, none⟩) NT NT))
        clear OW MT2 b3 x0 x1 x2 MT T4 T4b
        go_wp2
        exact bodyPost_ret (v := .tuple #[mval m wd (.slice (some ⟨gT, 0, none⟩) NT NT), .int .i64 0]) (by simp [results, Try.results13, go_sem, *]) rfl RES.out
end Go.Proofs.Ytbnjgehgaellmaa.Gf2
