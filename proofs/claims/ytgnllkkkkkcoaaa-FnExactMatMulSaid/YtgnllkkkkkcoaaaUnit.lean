/-
  The unit matrix: what the program's and the model's functions return.
-/
import Derived.Test.YtgnllkkkkkcoaaaMatRes
import Derived.Test.YtgnllkkkkkcoaaaGfSpec
namespace Go.Proofs.Ytgnllkkkkkcoaaa.Gf2
open Go.RowKit Go.Proofs.Ytgnllkkkkkcoaaa.At Go.Proofs.Ytgnllkkkkkcoaaa.MixC Go.Proofs.Ytgnllkkkkkcoaaa.Ml Go.Proofs.Ytgnllkkkkkcoaaa.Gr Go.Proofs.Ytgnllkkkkkcoaaa.Gj Go.Proofs.Ytgnllkkkkkcoaaa.GfS
set_option linter.unusedVariables false

theorem unit_cell : ∀ n, n < 9 → ∀ x, x < n * n → ((x % (n + 1) = 0) ↔ (x / n = x % n)) := by decide
def uF (n : Nat) (x : Nat) : Int := if x % (n + 1) = 0 then 1 else 0
theorem uF_flat {n : Nat} (hn : n < 9) : (List.range (n * n)).map (uF n) = flat n n unitZ := by
  unfold flat
  refine List.map_congr_left fun x hx => ?_
  have := unit_cell n hn x (List.mem_range.1 hx)
  unfold uF unitZ
  by_cases e : x % (n + 1) = 0
  · rw [if_pos e, if_pos (this.1 e)]
  · rw [if_neg e, if_neg (fun q => e (this.2 q))]

set_option maxRecDepth 100000 in
set_option maxHeartbeats 1000000 in
theorem l03UnitI (n : Nat) (hn : n < 9) (w : World) :
    Calls Try.prog 63 #[.int .i64 n] w (MatResI n n (flat n n unitZ) w) := by
  have hnn : n * n ≤ 8 * 8 := Nat.mul_le_mul (by omega) (by omega)
  have hni : (n : Int) * (n : Int) = ((n * n : Nat) : Int) := (Int.natCast_mul _ _).symm
  have p0 : 0 ≤ (n : Int) * (n : Int) := by omega
  have p1 : (n : Int) * (n : Int) ≤ 64 := by omega
  have FL := Lib.hid (uF_flat hn)
  have NI := Lib.hid hni
  have R0 := Bx.top w (.int .i64 0) (.int .i64 0) (.slice none 0 0) 33
  have R1 := R0.alloc (.cells #[.int .i64 n, .int .i64 n, .slice none 0 0] 33)
  have T1 := Bx.top (w.alloc (.cells #[.int .i64 0, .int .i64 0, .slice none 0 0] 33)) (.int .i64 n) (.int .i64 n) (.slice none 0 0) 33
  have B1 := chain (lay w (.cells #[.int .i64 0, .int .i64 0, .slice none 0 0] 33)) (lay _ (.cells #[.int .i64 n, .int .i64 n, .slice none 0 0] 33))
  rw [World.size_alloc] at T1
  clear R0 hni
  go_enter Try.func63, Try.ntmps63
  go_wp2
  go_loopw [4] (fun i wr => ∃ (k : Nat) (v : Value), k ≤ n * n ∧ i = .int .i64 k ∧ Ib (w.heap.size + 2) wr v ((List.range k).map (uF n)) ∧ Bx wr w.heap.size (.int .i64 0) (.int .i64 0) (.slice none 0 0) ∧ Bx wr (w.heap.size + 1) (.int .i64 n) (.int .i64 n) v ∧ Below w.heap.size w wr ∧ w.heap.size + 2 ≤ wr.heap.size) (fun i _ => n * n - (intOf i).toNat)
  case atStart => exact ⟨0, _, by omega, rfl, Ib.nil _ _, R1, T1, B1, by simp⟩
  case round =>
    obtain ⟨k, v, hk, rfl, I, R, T, B, hz⟩ := hrel
    clear R1 T1 B1
    by_cases hlt : k < n * n
    · have t : (k : Int) < (n : Int) * (n : Int) := by have := NI.out; omega
      have m0 : ((k : Int) % ((n : Int) + 1)) = ((k % (n + 1) : Nat) : Int) := by rw [Int.natCast_emod, Int.natCast_add]; rfl
      by_cases e : k % (n + 1) = 0
      · have tt : ((k : Int) % ((n : Int) + 1) == 0) = true := by rw [m0, e]; rfl
        have X := Lib.hid (show (List.range (k + 1)).map (uF n) = (List.range k).map (uF n) ++ [1] from by rw [List.range_succ, List.map_append]; show _ ++ [uF n k] = _; unfold uF; rw [if_pos e])
        have LN : ((List.range k).map (uF n)).length ≤ 1000000 := by simp; omega
        have RT := Lib.hid (And.intro R T)
        obtain ⟨-, c0, c1, c2, f0, f1, f2⟩ := T
        obtain ⟨zs, hzs⟩ : ∃ zs, zs = (List.range k).map (uF n) := ⟨_, rfl⟩
        rw [← hzs] at I X LN
        clear hzs m0 R
        go_wp2_with (at_builtin; refine wpList_append_int rfl (.tmp 21) (.tmp 22) rfl (w.heap.size + 2) v zs rfl 1 I rfl LN hz ?_; intro v' w2 I2 g2; obtain ⟨a', L', cap', rfl⟩ := I2.shape; have b2 := I.grown hz _ g2; have R2 := RT.out.1.under (by omega) b2; have T2 := RT.out.2.under (by omega) b2; clear c0 c1 c2 f0 f1 f2 g2; have T3 := Lib.hid T2; obtain ⟨-, c0, c1, c2, f0, f1, f2⟩ := T2)
        go_roundw
        case rel => exact ⟨k + 1, _, by omega, by go_num, by rw [X.out]; exact I2.far (by show w.heap.size + 1 < _; omega) _, R2.far (by show w.heap.size + 1 ≠ _; omega) _, T3.out.put2 _, (B.trans (b2.mono (by omega))).setCell (by show _ ≤ w.heap.size + 1; omega) _, by simp; have := b2.size; omega⟩
        case measure => simp [intOf]; omega
      · have tt : ((k : Int) % ((n : Int) + 1) == 0) = false := by rw [m0, beq_eq_false_iff_ne]; omega
        have X := Lib.hid (show (List.range (k + 1)).map (uF n) = (List.range k).map (uF n) ++ [0] from by rw [List.range_succ, List.map_append]; show _ ++ [uF n k] = _; unfold uF; rw [if_neg e])
        have LN : ((List.range k).map (uF n)).length ≤ 1000000 := by simp; omega
        have RT := Lib.hid (And.intro R T)
        obtain ⟨-, c0, c1, c2, f0, f1, f2⟩ := T
        obtain ⟨zs, hzs⟩ : ∃ zs, zs = (List.range k).map (uF n) := ⟨_, rfl⟩
        rw [← hzs] at I X LN
        clear hzs m0 R
        go_wp2_with (at_builtin; refine wpList_append_int rfl (.tmp 26) (.tmp 27) rfl (w.heap.size + 2) v zs rfl 0 I rfl LN hz ?_; intro v' w2 I2 g2; obtain ⟨a', L', cap', rfl⟩ := I2.shape; have b2 := I.grown hz _ g2; have R2 := RT.out.1.under (by omega) b2; have T2 := RT.out.2.under (by omega) b2; clear c0 c1 c2 f0 f1 f2 g2; have T3 := Lib.hid T2; obtain ⟨-, c0, c1, c2, f0, f1, f2⟩ := T2)
        go_roundw
        case rel => exact ⟨k + 1, _, by omega, by go_num, by rw [X.out]; exact I2.far (by show w.heap.size + 1 < _; omega) _, R2.far (by show w.heap.size + 1 ≠ _; omega) _, T3.out.put2 _, (B.trans (b2.mono (by omega))).setCell (by show _ ≤ w.heap.size + 1; omega) _, by simp; have := b2.size; omega⟩
        case measure => simp [intOf]; omega
    · obtain rfl : k = n * n := by omega
      have t : ¬ ((n * n : Nat) : Int) < (n : Int) * (n : Int) := by have := NI.out; omega
      have BB := Lib.hid B
      obtain ⟨-, c0, c1, c2, -, -, -⟩ := T
      obtain ⟨-, d0, d1, d2, f0, f1, f2⟩ := R
      rw [FL.out] at I
      obtain ⟨a, L, cap, rfl⟩ := I.shape
      have O := Lib.hid ((((I.far (p := ⟨w.heap.size, 0, none⟩) (by show w.heap.size < _; omega) (.int .i64 n)).far (p := ⟨w.heap.size, 1, none⟩) (by show w.heap.size < _; omega) (.int .i64 n)).far (p := ⟨w.heap.size, 2, none⟩) (by show w.heap.size < _; omega) (.slice a L cap)).mono (C := w.heap.size) (by omega))
      have LE := Lib.hid (I.own (w0 := w) (by omega)).2
      clear B I
      go_wp2
      refine bodyPost_ret (v := mval n n (.slice a L cap)) (by simp [results, Try.results63, go_sem, *]) rfl ⟨a, L, cap, rfl, LE.out, O.out, ?_⟩
      exact ((BB.out.setCell (Nat.le_refl _) _).setCell (Nat.le_refl _) _).setCell (Nat.le_refl _) _

theorem l03Unit (n : Nat) (hn : n < 9) (w : World) : Calls Try.prog 63 #[.int .i64 n] w (MatRes n n (flat n n unitZ) w) :=
  (l03UnitI n hn w).mono fun _ _ r => r.res

theorem err_res {h wd : Int} {zs : List Int} {err : Int} {w w' : World} {a : Option Addr} {L cap : Nat} (hL : L = zs.length) (O : OwnS w w' a zs) (b : Below w.heap.size w w') : MatErr h wd zs err w (.returned (.tuple #[mval h wd (.slice a L cap), .int .i64 err])) w' :=
  ⟨a, cap, by rw [hL], O, b⟩
/-- A matrix's box behind the calls of a function that hands it back: the box is the lowest new block. -/
theorem OwnS.box {w w1 : World} {a : Option Addr} {zs : List Int} (O : OwnS w w1 a zs) (V : World) (hV : V.heap.size < w.heap.size) (x y z : Value) :
    OwnS V (((w1.setCell ⟨V.heap.size, 0, none⟩ x).setCell ⟨V.heap.size, 1, none⟩ y).setCell ⟨V.heap.size, 2, none⟩ z) a zs :=
  (((O.far (p := ⟨V.heap.size, 0, none⟩) hV x).far (p := ⟨V.heap.size, 1, none⟩) hV y).far (p := ⟨V.heap.size, 2, none⟩) hV z).from (by omega)
theorem Below.box {w w1 : World} (b : Below w.heap.size w w1) (x y z : Value) : Below w.heap.size w (((w1.setCell ⟨w.heap.size, 0, none⟩ x).setCell ⟨w.heap.size, 1, none⟩ y).setCell ⟨w.heap.size, 2, none⟩ z) :=
  ((b.setCell (Nat.le_refl _) _).setCell (Nat.le_refl _) _).setCell (Nat.le_refl _) _

set_option maxRecDepth 100000 in
theorem specMatUnit (n : Nat) (h1 : 1 ≤ n) (hn : n < 9) (w : World) :
    Calls Try.prog 24 #[.int .i64 n] w (MatErr n n (flat n n unitZ) 0 w) := by
  have I1 := inB_yes (n := n) (low := 1) (high := 8) (by omega) (by omega)
  have C := Lib.hid (l03Unit n hn)
  have R0 := Bx.top w (.int .i64 0) (.int .i64 0) (.slice none 0 0) 33
  go_enter Try.func24, Try.ntmps24
  go_wp2_with fail
  refine (l00In n 1 8 _).mono ?_
  rintro e' w1 ⟨rfl, rfl⟩
  go_wp2_with fail
  refine (C.out _).mono ?_
  rintro e w1 ⟨a, cap, rfl, O, b1⟩
  obtain ⟨-, c0, c1, c2, f0, f1, f2⟩ := R0.below b1
  have b2 := Lib.hid (chain (lay w _) b1)
  obtain ⟨L, hL⟩ : ∃ L, L = (flat n n unitZ).length := ⟨_, rfl⟩
  rw [← hL]
  have O2 := Lib.hid (err_res (h := n) (wd := n) (err := 0) (cap := cap) hL (O.box w (by simp) (.int .i64 n) (.int .i64 n) (.slice a L cap)) (Below.box b2.out (.int .i64 n) (.int .i64 n) (.slice a L cap)))
  clear R0 b1 hL O
  go_wp2
  exact bodyPost_ret (v := .tuple #[mval n n (.slice a L cap), .int .i64 0]) (by simp [results, Try.results24, go_sem, *]) rfl O2.out
end Go.Proofs.Ytgnllkkkkkcoaaa.Gf2
