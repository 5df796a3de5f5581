/-
  The weight of a thing: the model's functions; WeightOf in both.
-/
import Derived.Test.YtgfpngjfhmiphaaTund
namespace Go.Proofs.Ytgfpngjfhmiphaa.Tm
open Go.RowKit Go.Proofs.Ytgfpngjfhmiphaa.GfI Go.Proofs.Ytgfpngjfhmiphaa.GfS Go.Proofs.Ytgfpngjfhmiphaa.MixC
open Go.Proofs.Ytgfpngjfhmiphaa.It (lay chain)
open Go.Proofs.Ytgfpngjfhmiphaa.Rc (Recs)
open Go.Proofs.Ytgfpngjfhmiphaa.Bk (Bks tval bval)
open Go.Proofs.Ytgfpngjfhmiphaa.Sg (BxN)
set_option linter.unusedVariables false
set_option linter.unusedSimpArgs false

theorem kd_top {T : TD} (O : T.Ok) (x : Int) : T.kd x ≤ 3 := by
  rcases T.kd_cases x with ⟨_, _, _, e⟩ | ⟨_, j, hj, _, e⟩ | ⟨_, _, e⟩
  · omega
  · have := (O.bkt.each j hj).2.2.2.1; omega
  · omega
/-- A device of the list: where it stands, and its weight. -/
theorem dev_at {T : TD} (O : T.Ok) {z : Int} (h : T.kd z = 0) : ∃ i, i < T.dn ∧ ixI T.df z T.dn = i ∧ dwt T z = T.dg i := by
  rcases T.kd_cases z with ⟨i, hi, e, _⟩ | ⟨_, j, hj, _, e⟩ | ⟨_, _, e⟩
  · refine ⟨i, hi, ?_, ?_⟩
    · unfold ixI; rw [← e, ix_dev O hi]
    · unfold dwt; rw [← e, ix_dev O hi]
  · have := (O.bkt.each j hj).2.2.1; omega
  · omega
set_option maxRecDepth 100000 in
set_option maxHeartbeats 4000000 in
theorem l06Weight (T : TD) (Z : T.Sz) (O : T.Ok) (x : Int) (A : TA) (w : World) (h0 : 0 ≤ T.kd x) (h : TIn w T A) :
    Calls Try.prog 109 #[A.val T, .int .i64 x] w (IntB (wt T 4 x) w) := by
  have LH := Lib.hid (lay w (.cells #[.slice A.da T.dn A.dc, .slice A.ba T.bn A.bc] 33))
  have X := Lib.hid (BxN.new w #[.slice A.da T.dn A.dc, .slice A.ba T.bn A.bc] 33)
  have UN := Lib.hid (l06Under T Z O 4 x A _ (by omega) (by have := kd_top O x; omega) (h.below LH.out))
  have SU := Lib.hid (sum_undr O (f := 4) (x := x) h0 (by have := kd_top O x; omega))
  have DV := Lib.hid (fun z (hz : z ∈ undr T 4 x) => dev_at O (undr_dev O h0 (by have := kd_top O x; omega) hz))
  have UL := undr_len O.bkt 4 x
  have DL := Lib.hid (dwt_le O)
  have L6 := Lib.hid (fun z w' (b : Below w.heap.size w w') => l06Device T A z w' Z (h.below b))
  have HD := Lib.hid h.devs
  rw [show (8 : Nat) ^ 4 = 4096 from by decide] at UL
  have z1 := Z.dn
  clear h Z
  generalize undr T 4 x = lst at *
  obtain ⟨da, dc, ba, bc, I, C⟩ := A
  dsimp only at LH X UN L6 HD ⊢
  obtain ⟨dn, hdn⟩ : ∃ dn, dn = T.dn := ⟨_, rfl⟩
  obtain ⟨bn, hbn⟩ : ∃ bn, bn = T.bn := ⟨_, rfl⟩
  have EV : ∀ a b c d I C, TA.val ⟨a, b, c, d, I, C⟩ T = tval (.slice a dn b) (.slice c bn d) := fun _ _ _ _ _ _ => by rw [hdn, hbn]
  rw [EV] at UN L6 ⊢
  rw [← hdn, ← hbn] at LH X UN
  rw [← hdn] at z1
  have HD2 : Hid (Recs w da dn T.df T.dg) := by show Recs _ _ _ _ _; rw [hdn]; exact HD.out
  have DV : Hid (∀ z, z ∈ lst → ∃ i, i < dn ∧ ixI T.df z T.dn = i ∧ dwt T z = T.dg i) := by show ∀ z, _; rw [hdn]; exact DV.out
  clear hdn hbn HD
  go_enter Try.func109, Try.ntmps109
  go_wp2_with fail
  refine UN.out.mono ?_
  rintro e w1 ⟨a, cap, rfl, WL, b1⟩
  have B1 := Lib.hid (chain LH.out b1)
  have X1 := Lib.hid (X.out.later b1)
  have WL := Lib.hid WL
  clear b1 UN X
  go_wp2
  go_loopw [6, 7] (fun s i wr => ∃ k : Nat, k ≤ lst.length ∧ i = .int .i64 k ∧ s = .int .i64 (sumW (dwt T) (lst.take k)) ∧ Words wr a lst ∧ BxN wr w.heap.size [.slice da dn dc, .slice ba bn bc] ∧ Below w.heap.size w wr) (fun _ i _ => lst.length - (intOf i).toNat)
  case atStart => exact ⟨0, by omega, rfl, rfl, WL.out, X1.out, B1.out⟩
  case round =>
    clear WL X1 B1
    obtain ⟨k, hk, rfl, rfl, WL, XR, hw⟩ := hrel
    have XH := Lib.hid XR
    have WH := Lib.hid hw
    have WLH := Lib.hid WL
    have x0 := XR.cells 0 _ rfl
    have x1 := XR.cells 1 _ rfl
    clear XR
    by_cases hlt : k < lst.length
    · obtain ⟨bl, ol, rfl, hBl, nums⟩ := WL.resolve_left (by intro e; rw [e] at hlt; simp at hlt)
      have d := nums k hlt
      obtain ⟨i, hi, hix, hwt⟩ := DV.out _ (getD_mem hlt)
      obtain ⟨bd, od, rfl, hBd, hcc⟩ := HD2.out.resolve_left (by omega)
      have g0 := (hcc i hi).2
      have hBd' := Lib.hid hBd
      have g1 := (hw.cell (p := ⟨bd, od + i * 2 + 1, none⟩) hBd).trans g0
      have SN := Lib.hid (show sumW (dwt T) (lst.take (k + 1)) = sumW (dwt T) (lst.take k) + T.dg i from by rw [take_snoc _ _ hlt, sumW_snoc, hwt])
      have S1 := sumW_le (w := dwt T) (m := 8) DL.out (lst.take k)
      have l4 : (lst.take k).length ≤ 4096 := by rw [List.length_take]; omega
      have S2 := DL.out (lst.getD k 0)
      rw [hwt] at S2
      have DVC := Lib.hid (L6.out (lst.getD k 0))
      rw [hix] at DVC
      have W : IntKind.i64.wrap (sumW (dwt T) (lst.take k) + T.dg i) = sumW (dwt T) (lst.take k) + T.dg i := by rw [IntKind.wrap_i64]; omega
      have GC := Lib.hid (fun w' (b : Below w.heap.size w w') => (b.cell (p := ⟨bd, od + i * 2 + 1, none⟩) hBd).trans g0)
      clear nums hcc WL hw hix hwt S1 l4 g0 hBd
      generalize sumW (dwt T) (lst.take k) = s0 at *
      generalize T.dg i = gi at *
      generalize lst.getD k 0 = z at *
      go_wp2
      go_region_held3 (fun w' => w'.cell? ⟨w.heap.size, 0, none⟩ = some (.slice (some ⟨bd, od, none⟩) dn dc) ∧ w'.cell? ⟨w.heap.size, 1, none⟩ = some (.slice ba bn bc) ∧ w'.cell? ⟨bl, ol + k, none⟩ = some (.int .i64 z) ∧ w'.cell? ⟨bd, od + i * 2 + 1, none⟩ = some (.int .i64 gi)) (go_keep)
        (first
          | (go_at_call 56; refine (DVC.out _ WH.out.drew).mono ?_; rintro e w3 ⟨rfl, b3⟩; have b3 := undrew b3; have B3 := Lib.hid (chain WH.out b3); have X3 := Lib.hid (XH.out.later b3); have W3 := Lib.hid (WLH.out.below b3); have y0 := X3.out.cells 0 _ rfl; have y1 := X3.out.cells 1 _ rfl; have yg := GC.out _ B3.out; have yd := (b3.cell (p := ⟨bl, ol + k, none⟩) hBl).trans d; clear b3))
      all_goals
        clear x0 x1 d g1 XH WH WLH DVC
        go_wp2
        go_roundw
        case rel => exact ⟨k + 1, by omega, by go_num, by rw [SN.out], W3.out, X3.out, B3.out⟩
        case measure => simp [intOf]; omega
    · obtain rfl : k = lst.length := by omega
      have G := Lib.hid (show sumW (dwt T) (lst.take lst.length) = wt T 4 x from by rw [List.take_length]; exact SU.out)
      clear hw WL
      go_wp2
      go_ret
      exact ⟨by rw [← G.out]; rfl, WH.out⟩
end Go.Proofs.Ytgfpngjfhmiphaa.Tm
