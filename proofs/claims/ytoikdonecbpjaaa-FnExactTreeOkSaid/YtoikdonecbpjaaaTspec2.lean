/-
  Whether devices and buckets are valid: the model's functions.
-/
import Derived.Test.YtoikdonecbpjaaaTspec
import Derived.IntWalk
namespace Go.Proofs.Ytoikdonecbpjaaa.Tm
open Go.RowKit Go.Proofs.Ytoikdonecbpjaaa.GfI Go.Proofs.Ytoikdonecbpjaaa.GfS Go.Proofs.Ytoikdonecbpjaaa.MixC
open Go.Proofs.Ytoikdonecbpjaaa.It (lay chain)
open Go.Proofs.Ytoikdonecbpjaaa.Rc (Recs)
open Go.Proofs.Ytoikdonecbpjaaa.Bk (Bks tval bval)
open Go.Proofs.Ytoikdonecbpjaaa.Sg (BxN)
set_option linter.unusedVariables false

theorem DevK.prev {T : TD} {k : Nat} {z : Int} (h : DevK T (k + 1) z) : z = T.df k := by have := h.last; rw [if_neg (by omega)] at this; simpa using this
theorem BktK.prev {T : TD} {k : Nat} {z : Int} (h : BktK T (k + 1) z) : z = T.bf k := by have := h.last; rw [if_neg (by omega)] at this; simpa using this

set_option maxRecDepth 100000 in
set_option maxHeartbeats 4000000 in
theorem l06Devices (T : TD) (A : TA) (w : World) (S : T.Sz) (h : TIn w T A) :
    Calls Try.prog 97 #[A.val T] w (IffB T.DevOk w) := by
  obtain ⟨da, dc, ba, bc, I, C⟩ := A
  obtain ⟨dn, hdn⟩ : ∃ dn, dn = T.dn := ⟨_, rfl⟩
  obtain ⟨bn, hbn⟩ : ∃ bn, bn = T.bn := ⟨_, rfl⟩
  have LH := Lib.hid (lay w (.cells #[.slice da dn dc, .slice ba bn bc] 31))
  have X := Lib.hid (BxN.new w #[.slice da dn dc, .slice ba bn bc] 31)
  have HD := h.devs
  have hmd : T.dn ≤ 2097152 := S.dn
  have hmb : T.bn ≤ 2097152 := S.bn
  clear h S
  show Calls Try.prog 97 #[tval (.slice da T.dn dc) (.slice ba T.bn bc)] w _
  rw [← hdn] at hmd HD
  rw [← hbn] at hmb
  rw [← hdn, ← hbn]
  have HD := Lib.hid HD
  have HDN := Lib.hid hdn
  have HBN := Lib.hid hbn
  clear hdn hbn
  by_cases hm : dn ≤ 16
  · go_enter Try.func97, Try.ntmps97
    go_wp2
    go_loopw [3] (fun i wr => ∃ k : Nat, ∃ z : Int, k ≤ dn ∧ i = .int .i64 k ∧ DevK T k z ∧ BxN wr w.heap.size [.slice da dn dc, .slice ba bn bc] ∧ Below w.heap.size w wr) (fun i _ => dn - (intOf i).toNat)
    case atStart => exact ⟨0, -1, by omega, rfl, DevK.start T, X.out, LH.out⟩
    case round =>
      obtain ⟨k, z, hk, rfl, D, XR, hw⟩ := hrel
      have HW := Lib.hid hw
      have XH := Lib.hid XR
      have x0 := XR.cells 0 _ rfl
      have x1 := XR.cells 1 _ rfl
      have xlt := XR.lt
      by_cases hlt : k < dn
      · have ha1 := HD.out.below hw
        obtain ⟨b, off, rfl, hB, hcc⟩ := ha1.resolve_left (by omega)
        have DH := Lib.hid D
        have HCC := Lib.hid hcc
        have HBL := Lib.hid hB
        have HK : Hid (k < T.dn) := by show k < T.dn; rw [← HDN.out]; exact hlt
        have F1 := Lib.hid (show inB (T.df k) 0 15 = false → ¬ T.DevOk from fun e d => by have := d.each k HK.out; rw [inB_yes this.1 this.2.1] at e; cases e)
        have F2 := Lib.hid (show inB (T.dg k) 0 8 = false → ¬ T.DevOk from fun e d => by have := d.each k HK.out; rw [inB_yes this.2.2.1 this.2.2.2] at e; cases e)
        have F3 := Lib.hid (show T.df k ≤ z → ¬ T.DevOk from fun e => DH.out.bad1 HK.out e)
        have F4 := Lib.hid (show z < T.df k → inB (T.df k) 0 15 = true → inB (T.dg k) 0 8 = true → DevK T (k + 1) (T.df k) from fun h1 h2 h3 => by have h2 : 0 ≤ T.df k ∧ T.df k ≤ 15 := of_decide_eq_true h2; exact DH.out.step h1 (by omega) h3)
        obtain ⟨c0, c1⟩ := hcc k hlt
        have BA := Lib.hid (show ∀ x, Below w.heap.size w (wr.alloc x) from fun x => HW.out.alloc HW.out.size x)
        have XA := Lib.hid (show ∀ x, BxN (wr.alloc x) w.heap.size [.slice (some ⟨b, off, none⟩) dn dc, .slice ba bn bc] from fun x => XH.out.later (lay wr x))
        have W1 := fun w' => (l00In (T.df k) 0 15 w').mono (fun e v q => show e = .returned (.bool (inB (T.df k) 0 15)) ∧ v = w' from ⟨q.1, q.2.symm⟩)
        have W2 := fun w' => (l00In (T.dg k) 0 8 w').mono (fun e v q => show e = .returned (.bool (inB (T.dg k) 0 8)) ∧ v = w' from ⟨q.1, q.2.symm⟩)
        clear hcc ha1 hw D XR
        rcases k with _ | k
        · clear HCC
          simp only [Nat.zero_mul, Nat.add_zero] at c0 c1
          have LT := Lib.hid (DH.out.last.trans (if_pos rfl))
          generalize T.df 0 = x at *
          generalize T.dg 0 = y at *
          cases I1 : inB x 0 15
          · have G := Lib.hid (F1.out I1)
            rw [I1] at W1
            have W1 := Lib.hid W1
            clear I1 W2
            go_wp2
            go_quiet (((go_at_call 63; first | (with_reducible exact Calls.quiet_of_same (W1.out _)))))
            go_wp2
            go_ret
            exact IffB.no G.out (below_drewN (BA.out _) _)
          · cases I2 : inB y 0 8
            · have G := Lib.hid (F2.out I2)
              rw [I1] at W1
              rw [I2] at W2
              have W1 := Lib.hid W1
              have W2 := Lib.hid W2
              clear I1 I2
              go_wp2
              go_quiet (((go_at_call 63; first | (with_reducible exact Calls.quiet_of_same (W1.out _)) | (with_reducible exact Calls.quiet_of_same (W2.out _)))))
              go_wp2
              go_ret
              exact IffB.no G.out (below_drewN (BA.out _) _)
            · have W1 := Lib.hid (show ∀ w', Calls Try.prog 63 #[.int .i64 x, .int .i64 0, .int .i64 15] w' (fun e v => e = .returned (.bool true) ∧ v = w') from fun w' => by rw [← I1]; exact W1 w')
              have W2 := Lib.hid (show ∀ w', Calls Try.prog 63 #[.int .i64 y, .int .i64 0, .int .i64 8] w' (fun e v => e = .returned (.bool true) ∧ v = w') from fun w' => by rw [← I2]; exact W2 w')
              have G := Lib.hid (F4.out (by have h2 : 0 ≤ x ∧ x ≤ 15 := of_decide_eq_true I1; have := LT.out; omega) I1 I2)
              clear I1 I2
              go_wp2
              go_quiet (((go_at_call 63; first | (with_reducible exact Calls.quiet_of_same (W1.out _)) | (with_reducible exact Calls.quiet_of_same (W2.out _)))))
              go_wp2
              go_roundw
              case rel => exact ⟨0 + 1, x, by omega, by go_num, G.out, (XA.out _).later (below_drewN (Below.refl _ _) _), below_drewN (BA.out _) _⟩
              case measure => simp [intOf]; omega
        · have PV := Lib.hid DH.out.prev
          obtain ⟨e0, -⟩ := HCC.out k (by omega)
          clear HCC
          have j0 : (0 : Int) ≤ (k : Int) + 1 := by omega
          have j1 : (k : Int) + 1 < (dn : Int) := by omega
          have j2 : decide ((0 : Int) < (k : Int) + 1) = true := decide_eq_true (by omega)
          have j3 : (0 : Int) ≤ (k : Int) := by omega
          have j4 : (k : Int) < (dn : Int) := by omega
          have j6 : ((k : Int) + 1).toNat = k + 1 := by omega
          have j7 : (0 : Int) ≤ (k : Int) + 1 - 1 := by omega
          have j8 : (k : Int) + 1 - 1 < (dn : Int) := by omega
          have j9 : ((k : Int) + 1 - 1).toNat = k := by omega
          have WJ2 : IntKind.i64.wrap (k : Int) = (k : Int) := by rw [IntKind.wrap_i64]; omega
          have WJ : IntKind.i64.wrap ((k : Int) + 1 - 1) = (k : Int) := by rw [IntKind.wrap_i64]; omega
          generalize T.df (k + 1) = x at *
          generalize T.dg (k + 1) = y at *
          generalize T.df k = p at *
          cases I1 : inB x 0 15
          · have G := Lib.hid (F1.out I1)
            rw [I1] at W1
            have W1 := Lib.hid W1
            clear I1 W2
            go_wp2
            go_quiet (((go_at_call 63; first | (with_reducible exact Calls.quiet_of_same (W1.out _)))))
            go_wp2
            go_ret
            exact IffB.no G.out (below_drewN (BA.out _) _)
          · cases I2 : inB y 0 8
            · have G := Lib.hid (F2.out I2)
              rw [I1] at W1
              rw [I2] at W2
              have W1 := Lib.hid W1
              have W2 := Lib.hid W2
              clear I1 I2
              go_wp2
              go_quiet (((go_at_call 63; first | (with_reducible exact Calls.quiet_of_same (W1.out _)) | (with_reducible exact Calls.quiet_of_same (W2.out _)))))
              go_wp2
              go_ret
              exact IffB.no G.out (below_drewN (BA.out _) _)
            · have W1 := Lib.hid (show ∀ w', Calls Try.prog 63 #[.int .i64 x, .int .i64 0, .int .i64 15] w' (fun e v => e = .returned (.bool true) ∧ v = w') from fun w' => by rw [← I1]; exact W1 w')
              have W2 := Lib.hid (show ∀ w', Calls Try.prog 63 #[.int .i64 y, .int .i64 0, .int .i64 8] w' (fun e v => e = .returned (.bool true) ∧ v = w') from fun w' => by rw [← I2]; exact W2 w')
              by_cases hr : x ≤ p
              · have G := Lib.hid (F3.out (by rw [PV.out]; exact hr))
                have jr : decide (x ≤ p) = true := decide_eq_true hr
                clear I1 I2
                go_wp2
                go_quiet (((go_at_call 63; first | (with_reducible exact Calls.quiet_of_same (W1.out _)) | (with_reducible exact Calls.quiet_of_same (W2.out _)))))
                go_wp2
                go_ret
                exact IffB.no G.out (below_drewN (BA.out _) _)
              · have G := Lib.hid (F4.out (by rw [PV.out]; omega) I1 I2)
                have jr : decide (x ≤ p) = false := decide_eq_false hr
                clear I1 I2
                go_wp2
                go_quiet (((go_at_call 63; first | (with_reducible exact Calls.quiet_of_same (W1.out _)) | (with_reducible exact Calls.quiet_of_same (W2.out _)))))
                go_wp2
                go_roundw
                case rel => exact ⟨k + 1 + 1, x, by omega, by go_num, G.out, (XA.out _).later (below_drewN (Below.refl _ _) _), below_drewN (BA.out _) _⟩
                case measure => simp [intOf]; omega
      · obtain rfl : k = dn := by omega
        have G : Hid T.DevOk := by show T.DevOk; rw [HDN.out] at D; exact D.done
        clear D hw XR
        go_wp2
        go_ret
        exact IffB.yes G.out HW.out
  · have G := Lib.hid (show ¬ T.DevOk from fun d => hm (by rw [HDN.out]; exact d.n))
    go_enter Try.func97, Try.ntmps97
    go_wp2
    go_ret
    exact IffB.no G.out LH.out

set_option maxRecDepth 100000 in
set_option maxHeartbeats 4000000 in
theorem l06Buckets (T : TD) (A : TA) (w : World) (S : T.Sz) (h : TIn w T A) :
    Calls Try.prog 98 #[A.val T] w (IffB T.BktOk w) := by
  obtain ⟨da, dc, ba, bc, I, C⟩ := A
  obtain ⟨dn, hdn⟩ : ∃ dn, dn = T.dn := ⟨_, rfl⟩
  obtain ⟨bn, hbn⟩ : ∃ bn, bn = T.bn := ⟨_, rfl⟩
  have LH := Lib.hid (lay w (.cells #[.slice da dn dc, .slice ba bn bc] 31))
  have X := Lib.hid (BxN.new w #[.slice da dn dc, .slice ba bn bc] 31)
  have HD := h.bkts
  have hLs := S.L
  have hmd : T.dn ≤ 2097152 := S.dn
  have hmb : T.bn ≤ 2097152 := S.bn
  clear h S
  show Calls Try.prog 98 #[tval (.slice da T.dn dc) (.slice ba T.bn bc)] w _
  rw [← hdn] at hmd
  rw [← hbn] at hmb HD hLs
  rw [← hdn, ← hbn]
  have HD := Lib.hid HD
  have hLs := Lib.hid hLs
  have HDN := Lib.hid hdn
  have HBN := Lib.hid hbn
  clear hdn hbn
  by_cases hm : bn ≤ 12
  · go_enter Try.func98, Try.ntmps98
    go_wp2
    go_loopw [3] (fun i wr => ∃ k : Nat, ∃ z : Int, k ≤ bn ∧ i = .int .i64 k ∧ BktK T k z ∧ BxN wr w.heap.size [.slice da dn dc, .slice ba bn bc] ∧ Below w.heap.size w wr) (fun i _ => bn - (intOf i).toNat)
    case atStart => exact ⟨0, 0, by omega, rfl, BktK.start T, X.out, LH.out⟩
    case round =>
      obtain ⟨k, z, hk, rfl, D, XR, hw⟩ := hrel
      have HW := Lib.hid hw
      have XH := Lib.hid XR
      have x0 := XR.cells 0 _ rfl
      have x1 := XR.cells 1 _ rfl
      have xlt := XR.lt
      by_cases hlt : k < bn
      · have ha1 := HD.out.below hw
        obtain ⟨b, off, rfl, hB, hcc⟩ := ha1.resolve_left (by omega)
        have DH := Lib.hid D
        have HCC := Lib.hid hcc
        have HBL := Lib.hid hB
        have HK : Hid (k < T.bn) := by show k < T.bn; rw [← HBN.out]; exact hlt
        have F1 := Lib.hid (show inB (T.bf k) (-12) (-1) = false → ¬ T.BktOk from fun e d => by have := d.each k HK.out; rw [inB_yes this.1 this.2.1] at e; cases e)
        have F2 := Lib.hid (show inB (T.bg k) 1 3 = false → ¬ T.BktOk from fun e d => by have := d.each k HK.out; rw [inB_yes this.2.2.1 this.2.2.2.1] at e; cases e)
        have F5 := Lib.hid (show 8 < (T.L k).length → ¬ T.BktOk from fun e d => by have := (d.each k HK.out).2.2.2.2; omega)
        have F3 := Lib.hid (show z ≤ T.bf k → ¬ T.BktOk from fun e => DH.out.bad1 HK.out e)
        have F4 := Lib.hid (show T.bf k < z → inB (T.bf k) (-12) (-1) = true → inB (T.bg k) 1 3 = true → (T.L k).length ≤ 8 → BktK T (k + 1) (T.bf k) from fun h1 h2 h3 h4 => by have h2 : -12 ≤ T.bf k ∧ T.bf k ≤ -1 := of_decide_eq_true h2; exact DH.out.step h1 (by omega) h3 h4)
        have Z := hLs.out k hlt
        obtain ⟨c0, c1, c2, -⟩ := hcc k hlt
        have BA := Lib.hid (show ∀ x, Below w.heap.size w (wr.alloc x) from fun x => HW.out.alloc HW.out.size x)
        have XA := Lib.hid (show ∀ x, BxN (wr.alloc x) w.heap.size [.slice da dn dc, .slice (some ⟨b, off, none⟩) bn bc] from fun x => XH.out.later (lay wr x))
        have W1 := fun w' => (l00In (T.bf k) (-12) (-1) w').mono (fun e v q => show e = .returned (.bool (inB (T.bf k) (-12) (-1))) ∧ v = w' from ⟨q.1, q.2.symm⟩)
        have W2 := fun w' => (l00In (T.bg k) 1 3 w').mono (fun e v q => show e = .returned (.bool (inB (T.bg k) 1 3)) ∧ v = w' from ⟨q.1, q.2.symm⟩)
        clear hcc ha1 hw D XR
        rcases k with _ | k
        · clear HCC
          simp only [Nat.zero_mul, Nat.add_zero] at c0 c1 c2
          have LT := Lib.hid (DH.out.last.trans (if_pos rfl))
          generalize T.bf 0 = x at *
          generalize T.bg 0 = y at *
          generalize (T.L 0).length = m at *
          generalize I 0 = ik at *
          generalize C 0 = ck at *
          cases I1 : inB x (-12) (-1)
          · have G := Lib.hid (F1.out I1)
            rw [I1] at W1
            have W1 := Lib.hid W1
            clear I1 W2
            go_wp2
            go_quiet (((go_at_call 63; first | (with_reducible exact Calls.quiet_of_same (W1.out _)))))
            go_wp2
            go_ret
            exact IffB.no G.out (below_drewN (BA.out _) _)
          · cases I2 : inB y 1 3
            · have G := Lib.hid (F2.out I2)
              rw [I1] at W1
              rw [I2] at W2
              have W1 := Lib.hid W1
              have W2 := Lib.hid W2
              clear I1 I2
              go_wp2
              go_quiet (((go_at_call 63; first | (with_reducible exact Calls.quiet_of_same (W1.out _)) | (with_reducible exact Calls.quiet_of_same (W2.out _)))))
              go_wp2
              go_ret
              exact IffB.no G.out (below_drewN (BA.out _) _)
            · have W1 := Lib.hid (show ∀ w', Calls Try.prog 63 #[.int .i64 x, .int .i64 (-12), .int .i64 (-1)] w' (fun e v => e = .returned (.bool true) ∧ v = w') from fun w' => by rw [← I1]; exact W1 w')
              have W2 := Lib.hid (show ∀ w', Calls Try.prog 63 #[.int .i64 y, .int .i64 1, .int .i64 3] w' (fun e v => e = .returned (.bool true) ∧ v = w') from fun w' => by rw [← I2]; exact W2 w')
              by_cases h5 : m ≤ 8
              · have j5 : decide (8 < (m : Int)) = false := decide_eq_false (by omega)
                have G := Lib.hid (F4.out (by have h2 : -12 ≤ x ∧ x ≤ -1 := of_decide_eq_true I1; have := LT.out; omega) I1 I2 h5)
                clear I1 I2
                go_wp2
                go_quiet (((go_at_call 63; first | (with_reducible exact Calls.quiet_of_same (W1.out _)) | (with_reducible exact Calls.quiet_of_same (W2.out _)))))
                go_wp2
                go_roundw
                case rel => exact ⟨0 + 1, x, by omega, by go_num, G.out, (XA.out _).later (below_drewN (Below.refl _ _) _), below_drewN (BA.out _) _⟩
                case measure => simp [intOf]; omega
              · have G := Lib.hid (F5.out (by omega))
                have j5 : decide (8 < (m : Int)) = true := decide_eq_true (by omega)
                clear I1 I2
                go_wp2
                go_quiet (((go_at_call 63; first | (with_reducible exact Calls.quiet_of_same (W1.out _)) | (with_reducible exact Calls.quiet_of_same (W2.out _)))))
                go_wp2
                go_ret
                exact IffB.no G.out (below_drewN (BA.out _) _)
        · have PV := Lib.hid DH.out.prev
          obtain ⟨e0, -, -, -⟩ := HCC.out k (by omega)
          clear HCC
          have j0 : (0 : Int) ≤ (k : Int) + 1 := by omega
          have j1 : (k : Int) + 1 < (bn : Int) := by omega
          have j2 : decide ((0 : Int) < (k : Int) + 1) = true := decide_eq_true (by omega)
          have j3 : (0 : Int) ≤ (k : Int) := by omega
          have j4 : (k : Int) < (bn : Int) := by omega
          have j6 : ((k : Int) + 1).toNat = k + 1 := by omega
          have j7 : (0 : Int) ≤ (k : Int) + 1 - 1 := by omega
          have j8 : (k : Int) + 1 - 1 < (bn : Int) := by omega
          have j9 : ((k : Int) + 1 - 1).toNat = k := by omega
          have WJ2 : IntKind.i64.wrap (k : Int) = (k : Int) := by rw [IntKind.wrap_i64]; omega
          have WJ : IntKind.i64.wrap ((k : Int) + 1 - 1) = (k : Int) := by rw [IntKind.wrap_i64]; omega
          generalize T.bf (k + 1) = x at *
          generalize T.bg (k + 1) = y at *
          generalize (T.L (k + 1)).length = m at *
          generalize I (k + 1) = ik at *
          generalize C (k + 1) = ck at *
          generalize T.bf k = p at *
          cases I1 : inB x (-12) (-1)
          · have G := Lib.hid (F1.out I1)
            rw [I1] at W1
            have W1 := Lib.hid W1
            clear I1 W2
            go_wp2
            go_quiet (((go_at_call 63; first | (with_reducible exact Calls.quiet_of_same (W1.out _)))))
            go_wp2
            go_ret
            exact IffB.no G.out (below_drewN (BA.out _) _)
          · cases I2 : inB y 1 3
            · have G := Lib.hid (F2.out I2)
              rw [I1] at W1
              rw [I2] at W2
              have W1 := Lib.hid W1
              have W2 := Lib.hid W2
              clear I1 I2
              go_wp2
              go_quiet (((go_at_call 63; first | (with_reducible exact Calls.quiet_of_same (W1.out _)) | (with_reducible exact Calls.quiet_of_same (W2.out _)))))
              go_wp2
              go_ret
              exact IffB.no G.out (below_drewN (BA.out _) _)
            · have W1 := Lib.hid (show ∀ w', Calls Try.prog 63 #[.int .i64 x, .int .i64 (-12), .int .i64 (-1)] w' (fun e v => e = .returned (.bool true) ∧ v = w') from fun w' => by rw [← I1]; exact W1 w')
              have W2 := Lib.hid (show ∀ w', Calls Try.prog 63 #[.int .i64 y, .int .i64 1, .int .i64 3] w' (fun e v => e = .returned (.bool true) ∧ v = w') from fun w' => by rw [← I2]; exact W2 w')
              by_cases h5 : m ≤ 8
              · have j5 : decide (8 < (m : Int)) = false := decide_eq_false (by omega)
                by_cases hr : p ≤ x
                · have G := Lib.hid (F3.out (by rw [PV.out]; exact hr))
                  have jr : decide (p ≤ x) = true := decide_eq_true hr
                  clear I1 I2
                  go_wp2
                  go_quiet (((go_at_call 63; first | (with_reducible exact Calls.quiet_of_same (W1.out _)) | (with_reducible exact Calls.quiet_of_same (W2.out _)))))
                  go_wp2
                  go_ret
                  exact IffB.no G.out (below_drewN (BA.out _) _)
                · have G := Lib.hid (F4.out (by rw [PV.out]; omega) I1 I2 h5)
                  have jr : decide (p ≤ x) = false := decide_eq_false hr
                  clear I1 I2
                  go_wp2
                  go_quiet (((go_at_call 63; first | (with_reducible exact Calls.quiet_of_same (W1.out _)) | (with_reducible exact Calls.quiet_of_same (W2.out _)))))
                  go_wp2
                  go_roundw
                  case rel => exact ⟨k + 1 + 1, x, by omega, by go_num, G.out, (XA.out _).later (below_drewN (Below.refl _ _) _), below_drewN (BA.out _) _⟩
                  case measure => simp [intOf]; omega
              · have G := Lib.hid (F5.out (by omega))
                have j5 : decide (8 < (m : Int)) = true := decide_eq_true (by omega)
                clear I1 I2
                go_wp2
                go_quiet (((go_at_call 63; first | (with_reducible exact Calls.quiet_of_same (W1.out _)) | (with_reducible exact Calls.quiet_of_same (W2.out _)))))
                go_wp2
                go_ret
                exact IffB.no G.out (below_drewN (BA.out _) _)
      · obtain rfl : k = bn := by omega
        have G : Hid T.BktOk := by show T.BktOk; rw [HBN.out] at D; exact D.done
        clear D hw XR
        go_wp2
        go_ret
        exact IffB.yes G.out HW.out
  · have G := Lib.hid (show ¬ T.BktOk from fun d => hm (by rw [HBN.out]; exact d.n))
    go_enter Try.func98, Try.ntmps98
    go_wp2
    go_ret
    exact IffB.no G.out LH.out
end Go.Proofs.Ytoikdonecbpjaaa.Tm
