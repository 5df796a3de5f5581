/-
  Valid lists of intervals, in the model.
-/
import Derived.Test.YthimpcfodbmhkaaIvM
namespace Go.Proofs.Ythimpcfodbmhkaa.Ac
open Go.RowKit Go.Proofs.Ythimpcfodbmhkaa.GfI Go.Proofs.Ythimpcfodbmhkaa.GfS Go.Proofs.Ythimpcfodbmhkaa.MixC
open Go.Proofs.Ythimpcfodbmhkaa.Gf2 (Ib wpList_append_int)
open Go.Proofs.Ythimpcfodbmhkaa.Rd (lay chain chainX RetW Rdb rows_words DInterval shape_Interval mk_Interval)
open Go.Proofs.Ythimpcfodbmhkaa.Sg (BxN)
set_option linter.unusedVariables false
set_option linter.unusedSimpArgs false

set_option maxRecDepth 100000 in
set_option maxHeartbeats 4000000 in
theorem l13Ok (a : Option Addr) (cap : Nat) (l : List DInterval) (w : World) {fr : Bool} {lo : Nat} (hl : l.length ≤ 2097152) (hs : Rdb.sz l ≤ 2097152) (h : Rd.Rows fr lo w a l) :
    Calls Try.prog 63 #[.slice a l.length cap] w (IffB (IvP l) w) := by
  have RH := Lib.hid h
  have GET := Lib.hid (fun k (h : k < l.length) => Rd.get_lt h)
  have LEN := Lib.hid (IvP.len (l := l))
  have ALL := Lib.hid (show IvN l l.length → IvP l from id)
  have SZM := Lib.hid (fun k (v : DInterval) (q : l[k]? = some v) => show v.acting.length ≤ 2097152 from by
    have h1 := Rd.sz_mem q
    have h2 : Rdb.sz v = Rdb.sz v.acting := rfl
    have h3 := Rd.sz_len v.acting
    omega)
  obtain ⟨n, hn⟩ : ∃ n, l.length = n := ⟨_, rfl⟩
  have HN := Lib.hid hn
  rw [hn] at hl GET LEN ALL ⊢
  clear hn h hs
  by_cases h60 : 60 < n
  · have G := Lib.hid (show ¬ IvP l from fun p => by have := LEN.out p; omega)
    have d : decide ((60 : Int) < (n : Int)) = true := decide_eq_true (by omega)
    clear RH GET LEN ALL h60
    go_enter Try.func63, Try.ntmps63
    go_wp2
    go_ret
    exact IffB.no G.out (Below.refl _ _)
  · have d : decide ((60 : Int) < (n : Int)) = false := decide_eq_false (by omega)
    have N0 := Lib.hid (show (1 : Int) = nxF l 0 from rfl)
    clear LEN
    go_enter Try.func63, Try.ntmps63
    go_wp2
    go_loopw [3, 4] (fun x i wr => ∃ k : Nat, k ≤ n ∧ i = .int .i64 k ∧ x = .int .i64 (nxF l k) ∧ IvN l k ∧ Below w.heap.size w wr) (fun _ i _ => n - (intOf i).toNat)
    case atStart => exact ⟨0, by omega, rfl, by rw [← N0.out], IvN.zero l, Below.refl _ _⟩
    case round =>
      obtain ⟨k, hk, rfl, rfl, R, hw⟩ := hrel
      have HR := Lib.hid R
      have BH := Lib.hid hw
      clear R d N0
      by_cases hlt : k < n
      · skip
        obtain ⟨v, hv⟩ := GET.out k hlt
        obtain ⟨v0, hv0⟩ := GET.out 0 (by omega)
        obtain ⟨b, off, cs, rfl, -, hB, hr, hcc⟩ := (RH.out.below hw).at' hv
        obtain ⟨b', off', cs', e', -, -, hr0, hcc0⟩ := (RH.out.below hw).at' hv0
        obtain ⟨rfl, rfl⟩ : b = b' ∧ off = off' := by simpa using e'
        obtain ⟨a0_2, c0_2, rfl, f0_0, f0_1, f0_2, g0_2⟩ := shape_Interval hr
        obtain ⟨a1_2, c1_2, rfl, f1_0, f1_1, f1_2, g1_2⟩ := shape_Interval hr0
        have c0 : wr.cell? ⟨b, off + k * 4, none⟩ = some (.int .i64 v.first) := hcc 0 _ rfl
        have c1 : wr.cell? ⟨b, off + k * 4 + 1, none⟩ = some (.int .i64 v.last) := hcc 1 _ rfl
        have c2 : wr.cell? ⟨b, off + k * 4 + 2, none⟩ = some (.slice a0_2 v.acting.length c0_2) := hcc 2 _ rfl
        have c3 : wr.cell? ⟨b, off + k * 4 + 3, none⟩ = some (.bool v.may) := hcc 3 _ rfl
        have z2 : wr.cell? ⟨b, off + 2, none⟩ = some (.slice a1_2 v0.acting.length c1_2) := by have := hcc0 2 _ rfl; rwa [show off + 0 * Rdb.size DInterval + 2 = off + 2 from by omega] at this
        have LY := lay wr (.cells #[.int .i64 v.first, .int .i64 v.last, .slice a0_2 v.acting.length c0_2, .bool v.may] 38)
        have YN := BxN.new wr #[.int .i64 v.first, .int .i64 v.last, .slice a0_2 v.acting.length c0_2, .bool v.may] 38
        have y0 := YN.cells 0 _ rfl
        have y1 := YN.cells 1 _ rfl
        have y2 := YN.cells 2 _ rfl
        have y3 := YN.cells 3 _ rfl
        have z2' := (LY.cell (p := ⟨b, off + 2, none⟩) hB).trans z2
        have BA := Lib.hid (chainX w BH.out LY)
        have AW := Lib.hid (fun w' (bb : Below (wr.alloc (.cells #[.int .i64 v.first, .int .i64 v.last, .slice a0_2 v.acting.length c0_2, .bool v.may] 38)).heap.size (wr.alloc (.cells #[.int .i64 v.first, .int .i64 v.last, .slice a0_2 v.acting.length c0_2, .bool v.may] 38)) w') => (f0_2.below LY).below bb)
        have NX := Lib.hid (nxF_succ hv)
        have P0 := plc0_eq hv0
        have STEP := Lib.hid (fun c => HR.out.step hv c)
        have NOT := Lib.hid (fun c => IvN.no (l := l) (by rw [HN.out]; exact hlt) hv c)
        rw [P0] at STEP NOT
        have nb := nx_wf HR.out (by rw [HN.out]; exact hk)
        have L0 := g0_2.1
        have L1 := g1_2.1
        have LC := g0_2.2

        have SM := SZM.out k v hv
        have OKQ := Lib.hid (fun q => l12OkD a0_2 c0_2 v.acting ((wr.alloc (.cells #[.int .i64 v.first, .int .i64 v.last, .slice a0_2 v.acting.length c0_2, .bool v.may] 38)).drewN q) (by omega) LC (rows_words (AW.out _ (Rd.below_drewN' (Below.refl _ _) q))))
        have IN := fun w' => l00In v.last v.first 60 w'
        clear AW hv hv0 hcc hcc0 hw f0_2 f1_2 z2 P0 LY YN GET SZM
        generalize hL : v.last = la at *
        generalize hF : v.first = fi at *
        generalize hA : v.acting.length = m at *
        generalize hZ : v0.acting.length = m0 at *
        by_cases q1 : fi = nxF l k
        · have d1 : (fi != nxF l k) = false := by simpa using q1
          cases q2 : inB la fi 60
          · have G := Lib.hid (NOT.out (fun c => by have := c.2.1; rw [hL, hF, q2] at this; cases this))
            rw [q2] at IN
            have IN := Lib.hid IN
            clear q2 NOT STEP hL hF hA hZ q1 NX
            generalize nxF l k = x at *
            go_wp2
            go_quiet ((first | (go_at_call 80; exact Calls.quiet_of_same ((IN.out _).mono fun _ _ q => ⟨q.1, q.2.symm⟩))))
            go_wp2
            go_ret
            exact IffB.no G.out (Rd.below_drewN' BA.out _)
          · rw [q2] at IN
            have IN := Lib.hid IN
            by_cases q3 : ActP v.acting
            · rw [decide_eq_true q3] at OKQ
              by_cases q4 : m = m0
              · have G := Lib.hid (STEP.out ⟨by rw [hF]; exact q1, by rw [hL, hF]; exact q2, q3, by rw [hA]; exact q4⟩)
                have d4 : ((m : Int) != (m0 : Int)) = false := by rw [q4]; simp
                have hb0 := inB_iff.1 q2
                have hb : 1 ≤ la ∧ la ≤ 60 := by omega
                obtain ⟨hb1, hb2⟩ := hb
                clear hb0
                clear q2 NOT STEP hL hF hA hZ q1 q3 q4
                generalize nxF l k = x at *
                go_wp2
                go_quiet ((first | (go_at_call 80; exact Calls.quiet_of_same ((IN.out _).mono fun _ _ q => ⟨q.1, q.2.symm⟩)) | (go_at_call 53; exact Calls.quiet_of (OKQ.out _))))
                go_wp2
                go_roundw
                case rel => exact ⟨k + 1, by omega, by go_num, by rw [NX.out], G.out, Rd.below_drewN' BA.out _⟩
                case measure => simp [intOf]; omega
              · have G := Lib.hid (NOT.out (fun c => q4 (by rw [← hA]; exact c.2.2.2)))
                have d4 : ((m : Int) != (m0 : Int)) = true := by simpa using fun e => q4 (by omega)
                clear q2 NOT STEP hL hF hA hZ q1 q3 q4 NX
                generalize nxF l k = x at *
                go_wp2
                go_quiet ((first | (go_at_call 80; exact Calls.quiet_of_same ((IN.out _).mono fun _ _ q => ⟨q.1, q.2.symm⟩)) | (go_at_call 53; exact Calls.quiet_of (OKQ.out _))))
                go_wp2
                go_ret
                exact IffB.no G.out (Rd.below_drewN' BA.out _)
            · have G := Lib.hid (NOT.out (fun c => q3 c.2.2.1))
              rw [decide_eq_false q3] at OKQ
              clear q2 NOT STEP hL hF hA hZ q1 q3 NX
              generalize nxF l k = x at *
              go_wp2
              go_quiet ((first | (go_at_call 80; exact Calls.quiet_of_same ((IN.out _).mono fun _ _ q => ⟨q.1, q.2.symm⟩)) | (go_at_call 53; exact Calls.quiet_of (OKQ.out _))))
              go_wp2
              go_ret
              exact IffB.no G.out (Rd.below_drewN' BA.out _)
        · have G := Lib.hid (NOT.out (fun c => q1 (by rw [← hF]; exact c.1)))
          have d1 : (fi != nxF l k) = true := by simpa using q1
          clear NOT STEP hL hF hA hZ q1 NX
          generalize nxF l k = x at *
          go_wp2
          go_quiet (fail)
          go_wp2
          go_ret
          exact IffB.no G.out (Rd.below_drewN' BA.out _)
      · obtain rfl : k = n := by omega
        have G := Lib.hid (ALL.out HR.out)
        clear hw
        go_wp2
        go_ret
        exact IffB.yes G.out BH.out
end Go.Proofs.Ythimpcfodbmhkaa.Ac
