/-
  Placement tables: which are valid, in the model.
-/
import Derived.Test.YteogbfmghbaelaaMovJ
import Derived.Deep.QuietTactic
import Derived.BigQuiet
namespace Go.Proofs.Yteogbfmghbaelaa.Rd
open Go.RowKit Go.ChangeShapes Go.WideShapes Go.Proofs.Yteogbfmghbaelaa.GfI Go.Proofs.Yteogbfmghbaelaa.GfS
open Go.Proofs.Yteogbfmghbaelaa.Sg (BxN)
open Go.Proofs.Yteogbfmghbaelaa.Tm (IffB zF)
open Go.Proofs.Yteogbfmghbaelaa.MixC (Words)
set_option linter.unusedVariables false
set_option linter.unusedSimpArgs false

set_option maxRecDepth 100000 in
set_option maxHeartbeats 4000000 in
theorem l10Rows (a : Option Addr) (cap : Nat) (l : List (List Int)) (w : World) (hs : Rdb.sz l ≤ 2097152) {fr : Bool} {lo : Nat} (hc : Rows fr lo w a l) :
    Calls Try.prog 82 #[.slice a l.length cap] w (IffB (tblOk l) w) := by
  have HL := Lib.hid (fun k (h : k < l.length) => get_lt h)
  have hl : l.length ≤ 2097152 := Nat.le_trans (sz_len l) hs
  have SM := Lib.hid (fun k x (h : l[k]? = some x) => Nat.le_trans (sz_len x) (Nat.le_trans (sz_mem h) hs))
  have G0 := Lib.hid (fun x (h : l[0]? = some x) => (show (l.getD 0 []).length = x.length by rw [List.getD_eq_getElem?_getD, h]; rfl))
  have TK := Lib.hid (show tblOk l ↔ l.length ≤ 16 ∧ ∀ i x, i < l.length → l[i]? = some x → rowOk l x from Iff.rfl)
  obtain ⟨n, hn⟩ : ∃ n, n = l.length := ⟨_, rfl⟩
  rw [← hn] at hl HL TK ⊢
  have RO := Lib.hid hc
  clear hn hs hc
  by_cases h16 : n ≤ 16
  case neg =>
    have h' : decide ((16 : Int) < (n : Int)) = true := decide_eq_true (by omega)
    have G := Lib.hid (show ¬ tblOk l from fun t => h16 (TK.out.1 t).1)
    go_enter Try.func82, Try.ntmps82
    go_wp2
    go_ret
    exact IffB.no G.out (Below.refl _ _)
  have h' : decide ((16 : Int) < (n : Int)) = false := decide_eq_false (by omega)
  go_enter Try.func82, Try.ntmps82
  go_wp2
  go_loopw [3] (fun i wr => ∃ k : Nat, k ≤ n ∧ i = .int .i64 k ∧ (∀ i x, i < k → l[i]? = some x → rowOk l x) ∧ Below w.heap.size w wr) (fun i _ => n - (intOf i).toNat)
  case atStart => exact ⟨0, by omega, rfl, fun i x hi => absurd hi (Nat.not_lt_zero _), Below.refl _ _⟩
  case round =>
    obtain ⟨k, hk, rfl, P, hw⟩ := hrel
    have PH := Lib.hid P
    have HW := Lib.hid hw
    clear P
    by_cases hlt : k < n
    · obtain ⟨x, hx⟩ := HL.out k hlt
      obtain ⟨x0, hx0⟩ := HL.out 0 (by omega)
      obtain ⟨b, off, he, h0, hB, hf, hc⟩ := (RO.out.below hw).resolve_left (ne_of_atT hx)
      obtain ⟨cs, hr, hcc⟩ := hc k x hx
      obtain ⟨cs0, hr0, hcc0⟩ := hc 0 x0 hx0
      obtain ⟨g1, a1, k1, rfl, f1⟩ := hr
      obtain ⟨g0, a0, k0, rfl, f0⟩ := hr0
      subst he
      have c0 : wr.cell? ⟨b, off + k, none⟩ = some (.slice a1 x.length k1) := by have := hcc 0 _ rfl; rwa [show off + k * Rdb.size (List Int) + 0 = off + k from by show off + k * 1 + 0 = _; omega] at this
      have d0 : wr.cell? ⟨b, off, none⟩ = some (.slice a0 x0.length k0) := by have := hcc0 0 _ rfl; rwa [Nat.zero_mul] at this
      have hxl := SM.out k x hx
      have E0 := Lib.hid (G0.out x0 hx0)
      have ROW := Lib.hid (fun (h : ¬ rowOk l x) => show ¬ tblOk l from fun t => h ((TK.out.1 t).2 k x hlt hx))
      have NXT := Lib.hid (fun (h : rowOk l x) => show ∀ i y, i < k + 1 → l[i]? = some y → rowOk l y from fun i y hi hy => by
        by_cases q : i = k
        · subst q; rw [hx] at hy; cases hy; exact h
        · exact PH.out i y (by omega) hy)
      have WX := Lib.hid (rows_words f1)
      have HB := Lib.hid hB
      have hn0 : (0 : Int) < (n : Int) := by omega
      have hn1 : 0 < n := by omega
      have j0 : (0 : Int) ≤ (k : Int) := by omega
      have j1 : (k : Int) < (n : Int) := by omega
      clear hc hcc hcc0 hf h0 hB f1 f0 hw hx hx0
      by_cases h7 : x.length ≤ 7
      · have h7' : decide ((7 : Int) < (x.length : Int)) = false := decide_eq_false (by omega)
        by_cases h1 : x.length = x0.length
        · have E1 := Lib.hid h1
          rw [← h1] at d0
          clear h1
          obtain ⟨m, hm⟩ : ∃ m, m = x.length := ⟨_, rfl⟩
          have HM := Lib.hid hm
          rw [← hm] at c0 d0 h7' hxl h7
          clear hm
          go_wp2
          go_quiet (fail)
          have c1 : (wr.drewN nq).cell? ⟨b, off + k, none⟩ = some (.slice a1 m k1) := c0
          have W1 := Lib.hid (show Words (wr.drewN nq) a1 x from WX.out.below (below_drewN' (Below.refl _ _) nq))
          have BW := Lib.hid (below_drewN' HW.out nq)
          clear c0 d0
          generalize wr.drewN nq = wq at *
          go_wp2
          go_loop [4] (fun i => ∃ j : Nat, j ≤ m ∧ i = .int .i64 j ∧ ∀ i, i < j → inB (zF x i) (-1) 15 = true) (fun i => m - (intOf i).toNat)
          case atStart => exact ⟨0, by omega, rfl, fun i hi => absurd hi (Nat.not_lt_zero _)⟩
          case round =>
            obtain ⟨j, hj, rfl, Q⟩ := hrel
            have QH := Lib.hid Q
            clear Q
            by_cases hjl : j < m
            · have jx : j < x.length := by rw [← HM.out]; exact hjl
              obtain ⟨b2, o2, rfl, _, nums⟩ := W1.out.resolve_left (by intro e; rw [e] at jx; simp at jx)
              have e0 : wq.cell? ⟨b2, o2 + j, none⟩ = some (.int .i64 (zF x j)) := nums j jx
              have zm : zF x j ∈ x := by unfold Tm.zF; exact Tm.getD_mem jx
              have ZM := Lib.hid zm
              have LI := fun w' => l00In (zF x j) (-1) 15 w'
              clear nums jx zm
              cases hb : inB (zF x j) (-1) 15
              · have G := Lib.hid (ROW.out (fun r => by have := r.2.2 _ ZM.out; rw [hb] at this; cases this))
                rw [hb] at LI
                have LI := Lib.hid LI
                clear hb
                generalize zF x j = z at *
                go_wp2_with fail
                refine (LI.out _).mono ?_
                rintro e w1 ⟨rfl, rfl⟩
                go_wp2
                go_ret
                exact IffB.no G.out BW.out
              · have Q2 := Lib.hid (show ∀ i, i < j + 1 → inB (zF x i) (-1) 15 = true from fun i hi => if q : i = j then by rw [q]; exact hb else QH.out i (by omega))
                rw [hb] at LI
                have LI := Lib.hid LI
                clear hb
                generalize zF x j = z at *
                go_wp2_with fail
                refine (LI.out _).mono ?_
                rintro e w1 ⟨rfl, rfl⟩
                go_wp2
                go_round
                case rel => exact ⟨j + 1, by omega, by go_num, Q2.out⟩
                case measure => simp [intOf]; omega
            · obtain rfl : j = m := by omega
              have Q := Lib.hid (NXT.out ⟨by rw [← HM.out]; exact h7, by rw [E0.out, E1.out], fun z hz => by
                obtain ⟨i, hi, rfl⟩ := List.getElem_of_mem hz
                have := QH.out i (by rw [HM.out]; exact hi)
                unfold Tm.zF at this
                rwa [List.getD_eq_getElem?_getD, List.getElem?_eq_getElem hi] at this⟩)
              go_wp2
              go_roundw
              case rel => exact ⟨k + 1, by omega, by go_num, Q.out, BW.out⟩
              case measure => simp [intOf]; omega
        · have G := Lib.hid (ROW.out (fun r => h1 (by rw [r.2.1, E0.out])))
          have h1' : ((x.length : Int) != (x0.length : Int)) = true := by simpa using fun e => h1 (by omega)
          clear ROW NXT
          generalize x0.length = m at *
          generalize x.length = m1 at *
          go_wp2
          go_quiet (fail)
          go_wp2
          go_ret
          exact IffB.no G.out (below_drewN' HW.out _)
      · have h7' : decide ((7 : Int) < (x.length : Int)) = true := decide_eq_true (by omega)
        have G := Lib.hid (ROW.out (fun r => h7 r.1))
        clear ROW NXT
        generalize x0.length = m at *
        generalize x.length = m1 at *
        go_wp2
        go_quiet (fail)
        go_wp2
        go_ret
        exact IffB.no G.out (below_drewN' HW.out _)
    · obtain rfl : k = n := by omega
      clear hw
      have G := Lib.hid (TK.out.2 ⟨h16, PH.out⟩)
      go_wp2
      go_ret
      exact IffB.yes G.out HW.out
end Go.Proofs.Yteogbfmghbaelaa.Rd
