/-
  Valid lists of intervals, in the program.
-/
import Derived.Test.YthimpcfodbmhkaaIvM
import Derived.Deep.RegionHeld3
namespace Go.Proofs.Ythimpcfodbmhkaa.Ac
open Go.RowKit Go.Proofs.Ythimpcfodbmhkaa.GfI Go.Proofs.Ythimpcfodbmhkaa.GfS Go.Proofs.Ythimpcfodbmhkaa.MixC
open Go.Proofs.Ythimpcfodbmhkaa.Gf2 (Ib wpList_append_int)
open Go.Proofs.Ythimpcfodbmhkaa.Rd (lay chain chainX undrewX RetW Rdb rows_words DInterval shape_Interval mk_Interval)
open Go.Proofs.Ythimpcfodbmhkaa.Sg (BxN)
set_option linter.unusedVariables false
set_option linter.unusedSimpArgs false

set_option maxRecDepth 100000 in
set_option maxHeartbeats 4000000 in
theorem intervalsOk (a : Option Addr) (cap : Nat) (l : List DInterval) (w : World) {fr : Bool} {lo : Nat} (hl : l.length ≤ 2097152) (hs : Rdb.sz l ≤ 2097152) (h : Rd.Rows fr lo w a l) :
    Calls Try.prog 32 #[.slice a l.length cap] w (IffB (IvP l) w) := by
  have RH := Lib.hid h
  have GET := Lib.hid (fun k (h : k < l.length) => Rd.get_lt h)
  have ALL := Lib.hid (show IvN l l.length → IvP l from id)
  have SZM := Lib.hid (fun k (v : DInterval) (q : l[k]? = some v) => show v.acting.length ≤ 2097152 from by
    have h1 := Rd.sz_mem q
    have h2 : Rdb.sz v = Rdb.sz v.acting := rfl
    have h3 := Rd.sz_len v.acting
    omega)
  obtain ⟨n, hn⟩ : ∃ n, l.length = n := ⟨_, rfl⟩
  have HN := Lib.hid hn
  rw [hn] at hl GET ALL ⊢
  clear hn h hs
  have N0 := Lib.hid (show (1 : Int) = nxF l 0 from rfl)
  go_enter Try.func32, Try.ntmps32
  go_wp2
  go_loopw [3, 8] (fun x i wr => ∃ k : Nat, k ≤ n ∧ i = .int .i64 k ∧ x = .int .i64 (nxF l k) ∧ IvN l k ∧ Below w.heap.size w wr) (fun _ i _ => n - (intOf i).toNat)
  case atStart => exact ⟨0, by omega, rfl, by rw [← N0.out], IvN.zero l, Below.refl _ _⟩
  case round =>
    obtain ⟨k, hk, rfl, rfl, R, hw⟩ := hrel
    have HR := Lib.hid R
    have BH := Lib.hid hw
    clear R N0
    by_cases hlt : k < n
    · skip
      obtain ⟨v, hv⟩ := GET.out k hlt
      obtain ⟨v0, hv0⟩ := GET.out 0 (by omega)
      obtain ⟨b, off, cs, rfl, -, hB, hr, hcc⟩ := (RH.out.below hw).at' hv
      obtain ⟨b', off', cs', e', -, -, hr0, hcc0⟩ := (RH.out.below hw).at' hv0
      obtain ⟨rfl, rfl⟩ : b = b' ∧ off = off' := by simpa using e'
      obtain ⟨a0_2, c0_2, rfl, f0_0, f0_1, f0_2, g0_2⟩ := shape_Interval hr
      obtain ⟨a1_2, c1_2, rfl, f1_0, f1_1, f1_2, g1_2⟩ := shape_Interval hr0
      have c0 : wr.cell? ⟨b, off + k * 4, none⟩ = some (.int .i64 v.first) := hcc 0 _ rfl
      have c1 : wr.cell? ⟨b, off + k * 4 + 1, none⟩ = some (.int .i64 v.last) := hcc 1 _ rfl
      have c2 : wr.cell? ⟨b, off + k * 4 + 2, none⟩ = some (.slice a0_2 v.acting.length c0_2) := hcc 2 _ rfl
      have c3 : wr.cell? ⟨b, off + k * 4 + 3, none⟩ = some (.bool v.may) := hcc 3 _ rfl
      have z2 : wr.cell? ⟨b, off + 2, none⟩ = some (.slice a1_2 v0.acting.length c1_2) := by have := hcc0 2 _ rfl; rwa [show off + 0 * Rdb.size DInterval + 2 = off + 2 from by omega] at this
      have LY := lay wr (.cells #[.int .i64 v.first, .int .i64 v.last, .slice a0_2 v.acting.length c0_2, .bool v.may] 38)
      have YN := BxN.new wr #[.int .i64 v.first, .int .i64 v.last, .slice a0_2 v.acting.length c0_2, .bool v.may] 38
      have y0 := YN.cells 0 _ rfl
      have y1 := YN.cells 1 _ rfl
      have y2 := YN.cells 2 _ rfl
      have y3 := YN.cells 3 _ rfl
      have z2' := (LY.cell (p := ⟨b, off + 2, none⟩) hB).trans z2
      have BA := Lib.hid (chainX w BH.out LY)
      have AW := Lib.hid (fun w' (bb : Below (wr.alloc (.cells #[.int .i64 v.first, .int .i64 v.last, .slice a0_2 v.acting.length c0_2, .bool v.may] 38)).heap.size (wr.alloc (.cells #[.int .i64 v.first, .int .i64 v.last, .slice a0_2 v.acting.length c0_2, .bool v.may] 38)) w') => (f0_2.below LY).below bb)
      have NX := Lib.hid (nxF_succ hv)
      have P0 := plc0_eq hv0
      have STEP := Lib.hid (fun c => HR.out.step hv c)
      have NOT := Lib.hid (fun c => IvN.no (l := l) (by rw [HN.out]; exact hlt) hv c)
      rw [P0] at STEP NOT
      have nb := nx_wf HR.out (by rw [HN.out]; exact hk)
      have L0 := g0_2.1
      have L1 := g1_2.1
      have LC := g0_2.2

      have SM := SZM.out k v hv
      have jn : (0 : Int) < (n : Int) := by omega
      have jn2 : 0 < n := by omega
      have WLT := hB
      have OKA := Lib.hid (fun w' (bb : Below (wr.alloc (.cells #[.int .i64 v.first, .int .i64 v.last, .slice a0_2 v.acting.length c0_2, .bool v.may] 38)).heap.size (wr.alloc (.cells #[.int .i64 v.first, .int .i64 v.last, .slice a0_2 v.acting.length c0_2, .bool v.may] 38)) w') => implActingOk a0_2 c0_2 v.acting w' (by omega) LC (AW.out w' bb))
      have YH := Lib.hid YN
      have ZH := Lib.hid (fun w' (bb : Below (wr.alloc (.cells #[.int .i64 v.first, .int .i64 v.last, .slice a0_2 v.acting.length c0_2, .bool v.may] 38)).heap.size (wr.alloc (.cells #[.int .i64 v.first, .int .i64 v.last, .slice a0_2 v.acting.length c0_2, .bool v.may] 38)) w') => (bb.cell (p := ⟨b, off + 2, none⟩) (Nat.lt_of_lt_of_le hB LY.size)).trans z2')
      clear AW hv hv0 hcc hcc0 hw f0_2 f1_2 z2 P0 LY YN GET SZM WLT
      generalize hL : v.last = la at *
      generalize hF : v.first = fi at *
      generalize hA : v.acting.length = m at *
      generalize hZ : v0.acting.length = m0 at *
      by_cases q1 : fi = nxF l k
      · have d1 : (fi != nxF l k) = false := by simpa using q1
        by_cases q2 : la < fi
        · have G := Lib.hid (NOT.out (fun c => by have := inB_iff.1 c.2.1; omega))
          have d2 : decide (la < fi) = true := decide_eq_true q2
          clear NOT STEP hL hF hA hZ q1 q2 NX
          generalize nxF l k = x at *
          go_wp2
          go_ret
          exact IffB.no G.out BA.out
        · have d2 : decide (la < fi) = false := decide_eq_false q2
          by_cases q5 : 60 < la
          · have G := Lib.hid (NOT.out (fun c => by have := inB_iff.1 c.2.1; omega))
            have d5 : decide ((60 : Int) < la) = true := decide_eq_true q5
            clear NOT STEP hL hF hA hZ q1 q2 q5 NX
            generalize nxF l k = x at *
            go_wp2
            go_ret
            exact IffB.no G.out BA.out
          · have d5 : decide ((60 : Int) < la) = false := decide_eq_false q5
            by_cases q3 : ActP v.acting
            · have OKB := Lib.hid (fun w' bb => (OKA.out w' bb).mono (fun e w2 q => (show e = .returned (.bool true) ∧ Below w'.heap.size w' w2 from by have := q.1; rw [decide_eq_true q3] at this; exact ⟨this, q.2⟩)))
              by_cases q4 : m = m0
              · have G := Lib.hid (STEP.out ⟨by rw [hF]; exact q1, by rw [hL, hF]; exact inB_iff.2 ⟨by omega, by omega⟩, q3, by rw [hA]; exact q4⟩)
                have d4 : ((m : Int) != (m0 : Int)) = false := by rw [q4]; simp
                have hb1 : 1 ≤ la := by omega
                have hb2 : la ≤ 60 := by omega
                clear q2 NOT STEP hL hF hA hZ q1 q3 q4 q5 OKA
                generalize nxF l k = x at *
                go_wp2
                go_region_held3 (fun w' => w'.cell? ⟨wr.heap.size, 0, none⟩ = some (.int .i64 fi) ∧ w'.cell? ⟨wr.heap.size, 1, none⟩ = some (.int .i64 la) ∧ w'.cell? ⟨wr.heap.size, 2, none⟩ = some (.slice a0_2 m c0_2) ∧ w'.cell? ⟨wr.heap.size, 3, none⟩ = some (.bool v.may) ∧ w'.cell? ⟨b, off + 2, none⟩ = some (.slice a1_2 m0 c1_2)) (go_keep)
                  (first
                    | (go_at_call 17; refine (OKB.out _ ((Below.refl _ _).drew)).mono ?_; rintro e w1 ⟨rfl, b1⟩; have b1 := undrewX b1; have YQ := YH.out.later b1; have x0_ := YQ.cells 0 _ rfl; have x1_ := YQ.cells 1 _ rfl; have x2_ := YQ.cells 2 _ rfl; have x3_ := YQ.cells 3 _ rfl; have x2 := ZH.out _ b1; have BQ := b1; clear b1 YQ))
                go_wp2
                go_roundw
                case rel => exact ⟨k + 1, by omega, by go_num, by rw [NX.out], G.out, chainX w BA.out BQ⟩
                case measure => simp [intOf]; omega
              · have G := Lib.hid (NOT.out (fun c => q4 (by rw [← hA]; exact c.2.2.2)))
                have d4 : ((m : Int) != (m0 : Int)) = true := by simpa using fun e => q4 (by omega)
                clear q2 NOT STEP hL hF hA hZ q1 q3 q4 q5 NX OKA
                generalize nxF l k = x at *
                go_wp2
                go_region_held3 (fun w' => w'.cell? ⟨wr.heap.size, 0, none⟩ = some (.int .i64 fi) ∧ w'.cell? ⟨wr.heap.size, 1, none⟩ = some (.int .i64 la) ∧ w'.cell? ⟨wr.heap.size, 2, none⟩ = some (.slice a0_2 m c0_2) ∧ w'.cell? ⟨wr.heap.size, 3, none⟩ = some (.bool v.may) ∧ w'.cell? ⟨b, off + 2, none⟩ = some (.slice a1_2 m0 c1_2)) (go_keep)
                  (first
                    | (go_at_call 17; refine (OKB.out _ ((Below.refl _ _).drew)).mono ?_; rintro e w1 ⟨rfl, b1⟩; have b1 := undrewX b1; have YQ := YH.out.later b1; have x0_ := YQ.cells 0 _ rfl; have x1_ := YQ.cells 1 _ rfl; have x2_ := YQ.cells 2 _ rfl; have x3_ := YQ.cells 3 _ rfl; have x2 := ZH.out _ b1; have BQ := b1; clear b1 YQ))
                go_wp2
                go_ret
                exact IffB.no G.out (chainX w BA.out BQ)
            · have G := Lib.hid (NOT.out (fun c => q3 c.2.2.1))
              have OKB := Lib.hid (fun w' bb => (OKA.out w' bb).mono (fun e w2 q => (show e = .returned (.bool false) ∧ Below w'.heap.size w' w2 from by have := q.1; rw [decide_eq_false q3] at this; exact ⟨this, q.2⟩)))
              clear q2 NOT STEP hL hF hA hZ q1 q3 q5 NX OKA
              generalize nxF l k = x at *
              go_wp2
              refine wp_region_noPanic ?_
              refine wp_region_held_drew (S := (fun w' => w'.cell? ⟨wr.heap.size, 0, none⟩ = some (.int .i64 fi) ∧ w'.cell? ⟨wr.heap.size, 1, none⟩ = some (.int .i64 la) ∧ w'.cell? ⟨wr.heap.size, 2, none⟩ = some (.slice a0_2 m c0_2) ∧ w'.cell? ⟨wr.heap.size, 3, none⟩ = some (.bool v.may))) (by kernel_rfl) ?_ (fun hHeld => ?_)
              · go_keep
              refine wpAnyH_take (i := 0) (v := ?_) rfl (by kernel_rfl) (by kernel_rfl) (by kernel_rfl) (fun _ _ _ h => h) (Or.inl ⟨by first | kernel_rfl | rfl, ?_⟩) (by assumption) ?_
              rotate_left
              · intro wx hSw; (try dsimp only at hSw); go_simp; first | done | with_reducible rfl
              try simp only [Act.put, List.getElem_toArray, List.getElem_cons_zero, List.getElem_cons_succ, List.setIfInBounds_toArray, List.set_cons_zero, List.set_cons_succ]
              refine wpAnyH_take (i := 1) (v := ?_) rfl (by kernel_rfl) (by kernel_rfl) (by kernel_rfl) (fun _ _ _ h => h) (Or.inl ⟨by first | kernel_rfl | rfl, ?_⟩) (by assumption) ?_
              rotate_left
              · intro wx hSw; (try dsimp only at hSw); go_simp; first | done | with_reducible rfl
              try simp only [Act.put, List.getElem_toArray, List.getElem_cons_zero, List.getElem_cons_succ, List.setIfInBounds_toArray, List.set_cons_zero, List.set_cons_succ]
              refine wpAnyH_ready (rs := [2]) (by kernel_rfl) (by simp) ?_
              refine AllReadyH.cons rfl (fun K hK => ?_) AllReadyH.nil
              go_simp
              (refine (OKB.out _ ((Below.refl _ _).drew)).mono ?_; rintro e w1 ⟨rfl, b1⟩; have b1 := undrewX b1; have YQ := YH.out.later b1; have x0_ := YQ.cells 0 _ rfl; have x1_ := YQ.cells 1 _ rfl; have x2_ := YQ.cells 2 _ rfl; have x3_ := YQ.cells 3 _ rfl; have BQ := b1; clear b1 YQ)
              (try go_wp2_with fail)
              refine hK.out _ _ ?_ (fun hHeld2 => ?_)
              · (try dsimp only); go_keep
              clear hK K
              try simp only [Act.put, List.getElem_toArray, List.getElem_cons_zero, List.getElem_cons_succ, List.setIfInBounds_toArray, List.set_cons_zero, List.set_cons_succ]
              refine wpAnyH_take (i := 3) (v := ?_) rfl (by kernel_rfl) (by kernel_rfl) (by kernel_rfl) (fun _ _ _ h => h) (Or.inl ⟨by first | kernel_rfl | rfl, ?_⟩) (by assumption) ?_
              rotate_left
              · intro wx hSw; (try dsimp only at hSw); go_simp; first | done | with_reducible rfl
              try simp only [Act.put, List.getElem_toArray, List.getElem_cons_zero, List.getElem_cons_succ, List.setIfInBounds_toArray, List.set_cons_zero, List.set_cons_succ]
              refine wpAnyH_take (i := 4) (v := ?_) rfl (by kernel_rfl) (by kernel_rfl) (by kernel_rfl) (fun _ _ _ h => h) (Or.inl ⟨by first | kernel_rfl | rfl, ?_⟩) (by assumption) ?_
              rotate_left
              · intro wx hSw; (try dsimp only at hSw); go_simp; first | done | with_reducible rfl
              try simp only [Act.put, List.getElem_toArray, List.getElem_cons_zero, List.getElem_cons_succ, List.setIfInBounds_toArray, List.set_cons_zero, List.set_cons_succ]
              refine wpAnyH_take (i := 5) (v := undef) rfl (by kernel_rfl) (by kernel_rfl) (by kernel_rfl) (fun _ _ _ h => h) (Or.inr ⟨by kernel_rfl, rfl⟩) (by assumption) ?_
              try simp only [Act.put, List.getElem_toArray, List.getElem_cons_zero, List.getElem_cons_succ, List.setIfInBounds_toArray, List.set_cons_zero, List.set_cons_succ]
              refine wpAnyH_take (i := 6) (v := undef) rfl (by kernel_rfl) (by kernel_rfl) (by kernel_rfl) (fun _ _ _ h => h) (Or.inr ⟨by kernel_rfl, rfl⟩) (by assumption) ?_
              try simp only [Act.put, List.getElem_toArray, List.getElem_cons_zero, List.getElem_cons_succ, List.setIfInBounds_toArray, List.set_cons_zero, List.set_cons_succ]
              refine wpAnyH_take (i := 7) (v := undef) rfl (by kernel_rfl) (by kernel_rfl) (by kernel_rfl) (fun _ _ _ h => h) (Or.inr ⟨by kernel_rfl, rfl⟩) (by assumption) ?_
              try simp only [Act.put, List.getElem_toArray, List.getElem_cons_zero, List.getElem_cons_succ, List.setIfInBounds_toArray, List.set_cons_zero, List.set_cons_succ]
              refine wpAnyH_take (i := 8) (v := undef) rfl (by kernel_rfl) (by kernel_rfl) (by kernel_rfl) (fun _ _ _ h => h) (Or.inr ⟨by kernel_rfl, rfl⟩) (by assumption) ?_
              try simp only [Act.put, List.getElem_toArray, List.getElem_cons_zero, List.getElem_cons_succ, List.setIfInBounds_toArray, List.set_cons_zero, List.set_cons_succ]
              refine wpAnyH_take (i := 9) (v := undef) rfl (by kernel_rfl) (by kernel_rfl) (by kernel_rfl) (fun _ _ _ h => h) (Or.inr ⟨by kernel_rfl, rfl⟩) (by assumption) ?_
              try simp only [Act.put, List.getElem_toArray, List.getElem_cons_zero, List.getElem_cons_succ, List.setIfInBounds_toArray, List.set_cons_zero, List.set_cons_succ]
              refine wpAnyH_take (i := 10) (v := undef) rfl (by kernel_rfl) (by kernel_rfl) (by kernel_rfl) (fun _ _ _ h => h) (Or.inr ⟨by kernel_rfl, rfl⟩) (by assumption) ?_
              try simp only [Act.put, List.getElem_toArray, List.getElem_cons_zero, List.getElem_cons_succ, List.setIfInBounds_toArray, List.set_cons_zero, List.set_cons_succ]
              refine wpAnyH_take (i := 11) (v := undef) rfl (by kernel_rfl) (by kernel_rfl) (by kernel_rfl) (fun _ _ _ h => h) (Or.inr ⟨by kernel_rfl, rfl⟩) (by assumption) ?_
              try simp only [Act.put, List.getElem_toArray, List.getElem_cons_zero, List.getElem_cons_succ, List.setIfInBounds_toArray, List.set_cons_zero, List.set_cons_succ]
              refine wpAnyH_take (i := 12) (v := undef) rfl (by kernel_rfl) (by kernel_rfl) (by kernel_rfl) (fun _ _ _ h => h) (Or.inr ⟨by kernel_rfl, rfl⟩) (by assumption) ?_
              try simp only [Act.put, List.getElem_toArray, List.getElem_cons_zero, List.getElem_cons_succ, List.setIfInBounds_toArray, List.set_cons_zero, List.set_cons_succ]
              refine wpAnyH_take (i := 13) (v := undef) rfl (by kernel_rfl) (by kernel_rfl) (by kernel_rfl) (fun _ _ _ h => h) (Or.inr ⟨by kernel_rfl, rfl⟩) (by assumption) ?_
              try simp only [Act.put, List.getElem_toArray, List.getElem_cons_zero, List.getElem_cons_succ, List.setIfInBounds_toArray, List.set_cons_zero, List.set_cons_succ]
              refine wpAnyH_take (i := 14) (v := ?_) rfl (by kernel_rfl) (by kernel_rfl) (by kernel_rfl) (fun _ _ _ h => h) (Or.inl ⟨by first | kernel_rfl | rfl, ?_⟩) (by assumption) ?_
              rotate_left
              · intro wx hSw; (try dsimp only at hSw); go_simp; first | done | with_reducible rfl
              try simp only [Act.put, List.getElem_toArray, List.getElem_cons_zero, List.getElem_cons_succ, List.setIfInBounds_toArray, List.set_cons_zero, List.set_cons_succ]
              refine wpAnyH_done (by kernel_rfl) ?_ _
              refine NoPanic.normal ?_

              go_wp2
              go_ret
              exact IffB.no G.out (chainX w BA.out BQ)
      · have G := Lib.hid (NOT.out (fun c => q1 (by rw [← hF]; exact c.1)))
        have d1 : (fi != nxF l k) = true := by simpa using q1
        clear NOT STEP hL hF hA hZ q1 NX
        generalize nxF l k = x at *
        go_wp2
        go_ret
        exact IffB.no G.out BA.out
    · obtain rfl : k = n := by omega
      have G := Lib.hid (ALL.out HR.out)
      clear hw
      go_wp2
      go_ret
      exact IffB.yes G.out BH.out
end Go.Proofs.Ythimpcfodbmhkaa.Ac
