/-
  HeardOf in the model.
-/
import Derived.Test.YthimpcfodbmhkaaHrdM
namespace Go.Proofs.Ythimpcfodbmhkaa.Ac
open Go.RowKit Go.Proofs.Ythimpcfodbmhkaa.GfI Go.Proofs.Ythimpcfodbmhkaa.GfS Go.Proofs.Ythimpcfodbmhkaa.MixC
open Go.Proofs.Ythimpcfodbmhkaa.Gf2 (Ib wpList_append_int)
open Go.Proofs.Ythimpcfodbmhkaa.Rd (lay chain chainX RetW Rdb rows_words rows_wf GOne AnsI AnsR gone_of_own rows_of_words DInterval shape_Interval mk_Interval)
open Go.Proofs.Ythimpcfodbmhkaa.Sg (BxN)
set_option linter.unusedVariables false
set_option linter.unusedSimpArgs false

theorem placeV_ge {l : List Int} {x : Int} : (0 ≤ placeV l x) ↔ x ∈ l := by
  unfold placeV
  split
  · rename_i h; exact ⟨fun _ => h, fun _ => by omega⟩
  · rename_i h; exact ⟨fun q => by omega, fun q => absurd q h⟩
set_option maxRecDepth 100000 in
set_option maxHeartbeats 2000000 in
theorem l13Nodes (a : Option Addr) (cap : Nat) (h : List Int) (w : World) (hl : h.length ≤ 2097152) (hw : Words w a h) :
    Calls Try.prog 76 #[.slice a h.length cap] w (IffB (OutP h) w) := by
  have R := Lib.hid (l00Rises a cap h w hl hw)
  clear hw
  generalize h.length = n at *
  go_enter Try.func76, Try.ntmps76
  go_wp2_with fail
  refine R.out.mono ?_
  rintro e w1 ⟨r, rfl, hr, b1⟩
  have G := Lib.hid (show IffB (OutP h) w (.returned (.bool r)) w1 from ⟨r, rfl, hr, b1⟩)
  clear hr b1
  go_wp2
  go_ret
  exact G.out
theorem outP_ge {h : List Int} (ho : OutP h) : ∀ i, i < h.length → (i : Int) ≤ zF h i
  | 0, hi => by have := inB_iff.1 (ho.2 0 hi); omega
  | i + 1, hi => by have := outP_ge ho i (by omega); have := ho.1 i hi; omega
theorem outP_len {h : List Int} (ho : OutP h) : h.length ≤ 16 := by
  cases hn : h.length with
  | zero => omega
  | succ n =>
    have h1 := outP_ge ho n (by omega)
    have h2 := inB_iff.1 (ho.2 n (by omega))
    omega
set_option maxRecDepth 100000 in
set_option maxHeartbeats 4000000 in
theorem l13Heard (v : DInterval) (a0_2 : Option Addr) (c0_2 : Nat) (b : Option Addr) (cb : Nat) (h : List Int) (w : World) (hl : v.acting.length ≤ 2097152) (hh : h.length ≤ 2097152) (ho : OutP h) (ha : Words w a0_2 v.acting) (hb : Words w b h) :
    Calls Try.prog 77 #[.agg #[.int .i64 v.first, .int .i64 v.last, .slice a0_2 v.acting.length c0_2, .bool v.may], .slice b h.length cb] w (ListR (hrdV v.acting h) w) := by
  have LY := lay w (.cells #[.int .i64 v.first, .int .i64 v.last, .slice a0_2 v.acting.length c0_2, .bool v.may] 38)
  have YN := BxN.new w #[.int .i64 v.first, .int .i64 v.last, .slice a0_2 v.acting.length c0_2, .bool v.may] 38
  have SZ : (w.alloc (.cells #[.int .i64 v.first, .int .i64 v.last, .slice a0_2 v.acting.length c0_2, .bool v.may] 38)).heap.size = w.heap.size + 1 := by simp
  have JB := lay (w.alloc (.cells #[.int .i64 v.first, .int .i64 v.last, .slice a0_2 v.acting.length c0_2, .bool v.may] 38)) (.cells #[] 2)
  rw [SZ] at JB
  have YH := Lib.hid (fun w' (bb : Below (w.heap.size + 1) (w.alloc (.cells #[.int .i64 v.first, .int .i64 v.last, .slice a0_2 v.acting.length c0_2, .bool v.may] 38)) w') => YN.later (by rw [SZ]; exact bb))
  have LH := Lib.hid (fun w' (bb : Below (w.heap.size + 1) (w.alloc (.cells #[.int .i64 v.first, .int .i64 v.last, .slice a0_2 v.acting.length c0_2, .bool v.may] 38)) w') => LY.trans (bb.mono (by omega)))
  have J0 := World.ownsRow_made (base := w.heap.size + 1) (e := 2) (size := 1) (w.alloc (.cells #[.int .i64 v.first, .int .i64 v.last, .slice a0_2 v.acting.length c0_2, .bool v.may] 38)) #[] 0 (by simp) (by unfold maxLen; omega) (by simp)
  rw [SZ] at J0
  have J0 := Lib.hid (show Ib (w.heap.size + 1) ((w.alloc (.cells #[.int .i64 v.first, .int .i64 v.last, .slice a0_2 v.acting.length c0_2, .bool v.may] 38)).alloc (.cells #[] 2)) (.slice (some ⟨w.heap.size + 1, 0, none⟩) 0 0) (hrdV v.acting (h.take 0)) from J0)
  have JB := Lib.hid JB
  have HA := Lib.hid (fun w' (bb : Below (w.heap.size + 1) (w.alloc (.cells #[.int .i64 v.first, .int .i64 v.last, .slice a0_2 v.acting.length c0_2, .bool v.may] 38)) w') => ha.below (LH.out w' bb))
  have HB := Lib.hid (fun w' (bb : Below (w.heap.size + 1) (w.alloc (.cells #[.int .i64 v.first, .int .i64 v.last, .slice a0_2 v.acting.length c0_2, .bool v.may] 38)) w') => hb.below (LH.out w' bb))
  have O2 := Lib.hid ho.2
  have HL := outP_len ho
  have VL := Lib.hid (fun (k : Nat) => show (hrdV v.acting (h.take k)).length ≤ 16 from by
    have h1 : (hrdV v.acting (h.take k)).length ≤ (h.take k).length := List.length_filter_le ..
    rw [List.length_take] at h1; omega)
  have VA := Lib.hid (show hrdV v.acting (h.take h.length) = hrdV v.acting h by rw [List.take_length])
  have SN := Lib.hid (fun k (hk : k < h.length) => hrdV_snoc v.acting h hk)
  obtain ⟨n, hn⟩ : ∃ n, h.length = n := ⟨_, rfl⟩
  have HN := Lib.hid hn
  rw [hn] at hh HL VA ⊢
  clear ha hb ho LY YN hn SZ
  go_enter Try.func77, Try.ntmps77
  go_wp2
  go_loopw [5, 6] (fun u i wr => ∃ k : Nat, k ≤ n ∧ i = .int .i64 k ∧ Ib (w.heap.size + 1) wr u (hrdV v.acting (h.take k)) ∧ Below (w.heap.size + 1) (w.alloc (.cells #[.int .i64 v.first, .int .i64 v.last, .slice a0_2 v.acting.length c0_2, .bool v.may] 38)) wr) (fun _ i _ => n - (intOf i).toNat)
  case atStart => exact ⟨0, by omega, rfl, J0.out, JB.out⟩
  case round =>
    clear J0 JB
    obtain ⟨k, hk, rfl, J, hw⟩ := hrel
    have BH := Lib.hid hw
    have JH := Lib.hid J
    have LE : w.heap.size + 1 ≤ wr.heap.size := by have := hw.size; simpa using this
    by_cases hlt : k < n
    · have hkz : k < h.length := by rw [HN.out]; exact hlt
      obtain ⟨b0, off, rfl, hB, hc⟩ := (HB.out wr hw).resolve_left (by intro e; rw [e] at hkz; simp at hkz)
      have c0 : wr.cell? ⟨b0, off + k, none⟩ = some (.int .i64 (zF h k)) := hc k hkz
      have yb := (YH.out wr hw).cells 2 _ rfl
      have CELL := Lib.hid (fun w' (bb : Below wr.heap.size wr w') => (bb.cell (p := ⟨b0, off + k, none⟩) hB).trans c0)
      have x0 : (0 : Int) ≤ zF h k := by have := inB_iff.1 (O2.out k hkz); omega
      have PL := fun q => l12PlaceE a0_2 c0_2 v.acting (zF h k) (wr.drewN q) hl x0 ((HA.out wr hw).below (Rd.below_drewN' (Below.refl _ _) q))
      unfold RetE at PL
      have SNk := SN.out k hkz
      have VLk := VL.out k
      have GE := placeV_ge (l := v.acting) (x := zF h k)
      have j0 : (0 : Int) ≤ (k : Int) := by omega
      have j1 : (k : Int) < (n : Int) := by omega
      clear hc hw hkz J
      by_cases m : zF h k ∈ v.acting
      · rw [if_pos m] at SNk
        have SNk := Lib.hid SNk
        have d := decide_eq_true (GE.2 m)
        generalize placeV v.acting (zF h k) = pv at *
        have PL := Lib.hid PL
        clear GE m x0
        generalize hx : zF h k = x at *
        clear hx
        go_wp2
        go_quiet (((go_at_call 59; exact Calls.quiet_of_same (PL.out _))))
        have BQ := Lib.hid (Rd.below_drewN' (Below.refl wr.heap.size wr) nq)
        have JQ := Lib.hid (JH.out.below BQ.out)
        have c1 := CELL.out _ BQ.out
        generalize hrdV v.acting (h.take k) = zs at *
        go_wp2_with (at_builtin; refine wpList_append_int rfl (.tmp 22) (.tmp 27) rfl (w.heap.size + 1) _ zs rfl x JQ.out rfl (by omega) (by exact LE) ?_; intro v' w3 J3 g3)
        have B3 := Lib.hid ((BH.out.trans (BQ.out.mono LE)).trans (JQ.out.grown (by exact LE) _ g3))
        have J3H := Lib.hid J3
        clear J3 g3
        go_roundw
        case rel => exact ⟨k + 1, by omega, by go_num, by rw [SNk.out]; exact J3H.out, B3.out⟩
        case measure => simp [intOf]; omega
      · rw [if_neg m, List.append_nil] at SNk
        have SNk := Lib.hid SNk
        have d := decide_eq_false (fun q => m (GE.1 q))
        generalize placeV v.acting (zF h k) = pv at *
        have PL := Lib.hid PL
        clear GE m x0
        generalize hx : zF h k = x at *
        clear hx
        go_wp2
        go_quiet (((go_at_call 59; exact Calls.quiet_of_same (PL.out _))))
        have BQ := Lib.hid (Rd.below_drewN' (Below.refl wr.heap.size wr) nq)
        have JQ := Lib.hid (JH.out.below BQ.out)
        have B3 := Lib.hid (BH.out.trans (BQ.out.mono LE))
        go_wp2
        go_roundw
        case rel => exact ⟨k + 1, by omega, by go_num, by rw [SNk.out]; exact JQ.out, B3.out⟩
        case measure => simp [intOf]; omega
    · obtain rfl : k = n := by omega
      rw [VA.out] at JH
      have G := Lib.hid (ListR.of (w0 := w) (Gf2.Ib.mono JH.out (by omega)) (LH.out wr BH.out))
      clear hw J
      go_wp2
      go_ret
      exact G.out
set_option maxRecDepth 100000 in
set_option maxHeartbeats 4000000 in
theorem specHeardOf (v : DInterval) (a0_2 : Option Addr) (c0_2 : Nat) (b : Option Addr) (cb : Nat) (h : List Int) (w : World) {fr fr2 : Bool} {lo lo2 : Nat} (hl : v.acting.length ≤ 2097152) (hc : v.acting.length ≤ c0_2) (hh : h.length ≤ 2097152) (ha : Rd.Rows fr lo w a0_2 v.acting) (hb : Rd.Rows fr2 lo2 w b h) :
    Calls Try.prog 48 #[.agg #[.int .i64 v.first, .int .i64 v.last, .slice a0_2 v.acting.length c0_2, .bool v.may], .slice b h.length cb] w (AnsR (heaV v.acting h) w) := by
  have LY := lay w (.cells #[.int .i64 v.first, .int .i64 v.last, .slice a0_2 v.acting.length c0_2, .bool v.may] 38)
  have YN := BxN.new w #[.int .i64 v.first, .int .i64 v.last, .slice a0_2 v.acting.length c0_2, .bool v.may] 38
  have LH := Lib.hid LY
  have YH := Lib.hid YN
  have wf := rows_wf hb
  have OK := Lib.hid (fun w' (bb : Below (w.alloc (.cells #[.int .i64 v.first, .int .i64 v.last, .slice a0_2 v.acting.length c0_2, .bool v.may] 38)).heap.size (w.alloc (.cells #[.int .i64 v.first, .int .i64 v.last, .slice a0_2 v.acting.length c0_2, .bool v.may] 38)) w') => l12Ok a0_2 c0_2 v.acting w' hl hc (rows_words (ha.below (LH.out.trans (bb.mono LH.out.size)))))
  have NK := Lib.hid (fun w' (bb : Below (w.alloc (.cells #[.int .i64 v.first, .int .i64 v.last, .slice a0_2 v.acting.length c0_2, .bool v.may] 38)).heap.size (w.alloc (.cells #[.int .i64 v.first, .int .i64 v.last, .slice a0_2 v.acting.length c0_2, .bool v.may] 38)) w') => l13Nodes b cb h w' hh (rows_words (hb.below (LH.out.trans (bb.mono LH.out.size)))))
  by_cases hp : ActP v.acting
  · have OK := Lib.hid (fun w' bb => (OK.out w' bb).mono fun e w' q => (show e = .returned (.bool true) ∧ Below _ _ w' from by obtain ⟨r, e1, hr, b⟩ := q; rw [hr.2 hp] at e1; exact ⟨e1, b⟩))
    by_cases ho : OutP h
    · have NK := Lib.hid (fun w' bb => (NK.out w' bb).mono fun e w' q => (show e = .returned (.bool true) ∧ Below _ _ w' from by obtain ⟨r, e1, hr, b⟩ := q; rw [hr.2 ho] at e1; exact ⟨e1, b⟩))
      have CT := Lib.hid (fun w' (bb : Below (w.alloc (.cells #[.int .i64 v.first, .int .i64 v.last, .slice a0_2 v.acting.length c0_2, .bool v.may] 38)).heap.size (w.alloc (.cells #[.int .i64 v.first, .int .i64 v.last, .slice a0_2 v.acting.length c0_2, .bool v.may] 38)) w') => l13Heard v a0_2 c0_2 b cb h w' hl hh ho (rows_words (ha.below (LH.out.trans (bb.mono LH.out.size)))) (rows_words (hb.below (LH.out.trans (bb.mono LH.out.size)))))
      have FIN := Lib.hid (fun (a2 : Option Addr) (c2 : Nat) (w1 w2 : World) (b1 : Below (w.alloc (.cells #[.int .i64 v.first, .int .i64 v.last, .slice a0_2 v.acting.length c0_2, .bool v.may] 38)).heap.size (w.alloc (.cells #[.int .i64 v.first, .int .i64 v.last, .slice a0_2 v.acting.length c0_2, .bool v.may] 38)) w1) (K : Words w2 a2 (hrdV v.acting h)) (b2 : Below w1.heap.size w1 w2) => show AnsR (heaV v.acting h) w (.returned (.slice a2 (hrdV v.acting h).length c2)) w2 from by
        rw [show heaV v.acting h = hrdV v.acting h from if_pos ⟨hp, ho⟩]
        exact ⟨a2, c2, rfl, rows_of_words K (fun z hz => wf z (List.mem_filter.1 hz).1), chainX w (LH.out.trans (b1.mono LH.out.size)) b2⟩)
      have y2 := YN.cells 2 _ rfl
      clear LY YN LH ha hb wf
      generalize v.acting.length = n at *
      generalize h.length = m at *
      go_enter Try.func48, Try.ntmps48
      go_wp2_with fail
      refine (OK.out _ (Below.refl _ _)).mono ?_
      rintro e w1 ⟨rfl, b1⟩
      have B1 := Lib.hid (b1)
      have y1_0 := (YH.out.later B1.out).cells 0 _ rfl
      have y1_1 := (YH.out.later B1.out).cells 1 _ rfl
      have y1_2 := (YH.out.later B1.out).cells 2 _ rfl
      have y1_3 := (YH.out.later B1.out).cells 3 _ rfl
      clear b1
      go_wp2_with fail
      refine (NK.out _ B1.out).mono ?_
      rintro e w2 ⟨rfl, b2⟩
      have B2 := Lib.hid (chainX _ B1.out b2)
      have y2_0 := (YH.out.later B2.out).cells 0 _ rfl
      have y2_1 := (YH.out.later B2.out).cells 1 _ rfl
      have y2_2 := (YH.out.later B2.out).cells 2 _ rfl
      have y2_3 := (YH.out.later B2.out).cells 3 _ rfl
      clear b2
      go_wp2_with fail
      refine (CT.out _ B2.out).mono ?_
      rintro e w3 ⟨a3, c3, rfl, K3, b3⟩
      have G := Lib.hid (FIN.out a3 c3 _ w3 B2.out K3 b3)
      clear K3 b3
      generalize (hrdV v.acting h).length = z at *
      go_wp2
      go_ret
      exact G.out
    · have NK := Lib.hid (fun w' bb => (NK.out w' bb).mono fun e w' q => (show e = .returned (.bool false) ∧ Below _ _ w' from by obtain ⟨r, e1, hr, b⟩ := q; cases r; exact ⟨e1, b⟩; exact absurd (hr.1 rfl) ho))
      have NP : ¬ (ActP v.acting ∧ OutP h) := fun q => ho q.2
      have FIN := Lib.hid (fun (w1 : World) (b1 : Below (w.alloc (.cells #[.int .i64 v.first, .int .i64 v.last, .slice a0_2 v.acting.length c0_2, .bool v.may] 38)).heap.size (w.alloc (.cells #[.int .i64 v.first, .int .i64 v.last, .slice a0_2 v.acting.length c0_2, .bool v.may] 38)) w1) => show AnsR (heaV v.acting h) w (.returned (.slice (some ⟨w1.heap.size, 0, none⟩) 0 0)) (w1.alloc (.cells #[] 2)) from by
        rw [show heaV v.acting h = [] from if_neg NP]
        exact ⟨_, 0, rfl, .inl rfl, chainX w (LH.out.trans (b1.mono LH.out.size)) (lay _ _)⟩)
      clear NP
      have y2 := YN.cells 2 _ rfl
      clear LY YN LH ha hb wf
      generalize v.acting.length = n at *
      generalize h.length = m at *
      go_enter Try.func48, Try.ntmps48
      go_wp2_with fail
      refine (OK.out _ (Below.refl _ _)).mono ?_
      rintro e w1 ⟨rfl, b1⟩
      have B1 := Lib.hid (b1)
      have y1_0 := (YH.out.later B1.out).cells 0 _ rfl
      have y1_1 := (YH.out.later B1.out).cells 1 _ rfl
      have y1_2 := (YH.out.later B1.out).cells 2 _ rfl
      have y1_3 := (YH.out.later B1.out).cells 3 _ rfl
      clear b1
      go_wp2_with fail
      refine (NK.out _ B1.out).mono ?_
      rintro e w2 ⟨rfl, b2⟩
      have B2 := Lib.hid (chainX _ B1.out b2)
      have G := Lib.hid (FIN.out _ B2.out)
      clear b2
      go_wp2
      go_ret
      exact G.out
  · have OK := Lib.hid (fun w' bb => (OK.out w' bb).mono fun e w' q => (show e = .returned (.bool false) ∧ Below _ _ w' from by obtain ⟨r, e1, hr, b⟩ := q; cases r; exact ⟨e1, b⟩; exact absurd (hr.1 rfl) hp))
    have NP : ¬ (ActP v.acting ∧ OutP h) := fun q => hp q.1
    have FIN := Lib.hid (fun (w1 : World) (b1 : Below (w.alloc (.cells #[.int .i64 v.first, .int .i64 v.last, .slice a0_2 v.acting.length c0_2, .bool v.may] 38)).heap.size (w.alloc (.cells #[.int .i64 v.first, .int .i64 v.last, .slice a0_2 v.acting.length c0_2, .bool v.may] 38)) w1) => show AnsR (heaV v.acting h) w (.returned (.slice (some ⟨w1.heap.size, 0, none⟩) 0 0)) (w1.alloc (.cells #[] 2)) from by
      rw [show heaV v.acting h = [] from if_neg NP]
      exact ⟨_, 0, rfl, .inl rfl, chainX w (LH.out.trans (b1.mono LH.out.size)) (lay _ _)⟩)
    clear NP
    have y2 := YN.cells 2 _ rfl
    clear LY YN LH ha hb wf
    generalize v.acting.length = n at *
    generalize h.length = m at *
    go_enter Try.func48, Try.ntmps48
    go_wp2_with fail
    refine (OK.out _ (Below.refl _ _)).mono ?_
    rintro e w1 ⟨rfl, b1⟩
    have B1 := Lib.hid (b1)
    have G := Lib.hid (FIN.out _ B1.out)
    clear b1
    go_wp2
    go_ret
    exact G.out
end Go.Proofs.Ythimpcfodbmhkaa.Ac
