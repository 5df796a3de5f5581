/-
  HeardOf in the program.
-/
import Derived.Test.YthimpcfodbmhkaaHrdI
namespace Go.Proofs.Ythimpcfodbmhkaa.Ac
open Go.RowKit Go.Proofs.Ythimpcfodbmhkaa.GfI Go.Proofs.Ythimpcfodbmhkaa.GfS Go.Proofs.Ythimpcfodbmhkaa.MixC
open Go.Proofs.Ythimpcfodbmhkaa.Gf2 (Ib wpList_append_int)
open Go.Proofs.Ythimpcfodbmhkaa.Rd (lay chain chainX RetW Rdb rows_words rows_wf GOne AnsI AnsR gone_of_own rows_of_words DInterval shape_Interval mk_Interval)
open Go.Proofs.Ythimpcfodbmhkaa.Sg (BxN)
set_option linter.unusedVariables false
set_option linter.unusedSimpArgs false

theorem cap_of {B : Nat} {w : World} {a : Option Addr} {c : Nat} {zs : List Int} (h : Ib B w (.slice a zs.length c) zs) : zs.length ≤ c := by
  rcases h.2 with ⟨e, e0⟩ | ⟨g, cap, cur, e, _, _, hn, _⟩
  · omega
  · cases e; exact hn
set_option maxRecDepth 100000 in
set_option maxHeartbeats 4000000 in
theorem implHeardOf (v : DInterval) (a0_2 : Option Addr) (c0_2 : Nat) (b : Option Addr) (cb : Nat) (h : List Int) (w : World) {fr fr2 : Bool} {lo lo2 : Nat} (hl : v.acting.length ≤ 2097152) (hc : v.acting.length ≤ c0_2) (hh : h.length ≤ 2097152) (ha : Rd.Rows fr lo w a0_2 v.acting) (hb : Rd.Rows fr2 lo2 w b h) :
    Calls Try.prog 50 #[.agg #[.int .i64 v.first, .int .i64 v.last, .slice a0_2 v.acting.length c0_2, .bool v.may], .slice b h.length cb] w (AnsI (heaV v.acting h) w) := by
  have LY := lay w (.cells #[.int .i64 v.first, .int .i64 v.last, .slice a0_2 v.acting.length c0_2, .bool v.may] 38)
  have YN := BxN.new w #[.int .i64 v.first, .int .i64 v.last, .slice a0_2 v.acting.length c0_2, .bool v.may] 38
  have LH := Lib.hid LY
  have YH := Lib.hid YN
  have wf := rows_wf hb
  have OK := Lib.hid (fun w' (bb : Below (w.alloc (.cells #[.int .i64 v.first, .int .i64 v.last, .slice a0_2 v.acting.length c0_2, .bool v.may] 38)).heap.size (w.alloc (.cells #[.int .i64 v.first, .int .i64 v.last, .slice a0_2 v.acting.length c0_2, .bool v.may] 38)) w') => ((implActingOk a0_2 c0_2 v.acting w' hl hc (ha.below (LH.out.trans (bb.mono LH.out.size)))).mono fun _ _ q => IffB.ret q))
  have NK := Lib.hid (fun w' (bb : Below (w.alloc (.cells #[.int .i64 v.first, .int .i64 v.last, .slice a0_2 v.acting.length c0_2, .bool v.may] 38)).heap.size (w.alloc (.cells #[.int .i64 v.first, .int .i64 v.last, .slice a0_2 v.acting.length c0_2, .bool v.may] 38)) w') => nodesOk b cb h w' hh (rows_words (hb.below (LH.out.trans (bb.mono LH.out.size)))))
  by_cases hp : ActP v.acting
  · have OK := Lib.hid (fun w' bb => (OK.out w' bb).mono fun e w' q => (show e = .returned (.bool true) ∧ Below _ _ w' from by obtain ⟨r, e1, hr, b⟩ := q; rw [hr.2 hp] at e1; exact ⟨e1, b⟩))
    by_cases ho : OutP h
    · have NK := Lib.hid (fun w' bb => (NK.out w' bb).mono fun e w' q => (show e = .returned (.bool true) ∧ Below _ _ w' from by obtain ⟨r, e1, hr, b⟩ := q; rw [hr.2 ho] at e1; exact ⟨e1, b⟩))
      have OA := Lib.hid (fun w' (bb : Below (w.alloc (.cells #[.int .i64 v.first, .int .i64 v.last, .slice a0_2 v.acting.length c0_2, .bool v.may] 38)).heap.size (w.alloc (.cells #[.int .i64 v.first, .int .i64 v.last, .slice a0_2 v.acting.length c0_2, .bool v.may] 38)) w') => onlyA a0_2 b c0_2 cb v.acting h w' (by have := hp.1; omega) hh (rows_words (ha.below (LH.out.trans (bb.mono LH.out.size)))) (rows_words (hb.below (LH.out.trans (bb.mono LH.out.size)))))
      have OL : (onlyL v.acting h).length ≤ 7 := by have := hp.1; unfold onlyL; simp; omega
      have OLH := Lib.hid OL
      have wfo : ∀ z, z ∈ onlyL v.acting h → (Lit.int .i64 z).wf = true := fun z hz => by
        obtain ⟨y, hy, rfl⟩ := List.mem_map.1 hz
        unfold onlyF; split
        · rename_i m; exact wf y m
        · rfl
      have CT := Lib.hid (fun (a2 : Option Addr) (c2 : Nat) (w1 w2 : World) (J : Ib w1.heap.size w2 (.slice a2 (onlyL v.acting h).length c2) (onlyL v.acting h)) => nodesOne a2 c2 (onlyL v.acting h) w2 (by have := OLH.out; omega) (cap_of J) ((gone_of_own (Gf2.Ib.own (w0 := w1) J (Nat.le_refl _)).1 wfo).rows))
      have FIN := Lib.hid (fun (a2 : Option Addr) (c2 : Nat) (w1 w2 : World) (b1 : Below (w.alloc (.cells #[.int .i64 v.first, .int .i64 v.last, .slice a0_2 v.acting.length c0_2, .bool v.may] 38)).heap.size (w.alloc (.cells #[.int .i64 v.first, .int .i64 v.last, .slice a0_2 v.acting.length c0_2, .bool v.may] 38)) w1) (J : Ib w1.heap.size w2 (.slice a2 (srt (nodl (onlyL v.acting h))).length c2) (srt (nodl (onlyL v.acting h)))) (b2 : Below w1.heap.size w1 w2) => show AnsI (heaV v.acting h) w (.returned (.slice a2 (srt (nodl (onlyL v.acting h))).length c2)) w2 from by
        have bw : Below w.heap.size w w1 := LH.out.trans (b1.mono LH.out.size)
        rw [show heaV v.acting h = hrdV v.acting h from if_pos ⟨hp, ho⟩]
        rw [heard_eq hp ho] at J ⊢
        exact ⟨a2, c2, rfl, gone_of_own (Gf2.Ib.own (w0 := w) J bw.size).1 (fun z hz => wf z (List.mem_filter.1 hz).1), chainX w bw b2⟩)
      clear OL wfo
      have y2 := YN.cells 2 _ rfl
      clear LY YN LH ha hb wf
      generalize v.acting.length = n at *
      generalize h.length = m at *
      go_enter Try.func50, Try.ntmps50
      go_wp2_with fail
      refine (OK.out _ (Below.refl _ _)).mono ?_
      rintro e w1 ⟨rfl, b1⟩
      have B1 := Lib.hid (b1)
      have y1_0 := (YH.out.later B1.out).cells 0 _ rfl
      have y1_1 := (YH.out.later B1.out).cells 1 _ rfl
      have y1_2 := (YH.out.later B1.out).cells 2 _ rfl
      have y1_3 := (YH.out.later B1.out).cells 3 _ rfl
      clear b1
      go_wp2_with fail
      refine (NK.out _ B1.out).mono ?_
      rintro e w2 ⟨rfl, b2⟩
      have B2 := Lib.hid (chainX _ B1.out b2)
      have y2_0 := (YH.out.later B2.out).cells 0 _ rfl
      have y2_1 := (YH.out.later B2.out).cells 1 _ rfl
      have y2_2 := (YH.out.later B2.out).cells 2 _ rfl
      have y2_3 := (YH.out.later B2.out).cells 3 _ rfl
      clear b2
      go_wp2_with fail
      refine (OA.out _ B2.out).mono ?_
      rintro e w3 ⟨a3, c3, rfl, -, J3, b3⟩
      have B3 := Lib.hid (chainX _ B2.out b3)
      have CT := Lib.hid (CT.out a3 c3 _ w3 J3)
      clear J3 b3
      generalize (onlyL v.acting h).length = z at *
      go_wp2_with fail
      refine CT.out.mono ?_
      rintro e w4 ⟨v4, rfl, a4, c4, rfl, -, J4, b4⟩
      have G := Lib.hid (FIN.out a4 c4 _ w4 B3.out J4 b4)
      clear J4 b4
      generalize (srt (nodl (onlyL v.acting h))).length = z4 at *
      go_wp2
      go_ret
      exact G.out
    · have NK := Lib.hid (fun w' bb => (NK.out w' bb).mono fun e w' q => (show e = .returned (.bool false) ∧ Below _ _ w' from by obtain ⟨r, e1, hr, b⟩ := q; cases r; exact ⟨e1, b⟩; exact absurd (hr.1 rfl) ho))
      have NP : ¬ (ActP v.acting ∧ OutP h) := fun q => ho q.2
      have FIN := Lib.hid (fun (w1 : World) (b1 : Below (w.alloc (.cells #[.int .i64 v.first, .int .i64 v.last, .slice a0_2 v.acting.length c0_2, .bool v.may] 38)).heap.size (w.alloc (.cells #[.int .i64 v.first, .int .i64 v.last, .slice a0_2 v.acting.length c0_2, .bool v.may] 38)) w1) => show AnsI (heaV v.acting h) w (.returned (.slice none 0 0)) w1 from by
        rw [show heaV v.acting h = [] from if_neg NP]
        exact ⟨none, 0, rfl, .inl rfl, LH.out.trans (b1.mono LH.out.size)⟩)
      clear NP
      have y2 := YN.cells 2 _ rfl
      clear LY YN LH ha hb wf
      generalize v.acting.length = n at *
      generalize h.length = m at *
      go_enter Try.func50, Try.ntmps50
      go_wp2_with fail
      refine (OK.out _ (Below.refl _ _)).mono ?_
      rintro e w1 ⟨rfl, b1⟩
      have B1 := Lib.hid (b1)
      have y1_0 := (YH.out.later B1.out).cells 0 _ rfl
      have y1_1 := (YH.out.later B1.out).cells 1 _ rfl
      have y1_2 := (YH.out.later B1.out).cells 2 _ rfl
      have y1_3 := (YH.out.later B1.out).cells 3 _ rfl
      clear b1
      go_wp2_with fail
      refine (NK.out _ B1.out).mono ?_
      rintro e w2 ⟨rfl, b2⟩
      have B2 := Lib.hid (chainX _ B1.out b2)
      have G := Lib.hid (FIN.out _ B2.out)
      clear b2
      go_wp2
      go_ret
      exact G.out
  · have OK := Lib.hid (fun w' bb => (OK.out w' bb).mono fun e w' q => (show e = .returned (.bool false) ∧ Below _ _ w' from by obtain ⟨r, e1, hr, b⟩ := q; cases r; exact ⟨e1, b⟩; exact absurd (hr.1 rfl) hp))
    have NP : ¬ (ActP v.acting ∧ OutP h) := fun q => hp q.1
    have FIN := Lib.hid (fun (w1 : World) (b1 : Below (w.alloc (.cells #[.int .i64 v.first, .int .i64 v.last, .slice a0_2 v.acting.length c0_2, .bool v.may] 38)).heap.size (w.alloc (.cells #[.int .i64 v.first, .int .i64 v.last, .slice a0_2 v.acting.length c0_2, .bool v.may] 38)) w1) => show AnsI (heaV v.acting h) w (.returned (.slice none 0 0)) w1 from by
      rw [show heaV v.acting h = [] from if_neg NP]
      exact ⟨none, 0, rfl, .inl rfl, LH.out.trans (b1.mono LH.out.size)⟩)
    clear NP
    have y2 := YN.cells 2 _ rfl
    clear LY YN LH ha hb wf
    generalize v.acting.length = n at *
    generalize h.length = m at *
    go_enter Try.func50, Try.ntmps50
    go_wp2_with fail
    refine (OK.out _ (Below.refl _ _)).mono ?_
    rintro e w1 ⟨rfl, b1⟩
    have B1 := Lib.hid (b1)
    have G := Lib.hid (FIN.out _ B1.out)
    clear b1
    go_wp2
    go_ret
    exact G.out
end Go.Proofs.Ythimpcfodbmhkaa.Ac
