/-
  HeardEnough in the program.
-/
import Derived.Test.YthimpcfodbmhkaaNeedJ
namespace Go.Proofs.Ythimpcfodbmhkaa.Ac
open Go.RowKit Go.Proofs.Ythimpcfodbmhkaa.GfI Go.Proofs.Ythimpcfodbmhkaa.GfS Go.Proofs.Ythimpcfodbmhkaa.MixC
open Go.Proofs.Ythimpcfodbmhkaa.Gf2 (Ib wpList_append_int)
open Go.Proofs.Ythimpcfodbmhkaa.Rd (lay chain chainX RetW Rdb rows_words rows_wf GOne AnsI AnsR gone_of_own rows_of_words DInterval shape_Interval mk_Interval)
open Go.Proofs.Ythimpcfodbmhkaa.Rd (OwnV wpList_append_V wpList_append_Vb ElV undrewX)
open Go.Proofs.Ythimpcfodbmhkaa.Sg (BxN)
set_option linter.unusedVariables false
set_option linter.unusedSimpArgs false

set_option maxRecDepth 100000 in
set_option maxHeartbeats 4000000 in
theorem implHeardEnough (a : Option Addr) (cap : Nat) (l : List DInterval) (kk s : Int) (ah : Option Addr) (ch : Nat) (hd : List Int) (w : World) {fr fr2 : Bool} {lo lo2 : Nat} (hl : l.length ≤ 2097152) (hs : Rdb.sz l ≤ 2097152) (h : Rd.Rows fr lo w a l) (hh : hd.length ≤ 2097152) (hb : Rd.Rows fr2 lo2 w ah hd) :
    Calls Try.prog 52 #[.slice a l.length cap, .int .i64 kk, .int .i64 s, .slice ah hd.length ch] w (IffB (HeP l kk s hd) w) := by
  have L1 := lay w (.cells #[.int .i64 kk] 2)
  have L2 := chainX w L1 (lay (w.alloc (.cells #[.int .i64 kk] 2)) (.cells #[.slice ah hd.length ch] 22))
  have XK := (BxN.new w #[.int .i64 kk] 2).later (lay (w.alloc (.cells #[.int .i64 kk] 2)) (.cells #[.slice ah hd.length ch] 22))
  have XH0 := BxN.new (w.alloc (.cells #[.int .i64 kk] 2)) #[.slice ah hd.length ch] 22
  rw [World.size_alloc] at XH0
  have cK := XK.cells 0 _ rfl
  have cH := XH0.cells 0 _ rfl
  have LW := Lib.hid (fun w' (b : Below ((w.alloc (.cells #[.int .i64 kk] 2)).alloc (.cells #[.slice ah hd.length ch] 22)).heap.size ((w.alloc (.cells #[.int .i64 kk] 2)).alloc (.cells #[.slice ah hd.length ch] 22)) w') => chainX w L2 b)
  have CB := Lib.hid (fun w' (b : Below ((w.alloc (.cells #[.int .i64 kk] 2)).alloc (.cells #[.slice ah hd.length ch] 22)).heap.size ((w.alloc (.cells #[.int .i64 kk] 2)).alloc (.cells #[.slice ah hd.length ch] 22)) w') => And.intro ((XK.later b).cells 0 _ rfl) ((XH0.later b).cells 0 _ rfl))
  have IV := Lib.hid (intervalsOk a cap l ((w.alloc (.cells #[.int .i64 kk] 2)).alloc (.cells #[.slice ah hd.length ch] 22)) hl hs (h.below L2))
  have WI := fun w' => Wi.isWithin kk 1 7 (by omega) w'
  have NK := Lib.hid (fun w' (b : Below ((w.alloc (.cells #[.int .i64 kk] 2)).alloc (.cells #[.slice ah hd.length ch] 22)).heap.size ((w.alloc (.cells #[.int .i64 kk] 2)).alloc (.cells #[.slice ah hd.length ch] 22)) w') => nodesOk ah ch hd w' hh (rows_words (hb.below (LW.out w' b))))
  have SA := Lib.hid (fun w' => startsAt s w')
  have CS := Lib.hid (fun w' (b : Below ((w.alloc (.cells #[.int .i64 kk] 2)).alloc (.cells #[.slice ah hd.length ch] 22)).heap.size ((w.alloc (.cells #[.int .i64 kk] 2)).alloc (.cells #[.slice ah hd.length ch] 22)) w') => ctStart s w'.heap.size a cap l (w'.alloc (.cells #[.int .i64 s] 2)) hl (h.below (chainX w (LW.out w' b) (lay w' _))) (by simp) (by simp))
  have HSZ : ∀ x, x ∈ needL l s → x.acting.length ≤ 2097152 := fun x hx => by
    obtain ⟨i, hi, rfl⟩ := List.getElem_of_mem (List.mem_filter.1 hx).1
    have h1 := Rd.sz_mem (List.getElem?_eq_getElem hi)
    have h2 : Rdb.sz l[i] = Rdb.sz l[i].acting := rfl
    have h3 := Rd.sz_len l[i].acting
    omega
  have NLN : (needL l s).length ≤ 2097152 := Nat.le_trans (List.length_filter_le ..) hl
  have NOx := Lib.hid (fun (hp : IvP l) w' (b : Below ((w.alloc (.cells #[.int .i64 kk] 2)).alloc (.cells #[.slice ah hd.length ch] 22)).heap.size ((w.alloc (.cells #[.int .i64 kk] 2)).alloc (.cells #[.slice ah hd.length ch] 22)) w') => needOf a cap l s w' hl hs (h.below (LW.out w' b)) hp)
  have CL := Lib.hid (fun (a5 : Option Addr) (c5 : Nat) w' w3 (b : Below ((w.alloc (.cells #[.int .i64 kk] 2)).alloc (.cells #[.slice ah hd.length ch] 22)).heap.size ((w.alloc (.cells #[.int .i64 kk] 2)).alloc (.cells #[.slice ah hd.length ch] 22)) w') (V : OwnV w'.heap.size w3 (.slice a5 (needL l s).length c5) (needL l s)) (b3 : Below w'.heap.size w' w3) =>
    ctLack hd kk (w.heap.size + 1) w.heap.size ah ch a5 c5 (needL l s) w3 NLN (OwnV.rows V).2 (XH0.later (chainX _ b b3)).lt (XK.later (chainX _ b b3)).lt ((XH0.later (chainX _ b b3)).cells 0 _ rfl) ((XK.later (chainX _ b b3)).cells 0 _ rfl) hh (hb.below (LW.out w3 (chainX _ b b3))) HSZ)
  clear L1 L2 XK XH0 h hb hs HSZ NLN
  generalize hlen : hd.length = m at *
  generalize l.length = n at *
  clear hlen
  cases q7 : inB kk 1 7
  · rw [q7] at WI
    have WI := Lib.hid WI
    have NO7 := Lib.hid (show ¬ HeP l kk s hd from fun q => by have q1 := q.2.1; rw [q7] at q1; cases q1)
    clear q7
    go_enter Try.func52, Try.ntmps52
    go_wp2_with fail
    refine IV.out.mono ?_
    rintro e w1 ⟨r, rfl, hr, b1⟩
    have B1 := Lib.hid b1
    cases r
    · clear hr b1
      go_wp2
      go_ret
      exact IffB.no NO7.out (LW.out _ B1.out)
    · obtain ⟨k1, h1⟩ := CB.out w1 b1
      clear hr b1
      go_wp2_with fail
      refine (WI.out _).mono ?_
      rintro e w2 ⟨rfl, rfl⟩
      go_wp2
      go_ret
      exact IffB.no NO7.out (LW.out _ B1.out)
  · rw [q7] at WI
    have WI := Lib.hid WI
    have Q7 := Lib.hid q7
    clear q7
    by_cases hs0 : (0 : Int) < s
    · have ds := decide_eq_true hs0
      go_enter Try.func52, Try.ntmps52
      go_wp2_with fail
      refine IV.out.mono ?_
      rintro e w1 ⟨r, rfl, hr, b1⟩
      have B1 := Lib.hid b1
      cases r
      · have G := Lib.hid (show ¬ HeP l kk s hd from fun q => by have := hr.2 q.1; cases this)
        clear hr b1
        go_wp2
        go_ret
        exact IffB.no G.out (LW.out _ B1.out)
      · have IVY := Lib.hid (hr.1 rfl)
        have NO := Lib.hid (NOx.out IVY.out)
        obtain ⟨k1, h1⟩ := CB.out w1 b1
        clear hr b1
        go_wp2_with fail
        refine (WI.out _).mono ?_
        rintro e w2 ⟨rfl, rfl⟩
        go_wp2_with fail
        refine (NK.out _ B1.out).mono ?_
        rintro e w3 ⟨r, rfl, hr, b3⟩
        have B3 := Lib.hid (chainX _ B1.out b3)
        cases r
        · have G := Lib.hid (show ¬ HeP l kk s hd from fun q => by have := hr.2 q.2.2.1; cases this)
          clear hr b3
          go_wp2
          go_ret
          exact IffB.no G.out (LW.out _ B3.out)
        · have OUT := Lib.hid (hr.1 rfl)
          clear hr b3
          go_wp2_with fail
          refine (SA.out _).mono ?_
          rintro e w4 ⟨rfl, rfl⟩
          have B4 := Lib.hid (chainX _ B3.out (lay w3 (.cells #[.int .i64 s] 2)))
          go_wp2_with fail
          refine (CS.out _ B3.out).mono ?_
          rintro e w5 ⟨r, rfl, hr, b5⟩
          have B5 := Lib.hid (chainX _ B4.out b5)
          cases r
          · have G := Lib.hid (show ¬ HeP l kk s hd from fun q => by have := hr.2 (q.2.2.2.1 hs0); cases this)
            clear hr b5
            go_wp2
            go_ret
            exact IffB.no G.out (LW.out _ B5.out)
          · have EN := Lib.hid (show s > 0 → ∃ x, x ∈ l ∧ stB s x = true from fun _ => hr.1 rfl)
            clear hr b5 k1 h1
            go_wp2_with fail
            refine (NO.out _ B5.out).mono ?_
            rintro e w6 ⟨v6, rfl, V6, b6⟩
            have B6 := Lib.hid (chainX _ B5.out b6)
            obtain ⟨a5, c5, rfl⟩ := OwnV.shape V6
            have LK := Lib.hid (CL.out a5 c5 _ _ B5.out V6 b6)
            clear V6 b6
            generalize (needL l s).length = z at *
            go_wp2_with fail
            refine LK.out.mono ?_
            rintro e w7 ⟨r, rfl, hr, b7⟩
            have B7 := Lib.hid (chainX _ B6.out b7)
            cases r
            · have G := Lib.hid (show HeP l kk s hd from ⟨IVY.out, Q7.out, OUT.out, EN.out, fun q => by have := hr.2 q; cases this⟩)
              clear hr b7
              go_wp2
              go_ret
              exact IffB.yes G.out (LW.out _ B7.out)
            · have G := Lib.hid (show ¬ HeP l kk s hd from fun q => q.2.2.2.2 (hr.1 rfl))
              clear hr b7
              go_wp2
              go_ret
              exact IffB.no G.out (LW.out _ B7.out)
    · have ds := decide_eq_false hs0
      have EN := Lib.hid (show s > 0 → ∃ x, x ∈ l ∧ stB s x = true from fun q => absurd q hs0)
      go_enter Try.func52, Try.ntmps52
      go_wp2_with fail
      refine IV.out.mono ?_
      rintro e w1 ⟨r, rfl, hr, b1⟩
      have B1 := Lib.hid b1
      cases r
      · have G := Lib.hid (show ¬ HeP l kk s hd from fun q => by have := hr.2 q.1; cases this)
        clear hr b1
        go_wp2
        go_ret
        exact IffB.no G.out (LW.out _ B1.out)
      · have IVY := Lib.hid (hr.1 rfl)
        have NO := Lib.hid (NOx.out IVY.out)
        obtain ⟨k1, h1⟩ := CB.out w1 b1
        clear hr b1
        go_wp2_with fail
        refine (WI.out _).mono ?_
        rintro e w2 ⟨rfl, rfl⟩
        go_wp2_with fail
        refine (NK.out _ B1.out).mono ?_
        rintro e w3 ⟨r, rfl, hr, b3⟩
        have B3 := Lib.hid (chainX _ B1.out b3)
        cases r
        · have G := Lib.hid (show ¬ HeP l kk s hd from fun q => by have := hr.2 q.2.2.1; cases this)
          clear hr b3
          go_wp2
          go_ret
          exact IffB.no G.out (LW.out _ B3.out)
        · have OUT := Lib.hid (hr.1 rfl)
          clear hr b3 k1 h1
          go_wp2_with fail
          refine (NO.out _ B3.out).mono ?_
          rintro e w4 ⟨v4, rfl, V4, b4⟩
          have B4 := Lib.hid (chainX _ B3.out b4)
          obtain ⟨a5, c5, rfl⟩ := OwnV.shape V4
          have LK := Lib.hid (CL.out a5 c5 _ _ B3.out V4 b4)
          clear V4 b4
          generalize (needL l s).length = z at *
          go_wp2_with fail
          refine LK.out.mono ?_
          rintro e w5 ⟨r, rfl, hr, b5⟩
          have B5 := Lib.hid (chainX _ B4.out b5)
          cases r
          · have G := Lib.hid (show HeP l kk s hd from ⟨IVY.out, Q7.out, OUT.out, EN.out, fun q => by have := hr.2 q; cases this⟩)
            clear hr b5
            go_wp2
            go_ret
            exact IffB.yes G.out (LW.out _ B5.out)
          · have G := Lib.hid (show ¬ HeP l kk s hd from fun q => q.2.2.2.2 (hr.1 rfl))
            clear hr b5
            go_wp2
            go_ret
            exact IffB.no G.out (LW.out _ B5.out)
end Go.Proofs.Ythimpcfodbmhkaa.Ac
