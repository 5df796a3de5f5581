/-
  What a state has as of its tail, and its chunks: each element tested, in the program (written by tools/gen/stt.py).
-/
import Derived.Test.YtbckdfoapmjilaaGreatDoorStC
import Derived.Test.YtbckdfoapmjilaaGreatDoorRs
import Derived.Test.YtbckdfoapmjilaaGreatDoorEnt
import Derived.Deep.RegionHeld3
namespace Go.Proofs.YtbckdfoapmjilaaGreatDoor.Rd
open Go.RowKit Go.ChangeShapes Go.WideShapes Go.Proofs.YtbckdfoapmjilaaGreatDoor.GfI Go.Proofs.YtbckdfoapmjilaaGreatDoor.GfS
open Go.Proofs.YtbckdfoapmjilaaGreatDoor.Sg (BxN)
set_option linter.unusedVariables false
set_option linter.unusedSimpArgs false

set_option maxRecDepth 100000 in
set_option maxHeartbeats 4000000 in
theorem implVerUpTo (v m : DVer) (w : World) : Calls Tryz.prog 112 #[.agg #[.int .i64 v.epoch, .int .i64 v.seq], .agg #[.int .i64 m.epoch, .int .i64 m.seq]] w (RetW (.bool (fullB v && !verL m v)) w) := by
  have LY := Lib.hid (chainX w (lay w (.cells #[.int .i64 v.epoch, .int .i64 v.seq] 35)) (lay _ (.cells #[.int .i64 m.epoch, .int .i64 m.seq] 35)))
  have VH := Lib.hid ((BxN.new w #[.int .i64 v.epoch, .int .i64 v.seq] 35).later (lay _ (.cells #[.int .i64 m.epoch, .int .i64 m.seq] 35)))
  have Y0 := BxN.new (w.alloc (.cells #[.int .i64 v.epoch, .int .i64 v.seq] 35)) #[.int .i64 m.epoch, .int .i64 m.seq] 35
  rw [World.size_alloc] at Y0
  have MH := Lib.hid Y0
  clear Y0
  have BH := Lib.hid (Below.refl (((w.alloc (.cells #[.int .i64 v.epoch, .int .i64 v.seq] 35)).alloc (.cells #[.int .i64 m.epoch, .int .i64 m.seq] 35))).heap.size ((w.alloc (.cells #[.int .i64 v.epoch, .int .i64 v.seq] 35)).alloc (.cells #[.int .i64 m.epoch, .int .i64 m.seq] 35)))
  have CO := Lib.hid (fun w' (b : Below (((w.alloc (.cells #[.int .i64 v.epoch, .int .i64 v.seq] 35)).alloc (.cells #[.int .i64 m.epoch, .int .i64 m.seq] 35))).heap.size (((w.alloc (.cells #[.int .i64 v.epoch, .int .i64 v.seq] 35)).alloc (.cells #[.int .i64 m.epoch, .int .i64 m.seq] 35))) w') => implVerGiven v w')
  have CL := Lib.hid (fun w' (b : Below (((w.alloc (.cells #[.int .i64 v.epoch, .int .i64 v.seq] 35)).alloc (.cells #[.int .i64 m.epoch, .int .i64 m.seq] 35))).heap.size (((w.alloc (.cells #[.int .i64 v.epoch, .int .i64 v.seq] 35)).alloc (.cells #[.int .i64 m.epoch, .int .i64 m.seq] 35))) w') => implVerLess m v w')
  obtain ⟨r, hv⟩ : ∃ r, (fullB v && !verL m v) = r := ⟨_, rfl⟩
  rw [hv]
  unfold fullB at hv
  rw [givB_full] at hv
  generalize givB v = bo at *
  generalize verL m v = bl at *
  generalize v.epoch = ve at *
  generalize v.seq = vs at *
  generalize m.epoch = me at *
  generalize m.seq = ms at *
  cases bo
  · simp only [Bool.false_and, Bool.and_false, Bool.true_and, Bool.and_true, Bool.false_or, Bool.or_false, Bool.true_or, Bool.or_true, Bool.not_true, Bool.not_false, if_true, if_false, Bool.false_eq_true, reduceIte] at hv
    subst hv
    go_enter Tryz.func112, Tryz.ntmps112
    go_wp2_with fail
    refine (CO.out _ BH.out).mono ?_
    rintro e w2 ⟨rfl, b2⟩
    have VH := Lib.hid (VH.out.later b2)
    obtain ⟨V_0, V_1⟩ := Rd.c2 VH.out
    have MH := Lib.hid (MH.out.later b2)
    obtain ⟨M_0, M_1⟩ := Rd.c2 MH.out
    have BH := Lib.hid (chainX _ BH.out b2)
    clear b2
    go_wp2
    go_ret
    exact ⟨rfl, chainX w LY.out BH.out⟩
  · skip
    cases bl
    · simp only [Bool.false_and, Bool.and_false, Bool.true_and, Bool.and_true, Bool.false_or, Bool.or_false, Bool.true_or, Bool.or_true, Bool.not_true, Bool.not_false, if_true, if_false, Bool.false_eq_true, reduceIte] at hv
      subst hv
      go_enter Tryz.func112, Tryz.ntmps112
      go_wp2_with fail
      refine (CO.out _ BH.out).mono ?_
      rintro e w2 ⟨rfl, b2⟩
      have VH := Lib.hid (VH.out.later b2)
      obtain ⟨V_0, V_1⟩ := Rd.c2 VH.out
      have MH := Lib.hid (MH.out.later b2)
      obtain ⟨M_0, M_1⟩ := Rd.c2 MH.out
      have BH := Lib.hid (chainX _ BH.out b2)
      clear b2
      go_wp2_with fail
      refine (CL.out _ BH.out).mono ?_
      rintro e w2 ⟨rfl, b2⟩
      have VH := Lib.hid (VH.out.later b2)
      obtain ⟨V_0, V_1⟩ := Rd.c2 VH.out
      have MH := Lib.hid (MH.out.later b2)
      obtain ⟨M_0, M_1⟩ := Rd.c2 MH.out
      have BH := Lib.hid (chainX _ BH.out b2)
      clear b2
      go_wp2
      go_ret
      exact ⟨rfl, chainX w LY.out BH.out⟩
    · skip
      simp only [Bool.false_and, Bool.and_false, Bool.true_and, Bool.and_true, Bool.false_or, Bool.or_false, Bool.true_or, Bool.or_true, Bool.not_true, Bool.not_false, if_true, if_false, Bool.false_eq_true, reduceIte] at hv
      subst hv
      go_enter Tryz.func112, Tryz.ntmps112
      go_wp2_with fail
      refine (CO.out _ BH.out).mono ?_
      rintro e w2 ⟨rfl, b2⟩
      have VH := Lib.hid (VH.out.later b2)
      obtain ⟨V_0, V_1⟩ := Rd.c2 VH.out
      have MH := Lib.hid (MH.out.later b2)
      obtain ⟨M_0, M_1⟩ := Rd.c2 MH.out
      have BH := Lib.hid (chainX _ BH.out b2)
      clear b2
      go_wp2_with fail
      refine (CL.out _ BH.out).mono ?_
      rintro e w2 ⟨rfl, b2⟩
      have VH := Lib.hid (VH.out.later b2)
      obtain ⟨V_0, V_1⟩ := Rd.c2 VH.out
      have MH := Lib.hid (MH.out.later b2)
      obtain ⟨M_0, M_1⟩ := Rd.c2 MH.out
      have BH := Lib.hid (chainX _ BH.out b2)
      clear b2
      go_wp2
      go_ret
      exact ⟨rfl, chainX w LY.out BH.out⟩
set_option maxRecDepth 100000 in
set_option maxHeartbeats 4000000 in
theorem implHeadUpTo (h : DHead) (m : DVer) (hz : h.name.size ≤ 9223372036854775807) (w : World) (hT : Nam.Tabs w) : Calls Tryz.prog 79 #[.agg #[.string h.name, .int .i64 h.ver.epoch, .int .i64 h.ver.seq, .int .i64 h.size, .int .i64 h.sum], .agg #[.int .i64 m.epoch, .int .i64 m.seq]] w (RetW (.bool (headB m h)) w) := by
  have LY := Lib.hid (chainX w (lay w (.cells #[.string h.name, .int .i64 h.ver.epoch, .int .i64 h.ver.seq, .int .i64 h.size, .int .i64 h.sum] 107)) (lay _ (.cells #[.int .i64 m.epoch, .int .i64 m.seq] 35)))
  have VH := Lib.hid ((BxN.new w #[.string h.name, .int .i64 h.ver.epoch, .int .i64 h.ver.seq, .int .i64 h.size, .int .i64 h.sum] 107).later (lay _ (.cells #[.int .i64 m.epoch, .int .i64 m.seq] 35)))
  have Y0 := BxN.new (w.alloc (.cells #[.string h.name, .int .i64 h.ver.epoch, .int .i64 h.ver.seq, .int .i64 h.size, .int .i64 h.sum] 107)) #[.int .i64 m.epoch, .int .i64 m.seq] 35
  rw [World.size_alloc] at Y0
  have MH := Lib.hid Y0
  clear Y0
  have BH := Lib.hid (Below.refl (((w.alloc (.cells #[.string h.name, .int .i64 h.ver.epoch, .int .i64 h.ver.seq, .int .i64 h.size, .int .i64 h.sum] 107)).alloc (.cells #[.int .i64 m.epoch, .int .i64 m.seq] 35))).heap.size ((w.alloc (.cells #[.string h.name, .int .i64 h.ver.epoch, .int .i64 h.ver.seq, .int .i64 h.size, .int .i64 h.sum] 107)).alloc (.cells #[.int .i64 m.epoch, .int .i64 m.seq] 35)))
  have hT0 := tabs_later hT LY.out
  have CN := Lib.hid (fun w' (b : Below (((w.alloc (.cells #[.string h.name, .int .i64 h.ver.epoch, .int .i64 h.ver.seq, .int .i64 h.size, .int .i64 h.sum] 107)).alloc (.cells #[.int .i64 m.epoch, .int .i64 m.seq] 35))).heap.size (((w.alloc (.cells #[.string h.name, .int .i64 h.ver.epoch, .int .i64 h.ver.seq, .int .i64 h.size, .int .i64 h.sum] 107)).alloc (.cells #[.int .i64 m.epoch, .int .i64 m.seq] 35))) w') => Nam.implNameOk h.name hz w' (tabs_later hT0 b))
  have CV := Lib.hid (fun w' (b : Below (((w.alloc (.cells #[.string h.name, .int .i64 h.ver.epoch, .int .i64 h.ver.seq, .int .i64 h.size, .int .i64 h.sum] 107)).alloc (.cells #[.int .i64 m.epoch, .int .i64 m.seq] 35))).heap.size (((w.alloc (.cells #[.string h.name, .int .i64 h.ver.epoch, .int .i64 h.ver.seq, .int .i64 h.size, .int .i64 h.sum] 107)).alloc (.cells #[.int .i64 m.epoch, .int .i64 m.seq] 35))) w') => implVerUpTo h.ver m w')
  have CS := Lib.hid (fun w' (b : Below (((w.alloc (.cells #[.string h.name, .int .i64 h.ver.epoch, .int .i64 h.ver.seq, .int .i64 h.size, .int .i64 h.sum] 107)).alloc (.cells #[.int .i64 m.epoch, .int .i64 m.seq] 35))).heap.size (((w.alloc (.cells #[.string h.name, .int .i64 h.ver.epoch, .int .i64 h.ver.seq, .int .i64 h.size, .int .i64 h.sum] 107)).alloc (.cells #[.int .i64 m.epoch, .int .i64 m.seq] 35))) w') => same_ret (isBodySizeX h.size w'))
  have CM := Lib.hid (fun w' (b : Below (((w.alloc (.cells #[.string h.name, .int .i64 h.ver.epoch, .int .i64 h.ver.seq, .int .i64 h.size, .int .i64 h.sum] 107)).alloc (.cells #[.int .i64 m.epoch, .int .i64 m.seq] 35))).heap.size (((w.alloc (.cells #[.string h.name, .int .i64 h.ver.epoch, .int .i64 h.ver.seq, .int .i64 h.size, .int .i64 h.sum] 107)).alloc (.cells #[.int .i64 m.epoch, .int .i64 m.seq] 35))) w') => same_ret (implSum h.sum w'))
  obtain ⟨r, hv⟩ : ∃ r, headB m h = r := ⟨_, rfl⟩
  rw [hv]
  unfold headB at hv
  generalize Nam.nameB h.name = bn at *
  generalize (fullB h.ver && !verL m h.ver) = bv at *
  generalize inB h.size 0 64 = bs at *
  generalize sumB h.sum = bm at *
  clear hT hT0 hz
  generalize h.name = nm at *
  generalize h.ver.epoch = ve at *
  generalize h.ver.seq = vs at *
  generalize h.size = sz at *
  generalize h.sum = sm at *
  generalize m.epoch = me at *
  generalize m.seq = ms at *
  cases bn
  · simp only [Bool.false_and, Bool.and_false, Bool.true_and, Bool.and_true, Bool.false_or, Bool.or_false, Bool.true_or, Bool.or_true, Bool.not_true, Bool.not_false, if_true, if_false, Bool.false_eq_true, reduceIte] at hv
    subst hv
    go_enter Tryz.func79, Tryz.ntmps79
    go_wp2_with fail
    refine (CN.out _ BH.out).mono ?_
    rintro e w2 ⟨rfl, b2⟩
    have VH := Lib.hid (VH.out.later b2)
    obtain ⟨V_0, V_1, V_2, V_3, V_4⟩ := Rd.c5 VH.out
    have MH := Lib.hid (MH.out.later b2)
    obtain ⟨M_0, M_1⟩ := Rd.c2 MH.out
    have BH := Lib.hid (chainX _ BH.out b2)
    clear b2
    go_wp2
    go_ret
    exact ⟨rfl, chainX w LY.out BH.out⟩
  · skip
    cases bv
    · simp only [Bool.false_and, Bool.and_false, Bool.true_and, Bool.and_true, Bool.false_or, Bool.or_false, Bool.true_or, Bool.or_true, Bool.not_true, Bool.not_false, if_true, if_false, Bool.false_eq_true, reduceIte] at hv
      subst hv
      go_enter Tryz.func79, Tryz.ntmps79
      go_wp2_with fail
      refine (CN.out _ BH.out).mono ?_
      rintro e w2 ⟨rfl, b2⟩
      have VH := Lib.hid (VH.out.later b2)
      obtain ⟨V_0, V_1, V_2, V_3, V_4⟩ := Rd.c5 VH.out
      have MH := Lib.hid (MH.out.later b2)
      obtain ⟨M_0, M_1⟩ := Rd.c2 MH.out
      have BH := Lib.hid (chainX _ BH.out b2)
      clear b2
      go_wp2_with fail
      refine (CV.out _ BH.out).mono ?_
      rintro e w2 ⟨rfl, b2⟩
      have VH := Lib.hid (VH.out.later b2)
      obtain ⟨V_0, V_1, V_2, V_3, V_4⟩ := Rd.c5 VH.out
      have MH := Lib.hid (MH.out.later b2)
      obtain ⟨M_0, M_1⟩ := Rd.c2 MH.out
      have BH := Lib.hid (chainX _ BH.out b2)
      clear b2
      go_wp2
      go_ret
      exact ⟨rfl, chainX w LY.out BH.out⟩
    · skip
      cases bs
      · simp only [Bool.false_and, Bool.and_false, Bool.true_and, Bool.and_true, Bool.false_or, Bool.or_false, Bool.true_or, Bool.or_true, Bool.not_true, Bool.not_false, if_true, if_false, Bool.false_eq_true, reduceIte] at hv
        subst hv
        go_enter Tryz.func79, Tryz.ntmps79
        go_wp2_with fail
        refine (CN.out _ BH.out).mono ?_
        rintro e w2 ⟨rfl, b2⟩
        have VH := Lib.hid (VH.out.later b2)
        obtain ⟨V_0, V_1, V_2, V_3, V_4⟩ := Rd.c5 VH.out
        have MH := Lib.hid (MH.out.later b2)
        obtain ⟨M_0, M_1⟩ := Rd.c2 MH.out
        have BH := Lib.hid (chainX _ BH.out b2)
        clear b2
        go_wp2_with fail
        refine (CV.out _ BH.out).mono ?_
        rintro e w2 ⟨rfl, b2⟩
        have VH := Lib.hid (VH.out.later b2)
        obtain ⟨V_0, V_1, V_2, V_3, V_4⟩ := Rd.c5 VH.out
        have MH := Lib.hid (MH.out.later b2)
        obtain ⟨M_0, M_1⟩ := Rd.c2 MH.out
        have BH := Lib.hid (chainX _ BH.out b2)
        clear b2
        go_wp2_with fail
        refine (CS.out _ BH.out).mono ?_
        rintro e w2 ⟨rfl, b2⟩
        have VH := Lib.hid (VH.out.later b2)
        obtain ⟨V_0, V_1, V_2, V_3, V_4⟩ := Rd.c5 VH.out
        have MH := Lib.hid (MH.out.later b2)
        obtain ⟨M_0, M_1⟩ := Rd.c2 MH.out
        have BH := Lib.hid (chainX _ BH.out b2)
        clear b2
        go_wp2
        go_ret
        exact ⟨rfl, chainX w LY.out BH.out⟩
      · skip
        cases bm
        · simp only [Bool.false_and, Bool.and_false, Bool.true_and, Bool.and_true, Bool.false_or, Bool.or_false, Bool.true_or, Bool.or_true, Bool.not_true, Bool.not_false, if_true, if_false, Bool.false_eq_true, reduceIte] at hv
          subst hv
          go_enter Tryz.func79, Tryz.ntmps79
          go_wp2_with fail
          refine (CN.out _ BH.out).mono ?_
          rintro e w2 ⟨rfl, b2⟩
          have VH := Lib.hid (VH.out.later b2)
          obtain ⟨V_0, V_1, V_2, V_3, V_4⟩ := Rd.c5 VH.out
          have MH := Lib.hid (MH.out.later b2)
          obtain ⟨M_0, M_1⟩ := Rd.c2 MH.out
          have BH := Lib.hid (chainX _ BH.out b2)
          clear b2
          go_wp2_with fail
          refine (CV.out _ BH.out).mono ?_
          rintro e w2 ⟨rfl, b2⟩
          have VH := Lib.hid (VH.out.later b2)
          obtain ⟨V_0, V_1, V_2, V_3, V_4⟩ := Rd.c5 VH.out
          have MH := Lib.hid (MH.out.later b2)
          obtain ⟨M_0, M_1⟩ := Rd.c2 MH.out
          have BH := Lib.hid (chainX _ BH.out b2)
          clear b2
          go_wp2_with fail
          refine (CS.out _ BH.out).mono ?_
          rintro e w2 ⟨rfl, b2⟩
          have VH := Lib.hid (VH.out.later b2)
          obtain ⟨V_0, V_1, V_2, V_3, V_4⟩ := Rd.c5 VH.out
          have MH := Lib.hid (MH.out.later b2)
          obtain ⟨M_0, M_1⟩ := Rd.c2 MH.out
          have BH := Lib.hid (chainX _ BH.out b2)
          clear b2
          go_wp2_with fail
          refine (CM.out _ BH.out).mono ?_
          rintro e w2 ⟨rfl, b2⟩
          have VH := Lib.hid (VH.out.later b2)
          obtain ⟨V_0, V_1, V_2, V_3, V_4⟩ := Rd.c5 VH.out
          have MH := Lib.hid (MH.out.later b2)
          obtain ⟨M_0, M_1⟩ := Rd.c2 MH.out
          have BH := Lib.hid (chainX _ BH.out b2)
          clear b2
          go_wp2
          go_ret
          exact ⟨rfl, chainX w LY.out BH.out⟩
        · skip
          simp only [Bool.false_and, Bool.and_false, Bool.true_and, Bool.and_true, Bool.false_or, Bool.or_false, Bool.true_or, Bool.or_true, Bool.not_true, Bool.not_false, if_true, if_false, Bool.false_eq_true, reduceIte] at hv
          subst hv
          go_enter Tryz.func79, Tryz.ntmps79
          go_wp2_with fail
          refine (CN.out _ BH.out).mono ?_
          rintro e w2 ⟨rfl, b2⟩
          have VH := Lib.hid (VH.out.later b2)
          obtain ⟨V_0, V_1, V_2, V_3, V_4⟩ := Rd.c5 VH.out
          have MH := Lib.hid (MH.out.later b2)
          obtain ⟨M_0, M_1⟩ := Rd.c2 MH.out
          have BH := Lib.hid (chainX _ BH.out b2)
          clear b2
          go_wp2_with fail
          refine (CV.out _ BH.out).mono ?_
          rintro e w2 ⟨rfl, b2⟩
          have VH := Lib.hid (VH.out.later b2)
          obtain ⟨V_0, V_1, V_2, V_3, V_4⟩ := Rd.c5 VH.out
          have MH := Lib.hid (MH.out.later b2)
          obtain ⟨M_0, M_1⟩ := Rd.c2 MH.out
          have BH := Lib.hid (chainX _ BH.out b2)
          clear b2
          go_wp2_with fail
          refine (CS.out _ BH.out).mono ?_
          rintro e w2 ⟨rfl, b2⟩
          have VH := Lib.hid (VH.out.later b2)
          obtain ⟨V_0, V_1, V_2, V_3, V_4⟩ := Rd.c5 VH.out
          have MH := Lib.hid (MH.out.later b2)
          obtain ⟨M_0, M_1⟩ := Rd.c2 MH.out
          have BH := Lib.hid (chainX _ BH.out b2)
          clear b2
          go_wp2_with fail
          refine (CM.out _ BH.out).mono ?_
          rintro e w2 ⟨rfl, b2⟩
          have VH := Lib.hid (VH.out.later b2)
          obtain ⟨V_0, V_1, V_2, V_3, V_4⟩ := Rd.c5 VH.out
          have MH := Lib.hid (MH.out.later b2)
          obtain ⟨M_0, M_1⟩ := Rd.c2 MH.out
          have BH := Lib.hid (chainX _ BH.out b2)
          clear b2
          go_wp2
          go_ret
          exact ⟨rfl, chainX w LY.out BH.out⟩
set_option maxRecDepth 100000 in
set_option maxHeartbeats 4000000 in
theorem implLastUpTo (x : DLast) (m : DVer) (w : World) : Calls Tryz.prog 81 #[.agg #[.int .i64 x.client, .int .i64 x.no, .int .i64 x.ver.epoch, .int .i64 x.ver.seq], .agg #[.int .i64 m.epoch, .int .i64 m.seq]] w (RetW (.bool (lastB m x)) w) := by
  have LY := Lib.hid (chainX w (lay w (.cells #[.int .i64 x.client, .int .i64 x.no, .int .i64 x.ver.epoch, .int .i64 x.ver.seq] 111)) (lay _ (.cells #[.int .i64 m.epoch, .int .i64 m.seq] 35)))
  have VH := Lib.hid ((BxN.new w #[.int .i64 x.client, .int .i64 x.no, .int .i64 x.ver.epoch, .int .i64 x.ver.seq] 111).later (lay _ (.cells #[.int .i64 m.epoch, .int .i64 m.seq] 35)))
  have Y0 := BxN.new (w.alloc (.cells #[.int .i64 x.client, .int .i64 x.no, .int .i64 x.ver.epoch, .int .i64 x.ver.seq] 111)) #[.int .i64 m.epoch, .int .i64 m.seq] 35
  rw [World.size_alloc] at Y0
  have MH := Lib.hid Y0
  clear Y0
  have BH := Lib.hid (Below.refl (((w.alloc (.cells #[.int .i64 x.client, .int .i64 x.no, .int .i64 x.ver.epoch, .int .i64 x.ver.seq] 111)).alloc (.cells #[.int .i64 m.epoch, .int .i64 m.seq] 35))).heap.size ((w.alloc (.cells #[.int .i64 x.client, .int .i64 x.no, .int .i64 x.ver.epoch, .int .i64 x.ver.seq] 111)).alloc (.cells #[.int .i64 m.epoch, .int .i64 m.seq] 35)))
  have CO := Lib.hid (fun w' (b : Below (((w.alloc (.cells #[.int .i64 x.client, .int .i64 x.no, .int .i64 x.ver.epoch, .int .i64 x.ver.seq] 111)).alloc (.cells #[.int .i64 m.epoch, .int .i64 m.seq] 35))).heap.size (((w.alloc (.cells #[.int .i64 x.client, .int .i64 x.no, .int .i64 x.ver.epoch, .int .i64 x.ver.seq] 111)).alloc (.cells #[.int .i64 m.epoch, .int .i64 m.seq] 35))) w') => implReqGiven ⟨x.client, x.no⟩ w')
  have CV := Lib.hid (fun w' (b : Below (((w.alloc (.cells #[.int .i64 x.client, .int .i64 x.no, .int .i64 x.ver.epoch, .int .i64 x.ver.seq] 111)).alloc (.cells #[.int .i64 m.epoch, .int .i64 m.seq] 35))).heap.size (((w.alloc (.cells #[.int .i64 x.client, .int .i64 x.no, .int .i64 x.ver.epoch, .int .i64 x.ver.seq] 111)).alloc (.cells #[.int .i64 m.epoch, .int .i64 m.seq] 35))) w') => implVerUpTo x.ver m w')
  obtain ⟨r, hv⟩ : ∃ r, lastB m x = r := ⟨_, rfl⟩
  rw [hv]
  unfold lastB at hv
  rw [← Bool.and_assoc, show (inB x.client 100 105 && inB x.no 1 1000) = reqG ⟨x.client, x.no⟩ from rfl] at hv
  generalize reqG ⟨x.client, x.no⟩ = bo at *
  generalize (fullB x.ver && !verL m x.ver) = bv at *
  generalize x.client = xc at *
  generalize x.no = xn at *
  generalize x.ver.epoch = ve at *
  generalize x.ver.seq = vs at *
  generalize m.epoch = me at *
  generalize m.seq = ms at *
  cases bo
  · simp only [Bool.false_and, Bool.and_false, Bool.true_and, Bool.and_true, Bool.false_or, Bool.or_false, Bool.true_or, Bool.or_true, Bool.not_true, Bool.not_false, if_true, if_false, Bool.false_eq_true, reduceIte] at hv
    subst hv
    go_enter Tryz.func81, Tryz.ntmps81
    go_wp2_with fail
    refine (CO.out _ BH.out).mono ?_
    rintro e w2 ⟨rfl, b2⟩
    have VH := Lib.hid (VH.out.later b2)
    obtain ⟨V_0, V_1, V_2, V_3⟩ := Rd.c4 VH.out
    have MH := Lib.hid (MH.out.later b2)
    obtain ⟨M_0, M_1⟩ := Rd.c2 MH.out
    have BH := Lib.hid (chainX _ BH.out b2)
    clear b2
    go_wp2
    go_ret
    exact ⟨rfl, chainX w LY.out BH.out⟩
  · skip
    cases bv
    · simp only [Bool.false_and, Bool.and_false, Bool.true_and, Bool.and_true, Bool.false_or, Bool.or_false, Bool.true_or, Bool.or_true, Bool.not_true, Bool.not_false, if_true, if_false, Bool.false_eq_true, reduceIte] at hv
      subst hv
      go_enter Tryz.func81, Tryz.ntmps81
      go_wp2_with fail
      refine (CO.out _ BH.out).mono ?_
      rintro e w2 ⟨rfl, b2⟩
      have VH := Lib.hid (VH.out.later b2)
      obtain ⟨V_0, V_1, V_2, V_3⟩ := Rd.c4 VH.out
      have MH := Lib.hid (MH.out.later b2)
      obtain ⟨M_0, M_1⟩ := Rd.c2 MH.out
      have BH := Lib.hid (chainX _ BH.out b2)
      clear b2
      go_wp2_with fail
      refine (CV.out _ BH.out).mono ?_
      rintro e w2 ⟨rfl, b2⟩
      have VH := Lib.hid (VH.out.later b2)
      obtain ⟨V_0, V_1, V_2, V_3⟩ := Rd.c4 VH.out
      have MH := Lib.hid (MH.out.later b2)
      obtain ⟨M_0, M_1⟩ := Rd.c2 MH.out
      have BH := Lib.hid (chainX _ BH.out b2)
      clear b2
      go_wp2
      go_ret
      exact ⟨rfl, chainX w LY.out BH.out⟩
    · skip
      simp only [Bool.false_and, Bool.and_false, Bool.true_and, Bool.and_true, Bool.false_or, Bool.or_false, Bool.true_or, Bool.or_true, Bool.not_true, Bool.not_false, if_true, if_false, Bool.false_eq_true, reduceIte] at hv
      subst hv
      go_enter Tryz.func81, Tryz.ntmps81
      go_wp2_with fail
      refine (CO.out _ BH.out).mono ?_
      rintro e w2 ⟨rfl, b2⟩
      have VH := Lib.hid (VH.out.later b2)
      obtain ⟨V_0, V_1, V_2, V_3⟩ := Rd.c4 VH.out
      have MH := Lib.hid (MH.out.later b2)
      obtain ⟨M_0, M_1⟩ := Rd.c2 MH.out
      have BH := Lib.hid (chainX _ BH.out b2)
      clear b2
      go_wp2_with fail
      refine (CV.out _ BH.out).mono ?_
      rintro e w2 ⟨rfl, b2⟩
      have VH := Lib.hid (VH.out.later b2)
      obtain ⟨V_0, V_1, V_2, V_3⟩ := Rd.c4 VH.out
      have MH := Lib.hid (MH.out.later b2)
      obtain ⟨M_0, M_1⟩ := Rd.c2 MH.out
      have BH := Lib.hid (chainX _ BH.out b2)
      clear b2
      go_wp2
      go_ret
      exact ⟨rfl, chainX w LY.out BH.out⟩
set_option maxRecDepth 100000 in
set_option maxHeartbeats 4000000 in
theorem wrongHead (q : Nat) (m : DVer) (x : DHead) (hz : x.name.size ≤ 9223372036854775807) (w : World) (hq : q < w.heap.size) (h4 : w.cell? ⟨q, 4, none⟩ = some (.int .i64 m.epoch)) (h5 : w.cell? ⟨q, 5, none⟩ = some (.int .i64 m.seq)) (hT : Nam.Tabs w) :
    Calls Tryz.prog 78 #[.agg #[.string x.name, .int .i64 x.ver.epoch, .int .i64 x.ver.seq, .int .i64 x.size, .int .i64 x.sum], .pointer (some ⟨q, 0, none⟩)] w (RetW (.bool (badH m x)) w) := by
  unfold badH
  have LY := Lib.hid (lay w (.cells #[.string x.name, .int .i64 x.ver.epoch, .int .i64 x.ver.seq, .int .i64 x.size, .int .i64 x.sum] 107))
  have C := Lib.hid (fun w' (b : Below (w.alloc (.cells #[.string x.name, .int .i64 x.ver.epoch, .int .i64 x.ver.seq, .int .i64 x.size, .int .i64 x.sum] 107)).heap.size (w.alloc (.cells #[.string x.name, .int .i64 x.ver.epoch, .int .i64 x.ver.seq, .int .i64 x.size, .int .i64 x.sum] 107)) w') => implHeadUpTo x m hz w' (tabs_later (tabs_later hT LY.out) b))
  have k4 := (LY.out.cell (p := ⟨q, 4, none⟩) hq).trans h4
  have k5 := (LY.out.cell (p := ⟨q, 5, none⟩) hq).trans h5
  have BH := Lib.hid (Below.refl (w.alloc (.cells #[.string x.name, .int .i64 x.ver.epoch, .int .i64 x.ver.seq, .int .i64 x.size, .int .i64 x.sum] 107)).heap.size (w.alloc (.cells #[.string x.name, .int .i64 x.ver.epoch, .int .i64 x.ver.seq, .int .i64 x.size, .int .i64 x.sum] 107)))
  obtain ⟨v, hv⟩ : ∃ v, headB m x = v := ⟨_, rfl⟩
  rw [hv] at C ⊢
  clear hv h4 h5 hT hz
  go_enter Tryz.func78, Tryz.ntmps78
  go_wp2_with fail
  refine (C.out _ BH.out).mono ?_
  rintro e w2 ⟨rfl, b2⟩
  have B2 := Lib.hid (chainX w LY.out b2)
  clear b2
  go_wp2
  go_ret
  exact ⟨rfl, B2.out⟩
set_option maxRecDepth 100000 in
set_option maxHeartbeats 4000000 in
theorem wrongLast (q : Nat) (m : DVer) (x : DLast) (w : World) (hq : q < w.heap.size) (h4 : w.cell? ⟨q, 4, none⟩ = some (.int .i64 m.epoch)) (h5 : w.cell? ⟨q, 5, none⟩ = some (.int .i64 m.seq)) :
    Calls Tryz.prog 80 #[.agg #[.int .i64 x.client, .int .i64 x.no, .int .i64 x.ver.epoch, .int .i64 x.ver.seq], .pointer (some ⟨q, 0, none⟩)] w (RetW (.bool (badL m x)) w) := by
  unfold badL
  have LY := Lib.hid (lay w (.cells #[.int .i64 x.client, .int .i64 x.no, .int .i64 x.ver.epoch, .int .i64 x.ver.seq] 111))
  have C := Lib.hid (fun w' (b : Below (w.alloc (.cells #[.int .i64 x.client, .int .i64 x.no, .int .i64 x.ver.epoch, .int .i64 x.ver.seq] 111)).heap.size (w.alloc (.cells #[.int .i64 x.client, .int .i64 x.no, .int .i64 x.ver.epoch, .int .i64 x.ver.seq] 111)) w') => implLastUpTo x m w')
  have k4 := (LY.out.cell (p := ⟨q, 4, none⟩) hq).trans h4
  have k5 := (LY.out.cell (p := ⟨q, 5, none⟩) hq).trans h5
  have BH := Lib.hid (Below.refl (w.alloc (.cells #[.int .i64 x.client, .int .i64 x.no, .int .i64 x.ver.epoch, .int .i64 x.ver.seq] 111)).heap.size (w.alloc (.cells #[.int .i64 x.client, .int .i64 x.no, .int .i64 x.ver.epoch, .int .i64 x.ver.seq] 111)))
  obtain ⟨v, hv⟩ : ∃ v, lastB m x = v := ⟨_, rfl⟩
  rw [hv] at C ⊢
  clear hv h4 h5
  go_enter Tryz.func80, Tryz.ntmps80
  go_wp2_with fail
  refine (C.out _ BH.out).mono ?_
  rintro e w2 ⟨rfl, b2⟩
  have B2 := Lib.hid (chainX w LY.out b2)
  clear b2
  go_wp2
  go_ret
  exact ⟨rfl, B2.out⟩
set_option maxRecDepth 100000 in
set_option maxHeartbeats 1000000 in
theorem hasWrongHead_idx (q : Nat) (m : DVer) (a : Option Addr) (cap : Nat) (l : List DHead) (w : World) (hl : l.length ≤ 2097152) {fr : Bool} {lo : Nat} (hc : Rows fr lo w a l) (hq : q < w.heap.size) (h4 : w.cell? ⟨q, 4, none⟩ = some (.int .i64 m.epoch)) (h5 : w.cell? ⟨q, 5, none⟩ = some (.int .i64 m.seq)) (hT : Nam.Tabs w) :
    Calls Tryz.prog 117 #[.slice a l.length cap, .func (.func 78) #[] #[.pointer (some ⟨q, 0, none⟩)]] w (IdxW (∃ x, x ∈ l ∧ badH m x = true) w) := by
  have HL := Lib.hid (fun k (h : k < l.length) => get_lt h)
  have NO := Lib.hid (fun (h : ∀ i x, i < l.length → l[i]? = some x → badH m x = false) => (show ¬ ∃ x, x ∈ l ∧ badH m x = true from none_of h))
  have MEM := Lib.hid (fun k x (h : l[k]? = some x) => List.mem_of_getElem? h)
  obtain ⟨n, hn⟩ : ∃ n, n = l.length := ⟨_, rfl⟩
  rw [← hn] at hl HL NO ⊢
  clear hn
  go_enter Tryz.func117, Tryz.ntmps117
  go_wp2
  go_loopw [8] (fun i wr => ∃ k : Nat, k ≤ n ∧ i = .int .i64 k ∧ (∀ i x, i < k → l[i]? = some x → badH m x = false) ∧ Below w.heap.size w wr) (fun i _ => n - (intOf i).toNat)
  case atStart => exact ⟨0, by omega, rfl, fun i x hi => absurd hi (Nat.not_lt_zero _), Below.refl _ _⟩
  case round =>
    obtain ⟨k, hk, rfl, HN, hw⟩ := hrel
    have HN := Lib.hid HN
    have HW := Lib.hid hw
    by_cases hlt : k < n
    · obtain ⟨x, hx⟩ := HL.out k hlt
      obtain ⟨b, off, cs, rfl, -, hB, hr, hcc⟩ := (hc.below hw).at' hx
      have r := hr
      obtain ⟨rfl, f0_0, f0_1, f0_2, f0_3, f0_4⟩ := shape_Head hr
      have c0 : wr.cell? ⟨b, off + k * 5, none⟩ = some (.string x.name) := hcc 0 _ rfl
      have c1 : wr.cell? ⟨b, off + k * 5 + 1, none⟩ = some (.int .i64 x.ver.epoch) := hcc 1 _ rfl
      have c2 : wr.cell? ⟨b, off + k * 5 + 2, none⟩ = some (.int .i64 x.ver.seq) := hcc 2 _ rfl
      have c3 : wr.cell? ⟨b, off + k * 5 + 3, none⟩ = some (.int .i64 x.size) := hcc 3 _ rfl
      have c4 : wr.cell? ⟨b, off + k * 5 + 4, none⟩ = some (.int .i64 x.sum) := hcc 4 _ rfl
      have P := wrongHead q m x f0_0 wr (Nat.lt_of_lt_of_le hq hw.size) ((hw.cell (p := ⟨q, 4, none⟩) hq).trans h4) ((hw.cell (p := ⟨q, 5, none⟩) hq).trans h5) (tabs_later hT hw)
      have HX := Lib.hid hx
      clear hcc hc hw hx r
      cases hp : badH m x
      · rw [hp] at P
        have P := Lib.hid P
        have HN2 := Lib.hid (show ∀ i y, i < k + 1 → l[i]? = some y → badH m y = false from fun i y hi hy => by
          by_cases e : i = k
          · subst e; rw [HX.out] at hy; cases hy; exact hp
          · exact HN.out i y (by omega) hy)
        clear hp
        go_wp2_with fail
        refine P.out.mono ?_
        rintro e w1 ⟨rfl, b1⟩
        have B1 := Lib.hid (chainX w HW.out b1)
        clear b1 P
        go_wp2
        go_roundw
        case rel => exact ⟨k + 1, by omega, by go_num, HN2.out, B1.out⟩
        case measure => simp [intOf]; omega
      · rw [hp] at P
        have P := Lib.hid P
        have Y := Lib.hid (show ∃ x, x ∈ l ∧ badH m x = true from ⟨x, MEM.out k x HX.out, hp⟩)
        clear hp
        go_wp2_with fail
        refine P.out.mono ?_
        rintro e w1 ⟨rfl, b1⟩
        have B1 := Lib.hid (chainX w HW.out b1)
        clear b1 P
        go_wp2
        go_ret
        exact ⟨_, rfl, B1.out, .inl ⟨by omega, Y.out⟩⟩
    · obtain rfl : k = n := by omega
      have N := Lib.hid (NO.out HN.out)
      clear hc hw
      go_wp2
      go_ret
      exact ⟨_, rfl, HW.out, .inr ⟨rfl, N.out⟩⟩
set_option maxRecDepth 100000 in
set_option maxHeartbeats 1000000 in
theorem hasWrongHead (q : Nat) (m : DVer) (a : Option Addr) (cap : Nat) (l : List DHead) (w : World) (hl : l.length ≤ 2097152) {fr : Bool} {lo : Nat} (hc : Rows fr lo w a l) (hq : q < w.heap.size) (h4 : w.cell? ⟨q, 4, none⟩ = some (.int .i64 m.epoch)) (h5 : w.cell? ⟨q, 5, none⟩ = some (.int .i64 m.seq)) (hT : Nam.Tabs w) :
    Calls Tryz.prog 84 #[.slice a l.length cap, .func (.func 78) #[] #[.pointer (some ⟨q, 0, none⟩)]] w (IffB (∃ x, x ∈ l ∧ badH m x = true) w) := by
  have I := Lib.hid (hasWrongHead_idx q m a cap l w hl hc hq h4 h5 hT)
  clear hc
  go_enter Tryz.func84, Tryz.ntmps84
  go_wp2_with fail
  refine I.out.mono ?_
  rintro e w1 ⟨i, rfl, b1, ⟨h0, Y⟩ | ⟨rfl, N⟩⟩
  · have h' : decide (0 ≤ i) = true := decide_eq_true h0
    have Y := Lib.hid Y
    have B := Lib.hid b1
    clear b1
    go_wp2
    go_ret
    exact IffB.yes Y.out B.out
  · have N := Lib.hid N
    have B := Lib.hid b1
    clear b1
    go_wp2
    go_ret
    exact IffB.no N.out B.out
set_option maxRecDepth 100000 in
set_option maxHeartbeats 1000000 in
theorem hasWrongLast_idx (q : Nat) (m : DVer) (a : Option Addr) (cap : Nat) (l : List DLast) (w : World) (hl : l.length ≤ 2097152) {fr : Bool} {lo : Nat} (hc : Rows fr lo w a l) (hq : q < w.heap.size) (h4 : w.cell? ⟨q, 4, none⟩ = some (.int .i64 m.epoch)) (h5 : w.cell? ⟨q, 5, none⟩ = some (.int .i64 m.seq)) :
    Calls Tryz.prog 119 #[.slice a l.length cap, .func (.func 80) #[] #[.pointer (some ⟨q, 0, none⟩)]] w (IdxW (∃ x, x ∈ l ∧ badL m x = true) w) := by
  have HL := Lib.hid (fun k (h : k < l.length) => get_lt h)
  have NO := Lib.hid (fun (h : ∀ i x, i < l.length → l[i]? = some x → badL m x = false) => (show ¬ ∃ x, x ∈ l ∧ badL m x = true from none_of h))
  have MEM := Lib.hid (fun k x (h : l[k]? = some x) => List.mem_of_getElem? h)
  obtain ⟨n, hn⟩ : ∃ n, n = l.length := ⟨_, rfl⟩
  rw [← hn] at hl HL NO ⊢
  clear hn
  go_enter Tryz.func119, Tryz.ntmps119
  go_wp2
  go_loopw [8] (fun i wr => ∃ k : Nat, k ≤ n ∧ i = .int .i64 k ∧ (∀ i x, i < k → l[i]? = some x → badL m x = false) ∧ Below w.heap.size w wr) (fun i _ => n - (intOf i).toNat)
  case atStart => exact ⟨0, by omega, rfl, fun i x hi => absurd hi (Nat.not_lt_zero _), Below.refl _ _⟩
  case round =>
    obtain ⟨k, hk, rfl, HN, hw⟩ := hrel
    have HN := Lib.hid HN
    have HW := Lib.hid hw
    by_cases hlt : k < n
    · obtain ⟨x, hx⟩ := HL.out k hlt
      obtain ⟨b, off, cs, rfl, -, hB, hr, hcc⟩ := (hc.below hw).at' hx
      have r := hr
      obtain ⟨rfl, f0_0, f0_1, f0_2, f0_3⟩ := shape_Last hr
      have c0 : wr.cell? ⟨b, off + k * 4, none⟩ = some (.int .i64 x.client) := hcc 0 _ rfl
      have c1 : wr.cell? ⟨b, off + k * 4 + 1, none⟩ = some (.int .i64 x.no) := hcc 1 _ rfl
      have c2 : wr.cell? ⟨b, off + k * 4 + 2, none⟩ = some (.int .i64 x.ver.epoch) := hcc 2 _ rfl
      have c3 : wr.cell? ⟨b, off + k * 4 + 3, none⟩ = some (.int .i64 x.ver.seq) := hcc 3 _ rfl
      have P := wrongLast q m x wr (Nat.lt_of_lt_of_le hq hw.size) ((hw.cell (p := ⟨q, 4, none⟩) hq).trans h4) ((hw.cell (p := ⟨q, 5, none⟩) hq).trans h5)
      have HX := Lib.hid hx
      clear hcc hc hw hx r
      cases hp : badL m x
      · rw [hp] at P
        have P := Lib.hid P
        have HN2 := Lib.hid (show ∀ i y, i < k + 1 → l[i]? = some y → badL m y = false from fun i y hi hy => by
          by_cases e : i = k
          · subst e; rw [HX.out] at hy; cases hy; exact hp
          · exact HN.out i y (by omega) hy)
        clear hp
        go_wp2_with fail
        refine P.out.mono ?_
        rintro e w1 ⟨rfl, b1⟩
        have B1 := Lib.hid (chainX w HW.out b1)
        clear b1 P
        go_wp2
        go_roundw
        case rel => exact ⟨k + 1, by omega, by go_num, HN2.out, B1.out⟩
        case measure => simp [intOf]; omega
      · rw [hp] at P
        have P := Lib.hid P
        have Y := Lib.hid (show ∃ x, x ∈ l ∧ badL m x = true from ⟨x, MEM.out k x HX.out, hp⟩)
        clear hp
        go_wp2_with fail
        refine P.out.mono ?_
        rintro e w1 ⟨rfl, b1⟩
        have B1 := Lib.hid (chainX w HW.out b1)
        clear b1 P
        go_wp2
        go_ret
        exact ⟨_, rfl, B1.out, .inl ⟨by omega, Y.out⟩⟩
    · obtain rfl : k = n := by omega
      have N := Lib.hid (NO.out HN.out)
      clear hc hw
      go_wp2
      go_ret
      exact ⟨_, rfl, HW.out, .inr ⟨rfl, N.out⟩⟩
set_option maxRecDepth 100000 in
set_option maxHeartbeats 1000000 in
theorem hasWrongLast (q : Nat) (m : DVer) (a : Option Addr) (cap : Nat) (l : List DLast) (w : World) (hl : l.length ≤ 2097152) {fr : Bool} {lo : Nat} (hc : Rows fr lo w a l) (hq : q < w.heap.size) (h4 : w.cell? ⟨q, 4, none⟩ = some (.int .i64 m.epoch)) (h5 : w.cell? ⟨q, 5, none⟩ = some (.int .i64 m.seq)) :
    Calls Tryz.prog 87 #[.slice a l.length cap, .func (.func 80) #[] #[.pointer (some ⟨q, 0, none⟩)]] w (IffB (∃ x, x ∈ l ∧ badL m x = true) w) := by
  have I := Lib.hid (hasWrongLast_idx q m a cap l w hl hc hq h4 h5)
  clear hc
  go_enter Tryz.func87, Tryz.ntmps87
  go_wp2_with fail
  refine I.out.mono ?_
  rintro e w1 ⟨i, rfl, b1, ⟨h0, Y⟩ | ⟨rfl, N⟩⟩
  · have h' : decide (0 ≤ i) = true := decide_eq_true h0
    have Y := Lib.hid Y
    have B := Lib.hid b1
    clear b1
    go_wp2
    go_ret
    exact IffB.yes Y.out B.out
  · have N := Lib.hid N
    have B := Lib.hid b1
    clear b1
    go_wp2
    go_ret
    exact IffB.no N.out B.out
set_option maxRecDepth 100000 in
set_option maxHeartbeats 4000000 in
theorem wrongChunk (x : DChunk) (hz : x.name.size ≤ 9223372036854775807) (w : World) (hT : Nam.Tabs w) : Calls Tryz.prog 94 #[.agg #[.string x.name, .int .i64 x.ver.epoch, .int .i64 x.ver.seq, .int .i64 x.pos, .int .i64 x.sum, .string x.bytes]] w (RetW (.bool (badC x)) w) := by
  unfold badC
  have LY := Lib.hid (lay w (.cells #[.string x.name, .int .i64 x.ver.epoch, .int .i64 x.ver.seq, .int .i64 x.pos, .int .i64 x.sum, .string x.bytes] 48))
  have C := Lib.hid (fun w' (b : Below (w.alloc (.cells #[.string x.name, .int .i64 x.ver.epoch, .int .i64 x.ver.seq, .int .i64 x.pos, .int .i64 x.sum, .string x.bytes] 48)).heap.size (w.alloc (.cells #[.string x.name, .int .i64 x.ver.epoch, .int .i64 x.ver.seq, .int .i64 x.pos, .int .i64 x.sum, .string x.bytes] 48)) w') => implChunkOk x w' hz (tabs_later (tabs_later hT LY.out) b))
  have BH := Lib.hid (Below.refl (w.alloc (.cells #[.string x.name, .int .i64 x.ver.epoch, .int .i64 x.ver.seq, .int .i64 x.pos, .int .i64 x.sum, .string x.bytes] 48)).heap.size (w.alloc (.cells #[.string x.name, .int .i64 x.ver.epoch, .int .i64 x.ver.seq, .int .i64 x.pos, .int .i64 x.sum, .string x.bytes] 48)))
  obtain ⟨v, hv⟩ : ∃ v, chunkB x = v := ⟨_, rfl⟩
  rw [hv] at C ⊢
  clear hv hT hz
  go_enter Tryz.func94, Tryz.ntmps94
  go_wp2_with fail
  refine (C.out _ BH.out).mono ?_
  rintro e w2 ⟨rfl, b2⟩
  have B2 := Lib.hid (chainX w LY.out b2)
  clear b2
  go_wp2
  go_ret
  exact ⟨rfl, B2.out⟩
set_option maxRecDepth 100000 in
set_option maxHeartbeats 1000000 in
theorem hasWrongChunk_idx  (a : Option Addr) (cap : Nat) (l : List DChunk) (w : World) (hl : l.length ≤ 2097152) {fr : Bool} {lo : Nat} (hc : Rows fr lo w a l) (hT : Nam.Tabs w) :
    Calls Tryz.prog 124 #[.slice a l.length cap, .func (.func 94) #[] #[]] w (IdxW (∃ x, x ∈ l ∧ badC x = true) w) := by
  have HL := Lib.hid (fun k (h : k < l.length) => get_lt h)
  have NO := Lib.hid (fun (h : ∀ i x, i < l.length → l[i]? = some x → badC x = false) => (show ¬ ∃ x, x ∈ l ∧ badC x = true from none_of h))
  have MEM := Lib.hid (fun k x (h : l[k]? = some x) => List.mem_of_getElem? h)
  obtain ⟨n, hn⟩ : ∃ n, n = l.length := ⟨_, rfl⟩
  rw [← hn] at hl HL NO ⊢
  clear hn
  go_enter Tryz.func124, Tryz.ntmps124
  go_wp2
  go_loopw [8] (fun i wr => ∃ k : Nat, k ≤ n ∧ i = .int .i64 k ∧ (∀ i x, i < k → l[i]? = some x → badC x = false) ∧ Below w.heap.size w wr) (fun i _ => n - (intOf i).toNat)
  case atStart => exact ⟨0, by omega, rfl, fun i x hi => absurd hi (Nat.not_lt_zero _), Below.refl _ _⟩
  case round =>
    obtain ⟨k, hk, rfl, HN, hw⟩ := hrel
    have HN := Lib.hid HN
    have HW := Lib.hid hw
    by_cases hlt : k < n
    · obtain ⟨x, hx⟩ := HL.out k hlt
      obtain ⟨b, off, cs, rfl, -, hB, hr, hcc⟩ := (hc.below hw).at' hx
      have r := hr
      obtain ⟨rfl, f0_0, f0_1, f0_2, f0_3, f0_4, f0_5⟩ := shape_Chunk hr
      have c0 : wr.cell? ⟨b, off + k * 6, none⟩ = some (.string x.name) := hcc 0 _ rfl
      have c1 : wr.cell? ⟨b, off + k * 6 + 1, none⟩ = some (.int .i64 x.ver.epoch) := hcc 1 _ rfl
      have c2 : wr.cell? ⟨b, off + k * 6 + 2, none⟩ = some (.int .i64 x.ver.seq) := hcc 2 _ rfl
      have c3 : wr.cell? ⟨b, off + k * 6 + 3, none⟩ = some (.int .i64 x.pos) := hcc 3 _ rfl
      have c4 : wr.cell? ⟨b, off + k * 6 + 4, none⟩ = some (.int .i64 x.sum) := hcc 4 _ rfl
      have c5 : wr.cell? ⟨b, off + k * 6 + 5, none⟩ = some (.string x.bytes) := hcc 5 _ rfl
      have P := wrongChunk x f0_0 wr (tabs_later hT hw)
      have HX := Lib.hid hx
      clear hcc hc hw hx r
      cases hp : badC x
      · rw [hp] at P
        have P := Lib.hid P
        have HN2 := Lib.hid (show ∀ i y, i < k + 1 → l[i]? = some y → badC y = false from fun i y hi hy => by
          by_cases e : i = k
          · subst e; rw [HX.out] at hy; cases hy; exact hp
          · exact HN.out i y (by omega) hy)
        clear hp
        go_wp2_with fail
        refine P.out.mono ?_
        rintro e w1 ⟨rfl, b1⟩
        have B1 := Lib.hid (chainX w HW.out b1)
        clear b1 P
        go_wp2
        go_roundw
        case rel => exact ⟨k + 1, by omega, by go_num, HN2.out, B1.out⟩
        case measure => simp [intOf]; omega
      · rw [hp] at P
        have P := Lib.hid P
        have Y := Lib.hid (show ∃ x, x ∈ l ∧ badC x = true from ⟨x, MEM.out k x HX.out, hp⟩)
        clear hp
        go_wp2_with fail
        refine P.out.mono ?_
        rintro e w1 ⟨rfl, b1⟩
        have B1 := Lib.hid (chainX w HW.out b1)
        clear b1 P
        go_wp2
        go_ret
        exact ⟨_, rfl, B1.out, .inl ⟨by omega, Y.out⟩⟩
    · obtain rfl : k = n := by omega
      have N := Lib.hid (NO.out HN.out)
      clear hc hw
      go_wp2
      go_ret
      exact ⟨_, rfl, HW.out, .inr ⟨rfl, N.out⟩⟩
set_option maxRecDepth 100000 in
set_option maxHeartbeats 1000000 in
theorem hasWrongChunk  (a : Option Addr) (cap : Nat) (l : List DChunk) (w : World) (hl : l.length ≤ 2097152) {fr : Bool} {lo : Nat} (hc : Rows fr lo w a l) (hT : Nam.Tabs w) :
    Calls Tryz.prog 98 #[.slice a l.length cap, .func (.func 94) #[] #[]] w (IffB (∃ x, x ∈ l ∧ badC x = true) w) := by
  have I := Lib.hid (hasWrongChunk_idx  a cap l w hl hc hT)
  clear hc
  go_enter Tryz.func98, Tryz.ntmps98
  go_wp2_with fail
  refine I.out.mono ?_
  rintro e w1 ⟨i, rfl, b1, ⟨h0, Y⟩ | ⟨rfl, N⟩⟩
  · have h' : decide (0 ≤ i) = true := decide_eq_true h0
    have Y := Lib.hid Y
    have B := Lib.hid b1
    clear b1
    go_wp2
    go_ret
    exact IffB.yes Y.out B.out
  · have N := Lib.hid N
    have B := Lib.hid b1
    clear b1
    go_wp2
    go_ret
    exact IffB.no N.out B.out
end Go.Proofs.YtbckdfoapmjilaaGreatDoor.Rd
