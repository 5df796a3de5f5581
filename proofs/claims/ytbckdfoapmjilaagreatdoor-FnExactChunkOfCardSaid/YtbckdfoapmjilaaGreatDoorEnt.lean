/-
  Valid entries of a log and valid chunks: what the program and the model answer (written by tools/gen/ent.py).
-/
import Derived.Test.YtbckdfoapmjilaaGreatDoorVok
import Derived.Test.YtbckdfoapmjilaaGreatDoorRs
import Derived.Test.YtbckdfoapmjilaaGreatDoorNmI
import Derived.Test.YtbckdfoapmjilaaGreatDoorDEntry
import Derived.Test.YtbckdfoapmjilaaGreatDoorDChunk
namespace Go.Proofs.YtbckdfoapmjilaaGreatDoor.Rd
open Go.RowKit Go.ChangeShapes Go.WideShapes Go.Proofs.YtbckdfoapmjilaaGreatDoor.GfI Go.Proofs.YtbckdfoapmjilaaGreatDoor.GfS
open Go.Proofs.YtbckdfoapmjilaaGreatDoor.Sg (BxN)
set_option linter.unusedVariables false
set_option linter.unusedSimpArgs false

def entryB (d : DEntry) : Bool := verB d.ver && (verB d.prior && (verL d.prior d.ver && (Nam.nameB d.name && (reqB d.req && (if d.gone then (d.size == 0) && (d.sum == 0) else inB d.size 0 64 && sumB d.sum)))))
def chunkB (d : DChunk) : Bool := Nam.nameB d.name && ((verB d.ver && !verZ d.ver) && (inB d.pos 0 6 && (sumB d.sum && decide (d.bytes.size ≤ 64))))
theorem tabs_later {w w' : World} (h : Nam.Tabs w) (b : Below w.heap.size w w') : Nam.Tabs w' := Utf8Tabs_below h b
theorem isBodySizeX (s : Int) (w : World) : Calls Tryz.prog 113 #[.int .i64 s] w fun e w' => e = .returned (.bool (inB s 0 64)) ∧ w = w' := by
  by_cases h0 : 0 ≤ s
  · by_cases h1 : s ≤ 64
    · rw [inB_yes h0 h1]
      go_enter Tryz.func113, Tryz.ntmps113
      go_wp2
      go_ret
      exact ⟨rfl, rfl⟩
    · have E : inB s 0 64 = false := by unfold inB; exact decide_eq_false (by omega)
      rw [E]
      clear E
      go_enter Tryz.func113, Tryz.ntmps113
      go_wp2
      go_ret
      exact ⟨rfl, rfl⟩
  · have E : inB s 0 64 = false := by unfold inB; exact decide_eq_false (by omega)
    rw [E]
    clear E
    go_enter Tryz.func113, Tryz.ntmps113
    go_wp2
    go_ret
    exact ⟨rfl, rfl⟩
theorem inB_natX (n : Nat) : inB (n : Int) 0 64 = decide (n ≤ 64) := by
  by_cases h : n ≤ 64
  · rw [inB_yes (by omega) (by omega), decide_eq_true h]
  · unfold inB; rw [decide_eq_false (by omega), decide_eq_false h]
theorem isBodyX (s : ByteArray) (w : World) : Calls Tryz.prog 123 #[.string s] w fun e w' => e = .returned (.bool (decide (s.size ≤ 64))) ∧ w = w' := by
  have H := Lib.hid (isBodySizeX (s.size : Int))
  rw [inB_natX] at H
  have H2 := Lib.hid H.out
  clear H
  generalize decide (s.size ≤ 64) = b at *
  go_enter Tryz.func123, Tryz.ntmps123
  go_wp2_with fail
  refine (H2.out _).mono ?_
  rintro e w1 ⟨rfl, rfl⟩
  go_wp2
  go_ret
  exact ⟨rfl, rfl⟩
set_option maxRecDepth 100000 in
set_option maxHeartbeats 4000000 in
theorem specEntryOk (d : DEntry) (w : World) : Calls Tryz.prog 70 #[.agg #[.int .i64 d.ver.epoch, .int .i64 d.ver.seq, .int .i64 d.prior.epoch, .int .i64 d.prior.seq, .string d.name, .bool d.gone, .int .i64 d.size, .int .i64 d.sum, .int .i64 d.req.client, .int .i64 d.req.no]] w (RetW (.bool (entryB d)) w) := by
  have BH := Lib.hid (lay w (.cells #[.int .i64 d.ver.epoch, .int .i64 d.ver.seq, .int .i64 d.prior.epoch, .int .i64 d.prior.seq, .string d.name, .bool d.gone, .int .i64 d.size, .int .i64 d.sum, .int .i64 d.req.client, .int .i64 d.req.no] 114))
  have XH := Lib.hid (BxN.new w #[.int .i64 d.ver.epoch, .int .i64 d.ver.seq, .int .i64 d.prior.epoch, .int .i64 d.prior.seq, .string d.name, .bool d.gone, .int .i64 d.size, .int .i64 d.sum, .int .i64 d.req.client, .int .i64 d.req.no] 114)
  have CV := Lib.hid (fun w' (b : Below w.heap.size w w') => specVerOk d.ver w')
  have CP := Lib.hid (fun w' (b : Below w.heap.size w w') => specVerOk d.prior w')
  have CL := Lib.hid (fun w' (b : Below w.heap.size w w') => specVerLess d.prior d.ver w')
  have CN := Lib.hid (fun w' (b : Below w.heap.size w w') => same_ret (Nam.specNameOk d.name w'))
  have CR := Lib.hid (fun w' (b : Below w.heap.size w w') => specReqOk d.req w')
  have CS := Lib.hid (fun w' (b : Below w.heap.size w w') => same_ret (l00In d.size 0 64 w'))
  have CM := Lib.hid (fun w' (b : Below w.heap.size w w') => same_ret (specSum d.sum w'))
  obtain ⟨v, hv⟩ : ∃ v, entryB d = v := ⟨_, rfl⟩
  rw [hv]
  unfold entryB at hv
  generalize verB d.ver = bv at *
  generalize verB d.prior = bp at *
  generalize verL d.prior d.ver = bl at *
  generalize Nam.nameB d.name = bn at *
  generalize reqB d.req = br at *
  generalize d.ver.epoch = ver_epoch at *
  generalize d.ver.seq = ver_seq at *
  generalize d.prior.epoch = prior_epoch at *
  generalize d.prior.seq = prior_seq at *
  generalize d.req.client = req_client at *
  generalize d.req.no = req_no at *
  generalize d.name = nm at *
  skip
  generalize d.gone = gone at *
  generalize d.size = size at *
  generalize d.sum = sum at *
  cases bv
  · simp only [Bool.false_and, Bool.and_false, Bool.true_and, Bool.and_true, Bool.false_or, Bool.or_false, Bool.true_or, Bool.or_true, Bool.not_true, Bool.not_false, if_true, if_false, Bool.false_eq_true, reduceIte] at hv
    subst hv
    go_enter Tryz.func70, Tryz.ntmps70
    go_wp2_with fail
    refine (CV.out _ BH.out).mono ?_
    rintro e w2 ⟨rfl, b2⟩
    have XH := Lib.hid (XH.out.later b2)
    obtain ⟨X_0, X_1, X_2, X_3, X_4, X_5, X_6, X_7, X_8, X_9⟩ := Rd.c10 XH.out
    have BH := Lib.hid (chainX w BH.out b2)
    clear b2
    go_wp2
    go_ret
    exact ⟨rfl, BH.out⟩
  · skip
    cases bp
    · simp only [Bool.false_and, Bool.and_false, Bool.true_and, Bool.and_true, Bool.false_or, Bool.or_false, Bool.true_or, Bool.or_true, Bool.not_true, Bool.not_false, if_true, if_false, Bool.false_eq_true, reduceIte] at hv
      subst hv
      go_enter Tryz.func70, Tryz.ntmps70
      go_wp2_with fail
      refine (CV.out _ BH.out).mono ?_
      rintro e w2 ⟨rfl, b2⟩
      have XH := Lib.hid (XH.out.later b2)
      obtain ⟨X_0, X_1, X_2, X_3, X_4, X_5, X_6, X_7, X_8, X_9⟩ := Rd.c10 XH.out
      have BH := Lib.hid (chainX w BH.out b2)
      clear b2
      go_wp2_with fail
      refine (CP.out _ BH.out).mono ?_
      rintro e w2 ⟨rfl, b2⟩
      have XH := Lib.hid (XH.out.later b2)
      obtain ⟨X_0, X_1, X_2, X_3, X_4, X_5, X_6, X_7, X_8, X_9⟩ := Rd.c10 XH.out
      have BH := Lib.hid (chainX w BH.out b2)
      clear b2
      go_wp2
      go_ret
      exact ⟨rfl, BH.out⟩
    · skip
      cases bl
      · simp only [Bool.false_and, Bool.and_false, Bool.true_and, Bool.and_true, Bool.false_or, Bool.or_false, Bool.true_or, Bool.or_true, Bool.not_true, Bool.not_false, if_true, if_false, Bool.false_eq_true, reduceIte] at hv
        subst hv
        go_enter Tryz.func70, Tryz.ntmps70
        go_wp2_with fail
        refine (CV.out _ BH.out).mono ?_
        rintro e w2 ⟨rfl, b2⟩
        have XH := Lib.hid (XH.out.later b2)
        obtain ⟨X_0, X_1, X_2, X_3, X_4, X_5, X_6, X_7, X_8, X_9⟩ := Rd.c10 XH.out
        have BH := Lib.hid (chainX w BH.out b2)
        clear b2
        go_wp2_with fail
        refine (CP.out _ BH.out).mono ?_
        rintro e w2 ⟨rfl, b2⟩
        have XH := Lib.hid (XH.out.later b2)
        obtain ⟨X_0, X_1, X_2, X_3, X_4, X_5, X_6, X_7, X_8, X_9⟩ := Rd.c10 XH.out
        have BH := Lib.hid (chainX w BH.out b2)
        clear b2
        go_wp2_with fail
        refine (CL.out _ BH.out).mono ?_
        rintro e w2 ⟨rfl, b2⟩
        have XH := Lib.hid (XH.out.later b2)
        obtain ⟨X_0, X_1, X_2, X_3, X_4, X_5, X_6, X_7, X_8, X_9⟩ := Rd.c10 XH.out
        have BH := Lib.hid (chainX w BH.out b2)
        clear b2
        go_wp2
        go_ret
        exact ⟨rfl, BH.out⟩
      · skip
        cases bn
        · simp only [Bool.false_and, Bool.and_false, Bool.true_and, Bool.and_true, Bool.false_or, Bool.or_false, Bool.true_or, Bool.or_true, Bool.not_true, Bool.not_false, if_true, if_false, Bool.false_eq_true, reduceIte] at hv
          subst hv
          go_enter Tryz.func70, Tryz.ntmps70
          go_wp2_with fail
          refine (CV.out _ BH.out).mono ?_
          rintro e w2 ⟨rfl, b2⟩
          have XH := Lib.hid (XH.out.later b2)
          obtain ⟨X_0, X_1, X_2, X_3, X_4, X_5, X_6, X_7, X_8, X_9⟩ := Rd.c10 XH.out
          have BH := Lib.hid (chainX w BH.out b2)
          clear b2
          go_wp2_with fail
          refine (CP.out _ BH.out).mono ?_
          rintro e w2 ⟨rfl, b2⟩
          have XH := Lib.hid (XH.out.later b2)
          obtain ⟨X_0, X_1, X_2, X_3, X_4, X_5, X_6, X_7, X_8, X_9⟩ := Rd.c10 XH.out
          have BH := Lib.hid (chainX w BH.out b2)
          clear b2
          go_wp2_with fail
          refine (CL.out _ BH.out).mono ?_
          rintro e w2 ⟨rfl, b2⟩
          have XH := Lib.hid (XH.out.later b2)
          obtain ⟨X_0, X_1, X_2, X_3, X_4, X_5, X_6, X_7, X_8, X_9⟩ := Rd.c10 XH.out
          have BH := Lib.hid (chainX w BH.out b2)
          clear b2
          go_wp2_with fail
          refine (CN.out _ BH.out).mono ?_
          rintro e w2 ⟨rfl, b2⟩
          have XH := Lib.hid (XH.out.later b2)
          obtain ⟨X_0, X_1, X_2, X_3, X_4, X_5, X_6, X_7, X_8, X_9⟩ := Rd.c10 XH.out
          have BH := Lib.hid (chainX w BH.out b2)
          clear b2
          go_wp2
          go_ret
          exact ⟨rfl, BH.out⟩
        · skip
          cases br
          · simp only [Bool.false_and, Bool.and_false, Bool.true_and, Bool.and_true, Bool.false_or, Bool.or_false, Bool.true_or, Bool.or_true, Bool.not_true, Bool.not_false, if_true, if_false, Bool.false_eq_true, reduceIte] at hv
            subst hv
            go_enter Tryz.func70, Tryz.ntmps70
            go_wp2_with fail
            refine (CV.out _ BH.out).mono ?_
            rintro e w2 ⟨rfl, b2⟩
            have XH := Lib.hid (XH.out.later b2)
            obtain ⟨X_0, X_1, X_2, X_3, X_4, X_5, X_6, X_7, X_8, X_9⟩ := Rd.c10 XH.out
            have BH := Lib.hid (chainX w BH.out b2)
            clear b2
            go_wp2_with fail
            refine (CP.out _ BH.out).mono ?_
            rintro e w2 ⟨rfl, b2⟩
            have XH := Lib.hid (XH.out.later b2)
            obtain ⟨X_0, X_1, X_2, X_3, X_4, X_5, X_6, X_7, X_8, X_9⟩ := Rd.c10 XH.out
            have BH := Lib.hid (chainX w BH.out b2)
            clear b2
            go_wp2_with fail
            refine (CL.out _ BH.out).mono ?_
            rintro e w2 ⟨rfl, b2⟩
            have XH := Lib.hid (XH.out.later b2)
            obtain ⟨X_0, X_1, X_2, X_3, X_4, X_5, X_6, X_7, X_8, X_9⟩ := Rd.c10 XH.out
            have BH := Lib.hid (chainX w BH.out b2)
            clear b2
            go_wp2_with fail
            refine (CN.out _ BH.out).mono ?_
            rintro e w2 ⟨rfl, b2⟩
            have XH := Lib.hid (XH.out.later b2)
            obtain ⟨X_0, X_1, X_2, X_3, X_4, X_5, X_6, X_7, X_8, X_9⟩ := Rd.c10 XH.out
            have BH := Lib.hid (chainX w BH.out b2)
            clear b2
            go_wp2_with fail
            refine (CR.out _ BH.out).mono ?_
            rintro e w2 ⟨rfl, b2⟩
            have XH := Lib.hid (XH.out.later b2)
            obtain ⟨X_0, X_1, X_2, X_3, X_4, X_5, X_6, X_7, X_8, X_9⟩ := Rd.c10 XH.out
            have BH := Lib.hid (chainX w BH.out b2)
            clear b2
            go_wp2
            go_ret
            exact ⟨rfl, BH.out⟩
          · skip
            cases gone
            · generalize inB size 0 64 = bs at *
              generalize sumB sum = bm at *
              cases bs
              · simp only [Bool.false_and, Bool.and_false, Bool.true_and, Bool.and_true, Bool.false_or, Bool.or_false, Bool.true_or, Bool.or_true, Bool.not_true, Bool.not_false, if_true, if_false, Bool.false_eq_true, reduceIte] at hv
                subst hv
                go_enter Tryz.func70, Tryz.ntmps70
                go_wp2_with fail
                refine (CV.out _ BH.out).mono ?_
                rintro e w2 ⟨rfl, b2⟩
                have XH := Lib.hid (XH.out.later b2)
                obtain ⟨X_0, X_1, X_2, X_3, X_4, X_5, X_6, X_7, X_8, X_9⟩ := Rd.c10 XH.out
                have BH := Lib.hid (chainX w BH.out b2)
                clear b2
                go_wp2_with fail
                refine (CP.out _ BH.out).mono ?_
                rintro e w2 ⟨rfl, b2⟩
                have XH := Lib.hid (XH.out.later b2)
                obtain ⟨X_0, X_1, X_2, X_3, X_4, X_5, X_6, X_7, X_8, X_9⟩ := Rd.c10 XH.out
                have BH := Lib.hid (chainX w BH.out b2)
                clear b2
                go_wp2_with fail
                refine (CL.out _ BH.out).mono ?_
                rintro e w2 ⟨rfl, b2⟩
                have XH := Lib.hid (XH.out.later b2)
                obtain ⟨X_0, X_1, X_2, X_3, X_4, X_5, X_6, X_7, X_8, X_9⟩ := Rd.c10 XH.out
                have BH := Lib.hid (chainX w BH.out b2)
                clear b2
                go_wp2_with fail
                refine (CN.out _ BH.out).mono ?_
                rintro e w2 ⟨rfl, b2⟩
                have XH := Lib.hid (XH.out.later b2)
                obtain ⟨X_0, X_1, X_2, X_3, X_4, X_5, X_6, X_7, X_8, X_9⟩ := Rd.c10 XH.out
                have BH := Lib.hid (chainX w BH.out b2)
                clear b2
                go_wp2_with fail
                refine (CR.out _ BH.out).mono ?_
                rintro e w2 ⟨rfl, b2⟩
                have XH := Lib.hid (XH.out.later b2)
                obtain ⟨X_0, X_1, X_2, X_3, X_4, X_5, X_6, X_7, X_8, X_9⟩ := Rd.c10 XH.out
                have BH := Lib.hid (chainX w BH.out b2)
                clear b2
                go_wp2_with fail
                refine (CS.out _ BH.out).mono ?_
                rintro e w2 ⟨rfl, b2⟩
                have XH := Lib.hid (XH.out.later b2)
                obtain ⟨X_0, X_1, X_2, X_3, X_4, X_5, X_6, X_7, X_8, X_9⟩ := Rd.c10 XH.out
                have BH := Lib.hid (chainX w BH.out b2)
                clear b2
                go_wp2
                go_ret
                exact ⟨rfl, BH.out⟩
              · skip
                cases bm
                · simp only [Bool.false_and, Bool.and_false, Bool.true_and, Bool.and_true, Bool.false_or, Bool.or_false, Bool.true_or, Bool.or_true, Bool.not_true, Bool.not_false, if_true, if_false, Bool.false_eq_true, reduceIte] at hv
                  subst hv
                  go_enter Tryz.func70, Tryz.ntmps70
                  go_wp2_with fail
                  refine (CV.out _ BH.out).mono ?_
                  rintro e w2 ⟨rfl, b2⟩
                  have XH := Lib.hid (XH.out.later b2)
                  obtain ⟨X_0, X_1, X_2, X_3, X_4, X_5, X_6, X_7, X_8, X_9⟩ := Rd.c10 XH.out
                  have BH := Lib.hid (chainX w BH.out b2)
                  clear b2
                  go_wp2_with fail
                  refine (CP.out _ BH.out).mono ?_
                  rintro e w2 ⟨rfl, b2⟩
                  have XH := Lib.hid (XH.out.later b2)
                  obtain ⟨X_0, X_1, X_2, X_3, X_4, X_5, X_6, X_7, X_8, X_9⟩ := Rd.c10 XH.out
                  have BH := Lib.hid (chainX w BH.out b2)
                  clear b2
                  go_wp2_with fail
                  refine (CL.out _ BH.out).mono ?_
                  rintro e w2 ⟨rfl, b2⟩
                  have XH := Lib.hid (XH.out.later b2)
                  obtain ⟨X_0, X_1, X_2, X_3, X_4, X_5, X_6, X_7, X_8, X_9⟩ := Rd.c10 XH.out
                  have BH := Lib.hid (chainX w BH.out b2)
                  clear b2
                  go_wp2_with fail
                  refine (CN.out _ BH.out).mono ?_
                  rintro e w2 ⟨rfl, b2⟩
                  have XH := Lib.hid (XH.out.later b2)
                  obtain ⟨X_0, X_1, X_2, X_3, X_4, X_5, X_6, X_7, X_8, X_9⟩ := Rd.c10 XH.out
                  have BH := Lib.hid (chainX w BH.out b2)
                  clear b2
                  go_wp2_with fail
                  refine (CR.out _ BH.out).mono ?_
                  rintro e w2 ⟨rfl, b2⟩
                  have XH := Lib.hid (XH.out.later b2)
                  obtain ⟨X_0, X_1, X_2, X_3, X_4, X_5, X_6, X_7, X_8, X_9⟩ := Rd.c10 XH.out
                  have BH := Lib.hid (chainX w BH.out b2)
                  clear b2
                  go_wp2_with fail
                  refine (CS.out _ BH.out).mono ?_
                  rintro e w2 ⟨rfl, b2⟩
                  have XH := Lib.hid (XH.out.later b2)
                  obtain ⟨X_0, X_1, X_2, X_3, X_4, X_5, X_6, X_7, X_8, X_9⟩ := Rd.c10 XH.out
                  have BH := Lib.hid (chainX w BH.out b2)
                  clear b2
                  go_wp2_with fail
                  refine (CM.out _ BH.out).mono ?_
                  rintro e w2 ⟨rfl, b2⟩
                  have XH := Lib.hid (XH.out.later b2)
                  obtain ⟨X_0, X_1, X_2, X_3, X_4, X_5, X_6, X_7, X_8, X_9⟩ := Rd.c10 XH.out
                  have BH := Lib.hid (chainX w BH.out b2)
                  clear b2
                  go_wp2
                  go_ret
                  exact ⟨rfl, BH.out⟩
                · skip
                  simp only [Bool.false_and, Bool.and_false, Bool.true_and, Bool.and_true, Bool.false_or, Bool.or_false, Bool.true_or, Bool.or_true, Bool.not_true, Bool.not_false, if_true, if_false, Bool.false_eq_true, reduceIte] at hv
                  subst hv
                  go_enter Tryz.func70, Tryz.ntmps70
                  go_wp2_with fail
                  refine (CV.out _ BH.out).mono ?_
                  rintro e w2 ⟨rfl, b2⟩
                  have XH := Lib.hid (XH.out.later b2)
                  obtain ⟨X_0, X_1, X_2, X_3, X_4, X_5, X_6, X_7, X_8, X_9⟩ := Rd.c10 XH.out
                  have BH := Lib.hid (chainX w BH.out b2)
                  clear b2
                  go_wp2_with fail
                  refine (CP.out _ BH.out).mono ?_
                  rintro e w2 ⟨rfl, b2⟩
                  have XH := Lib.hid (XH.out.later b2)
                  obtain ⟨X_0, X_1, X_2, X_3, X_4, X_5, X_6, X_7, X_8, X_9⟩ := Rd.c10 XH.out
                  have BH := Lib.hid (chainX w BH.out b2)
                  clear b2
                  go_wp2_with fail
                  refine (CL.out _ BH.out).mono ?_
                  rintro e w2 ⟨rfl, b2⟩
                  have XH := Lib.hid (XH.out.later b2)
                  obtain ⟨X_0, X_1, X_2, X_3, X_4, X_5, X_6, X_7, X_8, X_9⟩ := Rd.c10 XH.out
                  have BH := Lib.hid (chainX w BH.out b2)
                  clear b2
                  go_wp2_with fail
                  refine (CN.out _ BH.out).mono ?_
                  rintro e w2 ⟨rfl, b2⟩
                  have XH := Lib.hid (XH.out.later b2)
                  obtain ⟨X_0, X_1, X_2, X_3, X_4, X_5, X_6, X_7, X_8, X_9⟩ := Rd.c10 XH.out
                  have BH := Lib.hid (chainX w BH.out b2)
                  clear b2
                  go_wp2_with fail
                  refine (CR.out _ BH.out).mono ?_
                  rintro e w2 ⟨rfl, b2⟩
                  have XH := Lib.hid (XH.out.later b2)
                  obtain ⟨X_0, X_1, X_2, X_3, X_4, X_5, X_6, X_7, X_8, X_9⟩ := Rd.c10 XH.out
                  have BH := Lib.hid (chainX w BH.out b2)
                  clear b2
                  go_wp2_with fail
                  refine (CS.out _ BH.out).mono ?_
                  rintro e w2 ⟨rfl, b2⟩
                  have XH := Lib.hid (XH.out.later b2)
                  obtain ⟨X_0, X_1, X_2, X_3, X_4, X_5, X_6, X_7, X_8, X_9⟩ := Rd.c10 XH.out
                  have BH := Lib.hid (chainX w BH.out b2)
                  clear b2
                  go_wp2_with fail
                  refine (CM.out _ BH.out).mono ?_
                  rintro e w2 ⟨rfl, b2⟩
                  have XH := Lib.hid (XH.out.later b2)
                  obtain ⟨X_0, X_1, X_2, X_3, X_4, X_5, X_6, X_7, X_8, X_9⟩ := Rd.c10 XH.out
                  have BH := Lib.hid (chainX w BH.out b2)
                  clear b2
                  go_wp2
                  go_ret
                  exact ⟨rfl, BH.out⟩
            · by_cases h1 : size = 0
              · subst h1
                by_cases h2 : sum = 0
                · subst h2
                  simp only [Bool.false_and, Bool.and_false, Bool.true_and, Bool.and_true, Bool.false_or, Bool.or_false, Bool.true_or, Bool.or_true, Bool.not_true, Bool.not_false, if_true, if_false, Bool.false_eq_true, reduceIte, beq_self_eq_true] at hv
                  subst hv
                  go_enter Tryz.func70, Tryz.ntmps70
                  go_wp2_with fail
                  refine (CV.out _ BH.out).mono ?_
                  rintro e w2 ⟨rfl, b2⟩
                  have XH := Lib.hid (XH.out.later b2)
                  obtain ⟨X_0, X_1, X_2, X_3, X_4, X_5, X_6, X_7, X_8, X_9⟩ := Rd.c10 XH.out
                  have BH := Lib.hid (chainX w BH.out b2)
                  clear b2
                  go_wp2_with fail
                  refine (CP.out _ BH.out).mono ?_
                  rintro e w2 ⟨rfl, b2⟩
                  have XH := Lib.hid (XH.out.later b2)
                  obtain ⟨X_0, X_1, X_2, X_3, X_4, X_5, X_6, X_7, X_8, X_9⟩ := Rd.c10 XH.out
                  have BH := Lib.hid (chainX w BH.out b2)
                  clear b2
                  go_wp2_with fail
                  refine (CL.out _ BH.out).mono ?_
                  rintro e w2 ⟨rfl, b2⟩
                  have XH := Lib.hid (XH.out.later b2)
                  obtain ⟨X_0, X_1, X_2, X_3, X_4, X_5, X_6, X_7, X_8, X_9⟩ := Rd.c10 XH.out
                  have BH := Lib.hid (chainX w BH.out b2)
                  clear b2
                  go_wp2_with fail
                  refine (CN.out _ BH.out).mono ?_
                  rintro e w2 ⟨rfl, b2⟩
                  have XH := Lib.hid (XH.out.later b2)
                  obtain ⟨X_0, X_1, X_2, X_3, X_4, X_5, X_6, X_7, X_8, X_9⟩ := Rd.c10 XH.out
                  have BH := Lib.hid (chainX w BH.out b2)
                  clear b2
                  go_wp2_with fail
                  refine (CR.out _ BH.out).mono ?_
                  rintro e w2 ⟨rfl, b2⟩
                  have XH := Lib.hid (XH.out.later b2)
                  obtain ⟨X_0, X_1, X_2, X_3, X_4, X_5, X_6, X_7, X_8, X_9⟩ := Rd.c10 XH.out
                  have BH := Lib.hid (chainX w BH.out b2)
                  clear b2
                  go_wp2
                  go_ret
                  exact ⟨rfl, BH.out⟩
                · have q2 : (sum == 0) = false := by simpa using h2
                  simp only [Bool.false_and, Bool.and_false, Bool.true_and, Bool.and_true, Bool.false_or, Bool.or_false, Bool.true_or, Bool.or_true, Bool.not_true, Bool.not_false, if_true, if_false, Bool.false_eq_true, reduceIte, beq_self_eq_true, q2] at hv
                  subst hv
                  go_enter Tryz.func70, Tryz.ntmps70
                  go_wp2_with fail
                  refine (CV.out _ BH.out).mono ?_
                  rintro e w2 ⟨rfl, b2⟩
                  have XH := Lib.hid (XH.out.later b2)
                  obtain ⟨X_0, X_1, X_2, X_3, X_4, X_5, X_6, X_7, X_8, X_9⟩ := Rd.c10 XH.out
                  have BH := Lib.hid (chainX w BH.out b2)
                  clear b2
                  go_wp2_with fail
                  refine (CP.out _ BH.out).mono ?_
                  rintro e w2 ⟨rfl, b2⟩
                  have XH := Lib.hid (XH.out.later b2)
                  obtain ⟨X_0, X_1, X_2, X_3, X_4, X_5, X_6, X_7, X_8, X_9⟩ := Rd.c10 XH.out
                  have BH := Lib.hid (chainX w BH.out b2)
                  clear b2
                  go_wp2_with fail
                  refine (CL.out _ BH.out).mono ?_
                  rintro e w2 ⟨rfl, b2⟩
                  have XH := Lib.hid (XH.out.later b2)
                  obtain ⟨X_0, X_1, X_2, X_3, X_4, X_5, X_6, X_7, X_8, X_9⟩ := Rd.c10 XH.out
                  have BH := Lib.hid (chainX w BH.out b2)
                  clear b2
                  go_wp2_with fail
                  refine (CN.out _ BH.out).mono ?_
                  rintro e w2 ⟨rfl, b2⟩
                  have XH := Lib.hid (XH.out.later b2)
                  obtain ⟨X_0, X_1, X_2, X_3, X_4, X_5, X_6, X_7, X_8, X_9⟩ := Rd.c10 XH.out
                  have BH := Lib.hid (chainX w BH.out b2)
                  clear b2
                  go_wp2_with fail
                  refine (CR.out _ BH.out).mono ?_
                  rintro e w2 ⟨rfl, b2⟩
                  have XH := Lib.hid (XH.out.later b2)
                  obtain ⟨X_0, X_1, X_2, X_3, X_4, X_5, X_6, X_7, X_8, X_9⟩ := Rd.c10 XH.out
                  have BH := Lib.hid (chainX w BH.out b2)
                  clear b2
                  go_wp2
                  go_ret
                  exact ⟨rfl, BH.out⟩
              · have q1 : (size == 0) = false := by simpa using h1
                simp only [Bool.false_and, Bool.and_false, Bool.true_and, Bool.and_true, Bool.false_or, Bool.or_false, Bool.true_or, Bool.or_true, Bool.not_true, Bool.not_false, if_true, if_false, Bool.false_eq_true, reduceIte, q1] at hv
                subst hv
                go_enter Tryz.func70, Tryz.ntmps70
                go_wp2_with fail
                refine (CV.out _ BH.out).mono ?_
                rintro e w2 ⟨rfl, b2⟩
                have XH := Lib.hid (XH.out.later b2)
                obtain ⟨X_0, X_1, X_2, X_3, X_4, X_5, X_6, X_7, X_8, X_9⟩ := Rd.c10 XH.out
                have BH := Lib.hid (chainX w BH.out b2)
                clear b2
                go_wp2_with fail
                refine (CP.out _ BH.out).mono ?_
                rintro e w2 ⟨rfl, b2⟩
                have XH := Lib.hid (XH.out.later b2)
                obtain ⟨X_0, X_1, X_2, X_3, X_4, X_5, X_6, X_7, X_8, X_9⟩ := Rd.c10 XH.out
                have BH := Lib.hid (chainX w BH.out b2)
                clear b2
                go_wp2_with fail
                refine (CL.out _ BH.out).mono ?_
                rintro e w2 ⟨rfl, b2⟩
                have XH := Lib.hid (XH.out.later b2)
                obtain ⟨X_0, X_1, X_2, X_3, X_4, X_5, X_6, X_7, X_8, X_9⟩ := Rd.c10 XH.out
                have BH := Lib.hid (chainX w BH.out b2)
                clear b2
                go_wp2_with fail
                refine (CN.out _ BH.out).mono ?_
                rintro e w2 ⟨rfl, b2⟩
                have XH := Lib.hid (XH.out.later b2)
                obtain ⟨X_0, X_1, X_2, X_3, X_4, X_5, X_6, X_7, X_8, X_9⟩ := Rd.c10 XH.out
                have BH := Lib.hid (chainX w BH.out b2)
                clear b2
                go_wp2_with fail
                refine (CR.out _ BH.out).mono ?_
                rintro e w2 ⟨rfl, b2⟩
                have XH := Lib.hid (XH.out.later b2)
                obtain ⟨X_0, X_1, X_2, X_3, X_4, X_5, X_6, X_7, X_8, X_9⟩ := Rd.c10 XH.out
                have BH := Lib.hid (chainX w BH.out b2)
                clear b2
                go_wp2
                go_ret
                exact ⟨rfl, BH.out⟩
set_option maxRecDepth 100000 in
set_option maxHeartbeats 4000000 in
theorem implEntryOk (d : DEntry) (w : World) (hz : d.name.size ≤ 9223372036854775807) (hT : Nam.Tabs w) : Calls Tryz.prog 90 #[.agg #[.int .i64 d.ver.epoch, .int .i64 d.ver.seq, .int .i64 d.prior.epoch, .int .i64 d.prior.seq, .string d.name, .bool d.gone, .int .i64 d.size, .int .i64 d.sum, .int .i64 d.req.client, .int .i64 d.req.no]] w (RetW (.bool (entryB d)) w) := by
  have BH := Lib.hid (lay w (.cells #[.int .i64 d.ver.epoch, .int .i64 d.ver.seq, .int .i64 d.prior.epoch, .int .i64 d.prior.seq, .string d.name, .bool d.gone, .int .i64 d.size, .int .i64 d.sum, .int .i64 d.req.client, .int .i64 d.req.no] 114))
  have XH := Lib.hid (BxN.new w #[.int .i64 d.ver.epoch, .int .i64 d.ver.seq, .int .i64 d.prior.epoch, .int .i64 d.prior.seq, .string d.name, .bool d.gone, .int .i64 d.size, .int .i64 d.sum, .int .i64 d.req.client, .int .i64 d.req.no] 114)
  have CV := Lib.hid (fun w' (b : Below w.heap.size w w') => implVerOk d.ver w')
  have CP := Lib.hid (fun w' (b : Below w.heap.size w w') => implVerOk d.prior w')
  have CL := Lib.hid (fun w' (b : Below w.heap.size w w') => implVerLess d.prior d.ver w')
  have CN := Lib.hid (fun w' (b : Below w.heap.size w w') => Nam.implNameOk d.name hz w' (tabs_later hT b))
  have CR := Lib.hid (fun w' (b : Below w.heap.size w w') => implReqOk d.req w')
  have CS := Lib.hid (fun w' (b : Below w.heap.size w w') => same_ret (isBodySizeX d.size w'))
  have CM := Lib.hid (fun w' (b : Below w.heap.size w w') => same_ret (implSum d.sum w'))
  obtain ⟨v, hv⟩ : ∃ v, entryB d = v := ⟨_, rfl⟩
  rw [hv]
  unfold entryB at hv
  generalize verB d.ver = bv at *
  generalize verB d.prior = bp at *
  generalize verL d.prior d.ver = bl at *
  generalize Nam.nameB d.name = bn at *
  generalize reqB d.req = br at *
  generalize d.ver.epoch = ver_epoch at *
  generalize d.ver.seq = ver_seq at *
  generalize d.prior.epoch = prior_epoch at *
  generalize d.prior.seq = prior_seq at *
  generalize d.req.client = req_client at *
  generalize d.req.no = req_no at *
  generalize d.name = nm at *
  clear hT hz
  generalize d.gone = gone at *
  generalize d.size = size at *
  generalize d.sum = sum at *
  cases gone
  · generalize inB size 0 64 = bs at *
    generalize sumB sum = bm at *
    cases bv
    · simp only [Bool.false_and, Bool.and_false, Bool.true_and, Bool.and_true, Bool.false_or, Bool.or_false, Bool.true_or, Bool.or_true, Bool.not_true, Bool.not_false, if_true, if_false, Bool.false_eq_true, reduceIte] at hv
      subst hv
      go_enter Tryz.func90, Tryz.ntmps90
      go_wp2_with fail
      refine (CV.out _ BH.out).mono ?_
      rintro e w2 ⟨rfl, b2⟩
      have XH := Lib.hid (XH.out.later b2)
      obtain ⟨X_0, X_1, X_2, X_3, X_4, X_5, X_6, X_7, X_8, X_9⟩ := Rd.c10 XH.out
      have BH := Lib.hid (chainX w BH.out b2)
      clear b2
      go_wp2
      go_ret
      exact ⟨rfl, BH.out⟩
    · skip
      cases bp
      · simp only [Bool.false_and, Bool.and_false, Bool.true_and, Bool.and_true, Bool.false_or, Bool.or_false, Bool.true_or, Bool.or_true, Bool.not_true, Bool.not_false, if_true, if_false, Bool.false_eq_true, reduceIte] at hv
        subst hv
        go_enter Tryz.func90, Tryz.ntmps90
        go_wp2_with fail
        refine (CV.out _ BH.out).mono ?_
        rintro e w2 ⟨rfl, b2⟩
        have XH := Lib.hid (XH.out.later b2)
        obtain ⟨X_0, X_1, X_2, X_3, X_4, X_5, X_6, X_7, X_8, X_9⟩ := Rd.c10 XH.out
        have BH := Lib.hid (chainX w BH.out b2)
        clear b2
        go_wp2_with fail
        refine (CP.out _ BH.out).mono ?_
        rintro e w2 ⟨rfl, b2⟩
        have XH := Lib.hid (XH.out.later b2)
        obtain ⟨X_0, X_1, X_2, X_3, X_4, X_5, X_6, X_7, X_8, X_9⟩ := Rd.c10 XH.out
        have BH := Lib.hid (chainX w BH.out b2)
        clear b2
        go_wp2
        go_ret
        exact ⟨rfl, BH.out⟩
      · skip
        cases bl
        · simp only [Bool.false_and, Bool.and_false, Bool.true_and, Bool.and_true, Bool.false_or, Bool.or_false, Bool.true_or, Bool.or_true, Bool.not_true, Bool.not_false, if_true, if_false, Bool.false_eq_true, reduceIte] at hv
          subst hv
          go_enter Tryz.func90, Tryz.ntmps90
          go_wp2_with fail
          refine (CV.out _ BH.out).mono ?_
          rintro e w2 ⟨rfl, b2⟩
          have XH := Lib.hid (XH.out.later b2)
          obtain ⟨X_0, X_1, X_2, X_3, X_4, X_5, X_6, X_7, X_8, X_9⟩ := Rd.c10 XH.out
          have BH := Lib.hid (chainX w BH.out b2)
          clear b2
          go_wp2_with fail
          refine (CP.out _ BH.out).mono ?_
          rintro e w2 ⟨rfl, b2⟩
          have XH := Lib.hid (XH.out.later b2)
          obtain ⟨X_0, X_1, X_2, X_3, X_4, X_5, X_6, X_7, X_8, X_9⟩ := Rd.c10 XH.out
          have BH := Lib.hid (chainX w BH.out b2)
          clear b2
          go_wp2_with fail
          refine (CL.out _ BH.out).mono ?_
          rintro e w2 ⟨rfl, b2⟩
          have XH := Lib.hid (XH.out.later b2)
          obtain ⟨X_0, X_1, X_2, X_3, X_4, X_5, X_6, X_7, X_8, X_9⟩ := Rd.c10 XH.out
          have BH := Lib.hid (chainX w BH.out b2)
          clear b2
          go_wp2
          go_ret
          exact ⟨rfl, BH.out⟩
        · skip
          cases bn
          · simp only [Bool.false_and, Bool.and_false, Bool.true_and, Bool.and_true, Bool.false_or, Bool.or_false, Bool.true_or, Bool.or_true, Bool.not_true, Bool.not_false, if_true, if_false, Bool.false_eq_true, reduceIte] at hv
            subst hv
            go_enter Tryz.func90, Tryz.ntmps90
            go_wp2_with fail
            refine (CV.out _ BH.out).mono ?_
            rintro e w2 ⟨rfl, b2⟩
            have XH := Lib.hid (XH.out.later b2)
            obtain ⟨X_0, X_1, X_2, X_3, X_4, X_5, X_6, X_7, X_8, X_9⟩ := Rd.c10 XH.out
            have BH := Lib.hid (chainX w BH.out b2)
            clear b2
            go_wp2_with fail
            refine (CP.out _ BH.out).mono ?_
            rintro e w2 ⟨rfl, b2⟩
            have XH := Lib.hid (XH.out.later b2)
            obtain ⟨X_0, X_1, X_2, X_3, X_4, X_5, X_6, X_7, X_8, X_9⟩ := Rd.c10 XH.out
            have BH := Lib.hid (chainX w BH.out b2)
            clear b2
            go_wp2_with fail
            refine (CL.out _ BH.out).mono ?_
            rintro e w2 ⟨rfl, b2⟩
            have XH := Lib.hid (XH.out.later b2)
            obtain ⟨X_0, X_1, X_2, X_3, X_4, X_5, X_6, X_7, X_8, X_9⟩ := Rd.c10 XH.out
            have BH := Lib.hid (chainX w BH.out b2)
            clear b2
            go_wp2_with fail
            refine (CN.out _ BH.out).mono ?_
            rintro e w2 ⟨rfl, b2⟩
            have XH := Lib.hid (XH.out.later b2)
            obtain ⟨X_0, X_1, X_2, X_3, X_4, X_5, X_6, X_7, X_8, X_9⟩ := Rd.c10 XH.out
            have BH := Lib.hid (chainX w BH.out b2)
            clear b2
            go_wp2
            go_ret
            exact ⟨rfl, BH.out⟩
          · skip
            cases bs
            · simp only [Bool.false_and, Bool.and_false, Bool.true_and, Bool.and_true, Bool.false_or, Bool.or_false, Bool.true_or, Bool.or_true, Bool.not_true, Bool.not_false, if_true, if_false, Bool.false_eq_true, reduceIte] at hv
              subst hv
              go_enter Tryz.func90, Tryz.ntmps90
              go_wp2_with fail
              refine (CV.out _ BH.out).mono ?_
              rintro e w2 ⟨rfl, b2⟩
              have XH := Lib.hid (XH.out.later b2)
              obtain ⟨X_0, X_1, X_2, X_3, X_4, X_5, X_6, X_7, X_8, X_9⟩ := Rd.c10 XH.out
              have BH := Lib.hid (chainX w BH.out b2)
              clear b2
              go_wp2_with fail
              refine (CP.out _ BH.out).mono ?_
              rintro e w2 ⟨rfl, b2⟩
              have XH := Lib.hid (XH.out.later b2)
              obtain ⟨X_0, X_1, X_2, X_3, X_4, X_5, X_6, X_7, X_8, X_9⟩ := Rd.c10 XH.out
              have BH := Lib.hid (chainX w BH.out b2)
              clear b2
              go_wp2_with fail
              refine (CL.out _ BH.out).mono ?_
              rintro e w2 ⟨rfl, b2⟩
              have XH := Lib.hid (XH.out.later b2)
              obtain ⟨X_0, X_1, X_2, X_3, X_4, X_5, X_6, X_7, X_8, X_9⟩ := Rd.c10 XH.out
              have BH := Lib.hid (chainX w BH.out b2)
              clear b2
              go_wp2_with fail
              refine (CN.out _ BH.out).mono ?_
              rintro e w2 ⟨rfl, b2⟩
              have XH := Lib.hid (XH.out.later b2)
              obtain ⟨X_0, X_1, X_2, X_3, X_4, X_5, X_6, X_7, X_8, X_9⟩ := Rd.c10 XH.out
              have BH := Lib.hid (chainX w BH.out b2)
              clear b2
              go_wp2_with fail
              refine (CS.out _ BH.out).mono ?_
              rintro e w2 ⟨rfl, b2⟩
              have XH := Lib.hid (XH.out.later b2)
              obtain ⟨X_0, X_1, X_2, X_3, X_4, X_5, X_6, X_7, X_8, X_9⟩ := Rd.c10 XH.out
              have BH := Lib.hid (chainX w BH.out b2)
              clear b2
              go_wp2
              go_ret
              exact ⟨rfl, BH.out⟩
            · skip
              cases bm
              · simp only [Bool.false_and, Bool.and_false, Bool.true_and, Bool.and_true, Bool.false_or, Bool.or_false, Bool.true_or, Bool.or_true, Bool.not_true, Bool.not_false, if_true, if_false, Bool.false_eq_true, reduceIte] at hv
                subst hv
                go_enter Tryz.func90, Tryz.ntmps90
                go_wp2_with fail
                refine (CV.out _ BH.out).mono ?_
                rintro e w2 ⟨rfl, b2⟩
                have XH := Lib.hid (XH.out.later b2)
                obtain ⟨X_0, X_1, X_2, X_3, X_4, X_5, X_6, X_7, X_8, X_9⟩ := Rd.c10 XH.out
                have BH := Lib.hid (chainX w BH.out b2)
                clear b2
                go_wp2_with fail
                refine (CP.out _ BH.out).mono ?_
                rintro e w2 ⟨rfl, b2⟩
                have XH := Lib.hid (XH.out.later b2)
                obtain ⟨X_0, X_1, X_2, X_3, X_4, X_5, X_6, X_7, X_8, X_9⟩ := Rd.c10 XH.out
                have BH := Lib.hid (chainX w BH.out b2)
                clear b2
                go_wp2_with fail
                refine (CL.out _ BH.out).mono ?_
                rintro e w2 ⟨rfl, b2⟩
                have XH := Lib.hid (XH.out.later b2)
                obtain ⟨X_0, X_1, X_2, X_3, X_4, X_5, X_6, X_7, X_8, X_9⟩ := Rd.c10 XH.out
                have BH := Lib.hid (chainX w BH.out b2)
                clear b2
                go_wp2_with fail
                refine (CN.out _ BH.out).mono ?_
                rintro e w2 ⟨rfl, b2⟩
                have XH := Lib.hid (XH.out.later b2)
                obtain ⟨X_0, X_1, X_2, X_3, X_4, X_5, X_6, X_7, X_8, X_9⟩ := Rd.c10 XH.out
                have BH := Lib.hid (chainX w BH.out b2)
                clear b2
                go_wp2_with fail
                refine (CS.out _ BH.out).mono ?_
                rintro e w2 ⟨rfl, b2⟩
                have XH := Lib.hid (XH.out.later b2)
                obtain ⟨X_0, X_1, X_2, X_3, X_4, X_5, X_6, X_7, X_8, X_9⟩ := Rd.c10 XH.out
                have BH := Lib.hid (chainX w BH.out b2)
                clear b2
                go_wp2_with fail
                refine (CM.out _ BH.out).mono ?_
                rintro e w2 ⟨rfl, b2⟩
                have XH := Lib.hid (XH.out.later b2)
                obtain ⟨X_0, X_1, X_2, X_3, X_4, X_5, X_6, X_7, X_8, X_9⟩ := Rd.c10 XH.out
                have BH := Lib.hid (chainX w BH.out b2)
                clear b2
                go_wp2
                go_ret
                exact ⟨rfl, BH.out⟩
              · skip
                cases br
                · simp only [Bool.false_and, Bool.and_false, Bool.true_and, Bool.and_true, Bool.false_or, Bool.or_false, Bool.true_or, Bool.or_true, Bool.not_true, Bool.not_false, if_true, if_false, Bool.false_eq_true, reduceIte] at hv
                  subst hv
                  go_enter Tryz.func90, Tryz.ntmps90
                  go_wp2_with fail
                  refine (CV.out _ BH.out).mono ?_
                  rintro e w2 ⟨rfl, b2⟩
                  have XH := Lib.hid (XH.out.later b2)
                  obtain ⟨X_0, X_1, X_2, X_3, X_4, X_5, X_6, X_7, X_8, X_9⟩ := Rd.c10 XH.out
                  have BH := Lib.hid (chainX w BH.out b2)
                  clear b2
                  go_wp2_with fail
                  refine (CP.out _ BH.out).mono ?_
                  rintro e w2 ⟨rfl, b2⟩
                  have XH := Lib.hid (XH.out.later b2)
                  obtain ⟨X_0, X_1, X_2, X_3, X_4, X_5, X_6, X_7, X_8, X_9⟩ := Rd.c10 XH.out
                  have BH := Lib.hid (chainX w BH.out b2)
                  clear b2
                  go_wp2_with fail
                  refine (CL.out _ BH.out).mono ?_
                  rintro e w2 ⟨rfl, b2⟩
                  have XH := Lib.hid (XH.out.later b2)
                  obtain ⟨X_0, X_1, X_2, X_3, X_4, X_5, X_6, X_7, X_8, X_9⟩ := Rd.c10 XH.out
                  have BH := Lib.hid (chainX w BH.out b2)
                  clear b2
                  go_wp2_with fail
                  refine (CN.out _ BH.out).mono ?_
                  rintro e w2 ⟨rfl, b2⟩
                  have XH := Lib.hid (XH.out.later b2)
                  obtain ⟨X_0, X_1, X_2, X_3, X_4, X_5, X_6, X_7, X_8, X_9⟩ := Rd.c10 XH.out
                  have BH := Lib.hid (chainX w BH.out b2)
                  clear b2
                  go_wp2_with fail
                  refine (CS.out _ BH.out).mono ?_
                  rintro e w2 ⟨rfl, b2⟩
                  have XH := Lib.hid (XH.out.later b2)
                  obtain ⟨X_0, X_1, X_2, X_3, X_4, X_5, X_6, X_7, X_8, X_9⟩ := Rd.c10 XH.out
                  have BH := Lib.hid (chainX w BH.out b2)
                  clear b2
                  go_wp2_with fail
                  refine (CM.out _ BH.out).mono ?_
                  rintro e w2 ⟨rfl, b2⟩
                  have XH := Lib.hid (XH.out.later b2)
                  obtain ⟨X_0, X_1, X_2, X_3, X_4, X_5, X_6, X_7, X_8, X_9⟩ := Rd.c10 XH.out
                  have BH := Lib.hid (chainX w BH.out b2)
                  clear b2
                  go_wp2_with fail
                  refine (CR.out _ BH.out).mono ?_
                  rintro e w2 ⟨rfl, b2⟩
                  have XH := Lib.hid (XH.out.later b2)
                  obtain ⟨X_0, X_1, X_2, X_3, X_4, X_5, X_6, X_7, X_8, X_9⟩ := Rd.c10 XH.out
                  have BH := Lib.hid (chainX w BH.out b2)
                  clear b2
                  go_wp2
                  go_ret
                  exact ⟨rfl, BH.out⟩
                · skip
                  simp only [Bool.false_and, Bool.and_false, Bool.true_and, Bool.and_true, Bool.false_or, Bool.or_false, Bool.true_or, Bool.or_true, Bool.not_true, Bool.not_false, if_true, if_false, Bool.false_eq_true, reduceIte] at hv
                  subst hv
                  go_enter Tryz.func90, Tryz.ntmps90
                  go_wp2_with fail
                  refine (CV.out _ BH.out).mono ?_
                  rintro e w2 ⟨rfl, b2⟩
                  have XH := Lib.hid (XH.out.later b2)
                  obtain ⟨X_0, X_1, X_2, X_3, X_4, X_5, X_6, X_7, X_8, X_9⟩ := Rd.c10 XH.out
                  have BH := Lib.hid (chainX w BH.out b2)
                  clear b2
                  go_wp2_with fail
                  refine (CP.out _ BH.out).mono ?_
                  rintro e w2 ⟨rfl, b2⟩
                  have XH := Lib.hid (XH.out.later b2)
                  obtain ⟨X_0, X_1, X_2, X_3, X_4, X_5, X_6, X_7, X_8, X_9⟩ := Rd.c10 XH.out
                  have BH := Lib.hid (chainX w BH.out b2)
                  clear b2
                  go_wp2_with fail
                  refine (CL.out _ BH.out).mono ?_
                  rintro e w2 ⟨rfl, b2⟩
                  have XH := Lib.hid (XH.out.later b2)
                  obtain ⟨X_0, X_1, X_2, X_3, X_4, X_5, X_6, X_7, X_8, X_9⟩ := Rd.c10 XH.out
                  have BH := Lib.hid (chainX w BH.out b2)
                  clear b2
                  go_wp2_with fail
                  refine (CN.out _ BH.out).mono ?_
                  rintro e w2 ⟨rfl, b2⟩
                  have XH := Lib.hid (XH.out.later b2)
                  obtain ⟨X_0, X_1, X_2, X_3, X_4, X_5, X_6, X_7, X_8, X_9⟩ := Rd.c10 XH.out
                  have BH := Lib.hid (chainX w BH.out b2)
                  clear b2
                  go_wp2_with fail
                  refine (CS.out _ BH.out).mono ?_
                  rintro e w2 ⟨rfl, b2⟩
                  have XH := Lib.hid (XH.out.later b2)
                  obtain ⟨X_0, X_1, X_2, X_3, X_4, X_5, X_6, X_7, X_8, X_9⟩ := Rd.c10 XH.out
                  have BH := Lib.hid (chainX w BH.out b2)
                  clear b2
                  go_wp2_with fail
                  refine (CM.out _ BH.out).mono ?_
                  rintro e w2 ⟨rfl, b2⟩
                  have XH := Lib.hid (XH.out.later b2)
                  obtain ⟨X_0, X_1, X_2, X_3, X_4, X_5, X_6, X_7, X_8, X_9⟩ := Rd.c10 XH.out
                  have BH := Lib.hid (chainX w BH.out b2)
                  clear b2
                  go_wp2_with fail
                  refine (CR.out _ BH.out).mono ?_
                  rintro e w2 ⟨rfl, b2⟩
                  have XH := Lib.hid (XH.out.later b2)
                  obtain ⟨X_0, X_1, X_2, X_3, X_4, X_5, X_6, X_7, X_8, X_9⟩ := Rd.c10 XH.out
                  have BH := Lib.hid (chainX w BH.out b2)
                  clear b2
                  go_wp2
                  go_ret
                  exact ⟨rfl, BH.out⟩
  · by_cases h1 : size = 0
    · subst h1
      by_cases h2 : sum = 0
      · subst h2
        rw [show inB 0 0 64 = true from rfl] at CS
        rw [show sumB 0 = true from rfl] at CM
        cases bv
        · simp only [Bool.false_and, Bool.and_false, Bool.true_and, Bool.and_true, Bool.false_or, Bool.or_false, Bool.true_or, Bool.or_true, Bool.not_true, Bool.not_false, if_true, if_false, Bool.false_eq_true, reduceIte, beq_self_eq_true] at hv
          subst hv
          go_enter Tryz.func90, Tryz.ntmps90
          go_wp2_with fail
          refine (CV.out _ BH.out).mono ?_
          rintro e w2 ⟨rfl, b2⟩
          have XH := Lib.hid (XH.out.later b2)
          obtain ⟨X_0, X_1, X_2, X_3, X_4, X_5, X_6, X_7, X_8, X_9⟩ := Rd.c10 XH.out
          have BH := Lib.hid (chainX w BH.out b2)
          clear b2
          go_wp2
          go_ret
          exact ⟨rfl, BH.out⟩
        · skip
          cases bp
          · simp only [Bool.false_and, Bool.and_false, Bool.true_and, Bool.and_true, Bool.false_or, Bool.or_false, Bool.true_or, Bool.or_true, Bool.not_true, Bool.not_false, if_true, if_false, Bool.false_eq_true, reduceIte, beq_self_eq_true] at hv
            subst hv
            go_enter Tryz.func90, Tryz.ntmps90
            go_wp2_with fail
            refine (CV.out _ BH.out).mono ?_
            rintro e w2 ⟨rfl, b2⟩
            have XH := Lib.hid (XH.out.later b2)
            obtain ⟨X_0, X_1, X_2, X_3, X_4, X_5, X_6, X_7, X_8, X_9⟩ := Rd.c10 XH.out
            have BH := Lib.hid (chainX w BH.out b2)
            clear b2
            go_wp2_with fail
            refine (CP.out _ BH.out).mono ?_
            rintro e w2 ⟨rfl, b2⟩
            have XH := Lib.hid (XH.out.later b2)
            obtain ⟨X_0, X_1, X_2, X_3, X_4, X_5, X_6, X_7, X_8, X_9⟩ := Rd.c10 XH.out
            have BH := Lib.hid (chainX w BH.out b2)
            clear b2
            go_wp2
            go_ret
            exact ⟨rfl, BH.out⟩
          · skip
            cases bl
            · simp only [Bool.false_and, Bool.and_false, Bool.true_and, Bool.and_true, Bool.false_or, Bool.or_false, Bool.true_or, Bool.or_true, Bool.not_true, Bool.not_false, if_true, if_false, Bool.false_eq_true, reduceIte, beq_self_eq_true] at hv
              subst hv
              go_enter Tryz.func90, Tryz.ntmps90
              go_wp2_with fail
              refine (CV.out _ BH.out).mono ?_
              rintro e w2 ⟨rfl, b2⟩
              have XH := Lib.hid (XH.out.later b2)
              obtain ⟨X_0, X_1, X_2, X_3, X_4, X_5, X_6, X_7, X_8, X_9⟩ := Rd.c10 XH.out
              have BH := Lib.hid (chainX w BH.out b2)
              clear b2
              go_wp2_with fail
              refine (CP.out _ BH.out).mono ?_
              rintro e w2 ⟨rfl, b2⟩
              have XH := Lib.hid (XH.out.later b2)
              obtain ⟨X_0, X_1, X_2, X_3, X_4, X_5, X_6, X_7, X_8, X_9⟩ := Rd.c10 XH.out
              have BH := Lib.hid (chainX w BH.out b2)
              clear b2
              go_wp2_with fail
              refine (CL.out _ BH.out).mono ?_
              rintro e w2 ⟨rfl, b2⟩
              have XH := Lib.hid (XH.out.later b2)
              obtain ⟨X_0, X_1, X_2, X_3, X_4, X_5, X_6, X_7, X_8, X_9⟩ := Rd.c10 XH.out
              have BH := Lib.hid (chainX w BH.out b2)
              clear b2
              go_wp2
              go_ret
              exact ⟨rfl, BH.out⟩
            · skip
              cases bn
              · simp only [Bool.false_and, Bool.and_false, Bool.true_and, Bool.and_true, Bool.false_or, Bool.or_false, Bool.true_or, Bool.or_true, Bool.not_true, Bool.not_false, if_true, if_false, Bool.false_eq_true, reduceIte, beq_self_eq_true] at hv
                subst hv
                go_enter Tryz.func90, Tryz.ntmps90
                go_wp2_with fail
                refine (CV.out _ BH.out).mono ?_
                rintro e w2 ⟨rfl, b2⟩
                have XH := Lib.hid (XH.out.later b2)
                obtain ⟨X_0, X_1, X_2, X_3, X_4, X_5, X_6, X_7, X_8, X_9⟩ := Rd.c10 XH.out
                have BH := Lib.hid (chainX w BH.out b2)
                clear b2
                go_wp2_with fail
                refine (CP.out _ BH.out).mono ?_
                rintro e w2 ⟨rfl, b2⟩
                have XH := Lib.hid (XH.out.later b2)
                obtain ⟨X_0, X_1, X_2, X_3, X_4, X_5, X_6, X_7, X_8, X_9⟩ := Rd.c10 XH.out
                have BH := Lib.hid (chainX w BH.out b2)
                clear b2
                go_wp2_with fail
                refine (CL.out _ BH.out).mono ?_
                rintro e w2 ⟨rfl, b2⟩
                have XH := Lib.hid (XH.out.later b2)
                obtain ⟨X_0, X_1, X_2, X_3, X_4, X_5, X_6, X_7, X_8, X_9⟩ := Rd.c10 XH.out
                have BH := Lib.hid (chainX w BH.out b2)
                clear b2
                go_wp2_with fail
                refine (CN.out _ BH.out).mono ?_
                rintro e w2 ⟨rfl, b2⟩
                have XH := Lib.hid (XH.out.later b2)
                obtain ⟨X_0, X_1, X_2, X_3, X_4, X_5, X_6, X_7, X_8, X_9⟩ := Rd.c10 XH.out
                have BH := Lib.hid (chainX w BH.out b2)
                clear b2
                go_wp2
                go_ret
                exact ⟨rfl, BH.out⟩
              · skip
                cases br
                · simp only [Bool.false_and, Bool.and_false, Bool.true_and, Bool.and_true, Bool.false_or, Bool.or_false, Bool.true_or, Bool.or_true, Bool.not_true, Bool.not_false, if_true, if_false, Bool.false_eq_true, reduceIte, beq_self_eq_true] at hv
                  subst hv
                  go_enter Tryz.func90, Tryz.ntmps90
                  go_wp2_with fail
                  refine (CV.out _ BH.out).mono ?_
                  rintro e w2 ⟨rfl, b2⟩
                  have XH := Lib.hid (XH.out.later b2)
                  obtain ⟨X_0, X_1, X_2, X_3, X_4, X_5, X_6, X_7, X_8, X_9⟩ := Rd.c10 XH.out
                  have BH := Lib.hid (chainX w BH.out b2)
                  clear b2
                  go_wp2_with fail
                  refine (CP.out _ BH.out).mono ?_
                  rintro e w2 ⟨rfl, b2⟩
                  have XH := Lib.hid (XH.out.later b2)
                  obtain ⟨X_0, X_1, X_2, X_3, X_4, X_5, X_6, X_7, X_8, X_9⟩ := Rd.c10 XH.out
                  have BH := Lib.hid (chainX w BH.out b2)
                  clear b2
                  go_wp2_with fail
                  refine (CL.out _ BH.out).mono ?_
                  rintro e w2 ⟨rfl, b2⟩
                  have XH := Lib.hid (XH.out.later b2)
                  obtain ⟨X_0, X_1, X_2, X_3, X_4, X_5, X_6, X_7, X_8, X_9⟩ := Rd.c10 XH.out
                  have BH := Lib.hid (chainX w BH.out b2)
                  clear b2
                  go_wp2_with fail
                  refine (CN.out _ BH.out).mono ?_
                  rintro e w2 ⟨rfl, b2⟩
                  have XH := Lib.hid (XH.out.later b2)
                  obtain ⟨X_0, X_1, X_2, X_3, X_4, X_5, X_6, X_7, X_8, X_9⟩ := Rd.c10 XH.out
                  have BH := Lib.hid (chainX w BH.out b2)
                  clear b2
                  go_wp2_with fail
                  refine (CS.out _ BH.out).mono ?_
                  rintro e w2 ⟨rfl, b2⟩
                  have XH := Lib.hid (XH.out.later b2)
                  obtain ⟨X_0, X_1, X_2, X_3, X_4, X_5, X_6, X_7, X_8, X_9⟩ := Rd.c10 XH.out
                  have BH := Lib.hid (chainX w BH.out b2)
                  clear b2
                  go_wp2_with fail
                  refine (CM.out _ BH.out).mono ?_
                  rintro e w2 ⟨rfl, b2⟩
                  have XH := Lib.hid (XH.out.later b2)
                  obtain ⟨X_0, X_1, X_2, X_3, X_4, X_5, X_6, X_7, X_8, X_9⟩ := Rd.c10 XH.out
                  have BH := Lib.hid (chainX w BH.out b2)
                  clear b2
                  go_wp2_with fail
                  refine (CR.out _ BH.out).mono ?_
                  rintro e w2 ⟨rfl, b2⟩
                  have XH := Lib.hid (XH.out.later b2)
                  obtain ⟨X_0, X_1, X_2, X_3, X_4, X_5, X_6, X_7, X_8, X_9⟩ := Rd.c10 XH.out
                  have BH := Lib.hid (chainX w BH.out b2)
                  clear b2
                  go_wp2
                  go_ret
                  exact ⟨rfl, BH.out⟩
                · skip
                  simp only [Bool.false_and, Bool.and_false, Bool.true_and, Bool.and_true, Bool.false_or, Bool.or_false, Bool.true_or, Bool.or_true, Bool.not_true, Bool.not_false, if_true, if_false, Bool.false_eq_true, reduceIte, beq_self_eq_true] at hv
                  subst hv
                  go_enter Tryz.func90, Tryz.ntmps90
                  go_wp2_with fail
                  refine (CV.out _ BH.out).mono ?_
                  rintro e w2 ⟨rfl, b2⟩
                  have XH := Lib.hid (XH.out.later b2)
                  obtain ⟨X_0, X_1, X_2, X_3, X_4, X_5, X_6, X_7, X_8, X_9⟩ := Rd.c10 XH.out
                  have BH := Lib.hid (chainX w BH.out b2)
                  clear b2
                  go_wp2_with fail
                  refine (CP.out _ BH.out).mono ?_
                  rintro e w2 ⟨rfl, b2⟩
                  have XH := Lib.hid (XH.out.later b2)
                  obtain ⟨X_0, X_1, X_2, X_3, X_4, X_5, X_6, X_7, X_8, X_9⟩ := Rd.c10 XH.out
                  have BH := Lib.hid (chainX w BH.out b2)
                  clear b2
                  go_wp2_with fail
                  refine (CL.out _ BH.out).mono ?_
                  rintro e w2 ⟨rfl, b2⟩
                  have XH := Lib.hid (XH.out.later b2)
                  obtain ⟨X_0, X_1, X_2, X_3, X_4, X_5, X_6, X_7, X_8, X_9⟩ := Rd.c10 XH.out
                  have BH := Lib.hid (chainX w BH.out b2)
                  clear b2
                  go_wp2_with fail
                  refine (CN.out _ BH.out).mono ?_
                  rintro e w2 ⟨rfl, b2⟩
                  have XH := Lib.hid (XH.out.later b2)
                  obtain ⟨X_0, X_1, X_2, X_3, X_4, X_5, X_6, X_7, X_8, X_9⟩ := Rd.c10 XH.out
                  have BH := Lib.hid (chainX w BH.out b2)
                  clear b2
                  go_wp2_with fail
                  refine (CS.out _ BH.out).mono ?_
                  rintro e w2 ⟨rfl, b2⟩
                  have XH := Lib.hid (XH.out.later b2)
                  obtain ⟨X_0, X_1, X_2, X_3, X_4, X_5, X_6, X_7, X_8, X_9⟩ := Rd.c10 XH.out
                  have BH := Lib.hid (chainX w BH.out b2)
                  clear b2
                  go_wp2_with fail
                  refine (CM.out _ BH.out).mono ?_
                  rintro e w2 ⟨rfl, b2⟩
                  have XH := Lib.hid (XH.out.later b2)
                  obtain ⟨X_0, X_1, X_2, X_3, X_4, X_5, X_6, X_7, X_8, X_9⟩ := Rd.c10 XH.out
                  have BH := Lib.hid (chainX w BH.out b2)
                  clear b2
                  go_wp2_with fail
                  refine (CR.out _ BH.out).mono ?_
                  rintro e w2 ⟨rfl, b2⟩
                  have XH := Lib.hid (XH.out.later b2)
                  obtain ⟨X_0, X_1, X_2, X_3, X_4, X_5, X_6, X_7, X_8, X_9⟩ := Rd.c10 XH.out
                  have BH := Lib.hid (chainX w BH.out b2)
                  clear b2
                  go_wp2
                  go_ret
                  exact ⟨rfl, BH.out⟩
      · have q2 : (sum == 0) = false := by simpa using h2
        have q3 : (sum != 0) = true := by simpa using h2
        simp only [Bool.false_and, Bool.and_false, Bool.true_and, Bool.and_true, Bool.false_or, Bool.or_false, Bool.true_or, Bool.or_true, Bool.not_true, Bool.not_false, if_true, if_false, Bool.false_eq_true, reduceIte, beq_self_eq_true, q2] at hv
        subst hv
        go_enter Tryz.func90, Tryz.ntmps90
        go_wp2
        go_ret
        exact ⟨rfl, BH.out⟩
    · have q1 : (size == 0) = false := by simpa using h1
      have q3 : (size != 0) = true := by simpa using h1
      simp only [Bool.false_and, Bool.and_false, Bool.true_and, Bool.and_true, Bool.false_or, Bool.or_false, Bool.true_or, Bool.or_true, Bool.not_true, Bool.not_false, if_true, if_false, Bool.false_eq_true, reduceIte, q1] at hv
      subst hv
      go_enter Tryz.func90, Tryz.ntmps90
      go_wp2
      go_ret
      exact ⟨rfl, BH.out⟩
set_option maxRecDepth 100000 in
set_option maxHeartbeats 4000000 in
theorem specChunkOk (d : DChunk) (w : World) : Calls Tryz.prog 72 #[.agg #[.string d.name, .int .i64 d.ver.epoch, .int .i64 d.ver.seq, .int .i64 d.pos, .int .i64 d.sum, .string d.bytes]] w (RetW (.bool (chunkB d)) w) := by
  have BH := Lib.hid (lay w (.cells #[.string d.name, .int .i64 d.ver.epoch, .int .i64 d.ver.seq, .int .i64 d.pos, .int .i64 d.sum, .string d.bytes] 48))
  have XH := Lib.hid (BxN.new w #[.string d.name, .int .i64 d.ver.epoch, .int .i64 d.ver.seq, .int .i64 d.pos, .int .i64 d.sum, .string d.bytes] 48)
  have CN := Lib.hid (fun w' (b : Below w.heap.size w w') => same_ret (Nam.specNameOk d.name w'))
  have CV := Lib.hid (fun w' (b : Below w.heap.size w w') => specFull d.ver w')
  have CP := Lib.hid (fun w' (b : Below w.heap.size w w') => same_ret (l00In d.pos 0 6 w'))
  have CM := Lib.hid (fun w' (b : Below w.heap.size w w') => same_ret (specSum d.sum w'))
  obtain ⟨v, hv⟩ : ∃ v, chunkB d = v := ⟨_, rfl⟩
  rw [hv]
  unfold chunkB at hv
  generalize Nam.nameB d.name = bn at *
  generalize inB d.pos 0 6 = bp at *
  generalize sumB d.sum = bm at *
  generalize (verB d.ver && !verZ d.ver) = bv at *
  have eS : decide ((d.bytes.size : Int) ≤ 64) = decide (d.bytes.size ≤ 64) := by by_cases h : d.bytes.size ≤ 64 <;> simp [h] <;> omega
  generalize d.ver.epoch = ver_epoch at *
  generalize d.ver.seq = ver_seq at *
  generalize d.name = name at *
  generalize d.pos = pos at *
  generalize d.sum = sum at *
  generalize decide (d.bytes.size ≤ 64) = bb at *
  generalize d.bytes = by_ at *
  cases bn
  · simp only [Bool.false_and, Bool.and_false, Bool.true_and, Bool.and_true, Bool.false_or, Bool.or_false, Bool.true_or, Bool.or_true, Bool.not_true, Bool.not_false, if_true, if_false, Bool.false_eq_true, reduceIte] at hv
    subst hv
    go_enter Tryz.func72, Tryz.ntmps72
    go_wp2_with fail
    refine (CN.out _ BH.out).mono ?_
    rintro e w2 ⟨rfl, b2⟩
    have XH := Lib.hid (XH.out.later b2)
    obtain ⟨X_0, X_1, X_2, X_3, X_4, X_5⟩ := Rd.c6 XH.out
    have BH := Lib.hid (chainX w BH.out b2)
    clear b2
    go_wp2
    go_ret
    exact ⟨rfl, BH.out⟩
  · skip
    cases bv
    · simp only [Bool.false_and, Bool.and_false, Bool.true_and, Bool.and_true, Bool.false_or, Bool.or_false, Bool.true_or, Bool.or_true, Bool.not_true, Bool.not_false, if_true, if_false, Bool.false_eq_true, reduceIte] at hv
      subst hv
      go_enter Tryz.func72, Tryz.ntmps72
      go_wp2_with fail
      refine (CN.out _ BH.out).mono ?_
      rintro e w2 ⟨rfl, b2⟩
      have XH := Lib.hid (XH.out.later b2)
      obtain ⟨X_0, X_1, X_2, X_3, X_4, X_5⟩ := Rd.c6 XH.out
      have BH := Lib.hid (chainX w BH.out b2)
      clear b2
      go_wp2_with fail
      refine (CV.out _ BH.out).mono ?_
      rintro e w2 ⟨rfl, b2⟩
      have XH := Lib.hid (XH.out.later b2)
      obtain ⟨X_0, X_1, X_2, X_3, X_4, X_5⟩ := Rd.c6 XH.out
      have BH := Lib.hid (chainX w BH.out b2)
      clear b2
      go_wp2
      go_ret
      exact ⟨rfl, BH.out⟩
    · skip
      cases bp
      · simp only [Bool.false_and, Bool.and_false, Bool.true_and, Bool.and_true, Bool.false_or, Bool.or_false, Bool.true_or, Bool.or_true, Bool.not_true, Bool.not_false, if_true, if_false, Bool.false_eq_true, reduceIte] at hv
        subst hv
        go_enter Tryz.func72, Tryz.ntmps72
        go_wp2_with fail
        refine (CN.out _ BH.out).mono ?_
        rintro e w2 ⟨rfl, b2⟩
        have XH := Lib.hid (XH.out.later b2)
        obtain ⟨X_0, X_1, X_2, X_3, X_4, X_5⟩ := Rd.c6 XH.out
        have BH := Lib.hid (chainX w BH.out b2)
        clear b2
        go_wp2_with fail
        refine (CV.out _ BH.out).mono ?_
        rintro e w2 ⟨rfl, b2⟩
        have XH := Lib.hid (XH.out.later b2)
        obtain ⟨X_0, X_1, X_2, X_3, X_4, X_5⟩ := Rd.c6 XH.out
        have BH := Lib.hid (chainX w BH.out b2)
        clear b2
        go_wp2_with fail
        refine (CP.out _ BH.out).mono ?_
        rintro e w2 ⟨rfl, b2⟩
        have XH := Lib.hid (XH.out.later b2)
        obtain ⟨X_0, X_1, X_2, X_3, X_4, X_5⟩ := Rd.c6 XH.out
        have BH := Lib.hid (chainX w BH.out b2)
        clear b2
        go_wp2
        go_ret
        exact ⟨rfl, BH.out⟩
      · skip
        cases bm
        · simp only [Bool.false_and, Bool.and_false, Bool.true_and, Bool.and_true, Bool.false_or, Bool.or_false, Bool.true_or, Bool.or_true, Bool.not_true, Bool.not_false, if_true, if_false, Bool.false_eq_true, reduceIte] at hv
          subst hv
          go_enter Tryz.func72, Tryz.ntmps72
          go_wp2_with fail
          refine (CN.out _ BH.out).mono ?_
          rintro e w2 ⟨rfl, b2⟩
          have XH := Lib.hid (XH.out.later b2)
          obtain ⟨X_0, X_1, X_2, X_3, X_4, X_5⟩ := Rd.c6 XH.out
          have BH := Lib.hid (chainX w BH.out b2)
          clear b2
          go_wp2_with fail
          refine (CV.out _ BH.out).mono ?_
          rintro e w2 ⟨rfl, b2⟩
          have XH := Lib.hid (XH.out.later b2)
          obtain ⟨X_0, X_1, X_2, X_3, X_4, X_5⟩ := Rd.c6 XH.out
          have BH := Lib.hid (chainX w BH.out b2)
          clear b2
          go_wp2_with fail
          refine (CP.out _ BH.out).mono ?_
          rintro e w2 ⟨rfl, b2⟩
          have XH := Lib.hid (XH.out.later b2)
          obtain ⟨X_0, X_1, X_2, X_3, X_4, X_5⟩ := Rd.c6 XH.out
          have BH := Lib.hid (chainX w BH.out b2)
          clear b2
          go_wp2_with fail
          refine (CM.out _ BH.out).mono ?_
          rintro e w2 ⟨rfl, b2⟩
          have XH := Lib.hid (XH.out.later b2)
          obtain ⟨X_0, X_1, X_2, X_3, X_4, X_5⟩ := Rd.c6 XH.out
          have BH := Lib.hid (chainX w BH.out b2)
          clear b2
          go_wp2
          go_ret
          exact ⟨rfl, BH.out⟩
        · skip
          cases bb
          · simp only [Bool.false_and, Bool.and_false, Bool.true_and, Bool.and_true, Bool.false_or, Bool.or_false, Bool.true_or, Bool.or_true, Bool.not_true, Bool.not_false, if_true, if_false, Bool.false_eq_true, reduceIte] at hv
            subst hv
            go_enter Tryz.func72, Tryz.ntmps72
            go_wp2_with fail
            refine (CN.out _ BH.out).mono ?_
            rintro e w2 ⟨rfl, b2⟩
            have XH := Lib.hid (XH.out.later b2)
            obtain ⟨X_0, X_1, X_2, X_3, X_4, X_5⟩ := Rd.c6 XH.out
            have BH := Lib.hid (chainX w BH.out b2)
            clear b2
            go_wp2_with fail
            refine (CV.out _ BH.out).mono ?_
            rintro e w2 ⟨rfl, b2⟩
            have XH := Lib.hid (XH.out.later b2)
            obtain ⟨X_0, X_1, X_2, X_3, X_4, X_5⟩ := Rd.c6 XH.out
            have BH := Lib.hid (chainX w BH.out b2)
            clear b2
            go_wp2_with fail
            refine (CP.out _ BH.out).mono ?_
            rintro e w2 ⟨rfl, b2⟩
            have XH := Lib.hid (XH.out.later b2)
            obtain ⟨X_0, X_1, X_2, X_3, X_4, X_5⟩ := Rd.c6 XH.out
            have BH := Lib.hid (chainX w BH.out b2)
            clear b2
            go_wp2_with fail
            refine (CM.out _ BH.out).mono ?_
            rintro e w2 ⟨rfl, b2⟩
            have XH := Lib.hid (XH.out.later b2)
            obtain ⟨X_0, X_1, X_2, X_3, X_4, X_5⟩ := Rd.c6 XH.out
            have BH := Lib.hid (chainX w BH.out b2)
            clear b2
            go_wp2
            go_ret
            exact ⟨rfl, BH.out⟩
          · skip
            simp only [Bool.false_and, Bool.and_false, Bool.true_and, Bool.and_true, Bool.false_or, Bool.or_false, Bool.true_or, Bool.or_true, Bool.not_true, Bool.not_false, if_true, if_false, Bool.false_eq_true, reduceIte] at hv
            subst hv
            go_enter Tryz.func72, Tryz.ntmps72
            go_wp2_with fail
            refine (CN.out _ BH.out).mono ?_
            rintro e w2 ⟨rfl, b2⟩
            have XH := Lib.hid (XH.out.later b2)
            obtain ⟨X_0, X_1, X_2, X_3, X_4, X_5⟩ := Rd.c6 XH.out
            have BH := Lib.hid (chainX w BH.out b2)
            clear b2
            go_wp2_with fail
            refine (CV.out _ BH.out).mono ?_
            rintro e w2 ⟨rfl, b2⟩
            have XH := Lib.hid (XH.out.later b2)
            obtain ⟨X_0, X_1, X_2, X_3, X_4, X_5⟩ := Rd.c6 XH.out
            have BH := Lib.hid (chainX w BH.out b2)
            clear b2
            go_wp2_with fail
            refine (CP.out _ BH.out).mono ?_
            rintro e w2 ⟨rfl, b2⟩
            have XH := Lib.hid (XH.out.later b2)
            obtain ⟨X_0, X_1, X_2, X_3, X_4, X_5⟩ := Rd.c6 XH.out
            have BH := Lib.hid (chainX w BH.out b2)
            clear b2
            go_wp2_with fail
            refine (CM.out _ BH.out).mono ?_
            rintro e w2 ⟨rfl, b2⟩
            have XH := Lib.hid (XH.out.later b2)
            obtain ⟨X_0, X_1, X_2, X_3, X_4, X_5⟩ := Rd.c6 XH.out
            have BH := Lib.hid (chainX w BH.out b2)
            clear b2
            go_wp2
            go_ret
            exact ⟨rfl, BH.out⟩
set_option maxRecDepth 100000 in
set_option maxHeartbeats 4000000 in
theorem implChunkOk (d : DChunk) (w : World) (hz : d.name.size ≤ 9223372036854775807) (hT : Nam.Tabs w) : Calls Tryz.prog 95 #[.agg #[.string d.name, .int .i64 d.ver.epoch, .int .i64 d.ver.seq, .int .i64 d.pos, .int .i64 d.sum, .string d.bytes]] w (RetW (.bool (chunkB d)) w) := by
  have BH := Lib.hid (lay w (.cells #[.string d.name, .int .i64 d.ver.epoch, .int .i64 d.ver.seq, .int .i64 d.pos, .int .i64 d.sum, .string d.bytes] 48))
  have XH := Lib.hid (BxN.new w #[.string d.name, .int .i64 d.ver.epoch, .int .i64 d.ver.seq, .int .i64 d.pos, .int .i64 d.sum, .string d.bytes] 48)
  have CN := Lib.hid (fun w' (b : Below w.heap.size w w') => Nam.implNameOk d.name hz w' (tabs_later hT b))
  have CV := Lib.hid (fun w' (b : Below w.heap.size w w') => implVerGiven d.ver w')
  have CP := Lib.hid (fun w' (b : Below w.heap.size w w') => same_ret (isPosX d.pos w'))
  have CM := Lib.hid (fun w' (b : Below w.heap.size w w') => same_ret (implSum d.sum w'))
  have CB := Lib.hid (fun w' (b : Below w.heap.size w w') => same_ret (isBodyX d.bytes w'))
  obtain ⟨v, hv⟩ : ∃ v, chunkB d = v := ⟨_, rfl⟩
  rw [hv]
  unfold chunkB at hv
  generalize Nam.nameB d.name = bn at *
  generalize inB d.pos 0 6 = bp at *
  generalize sumB d.sum = bm at *
  rw [givB_full] at hv
  generalize givB d.ver = bv at *
  generalize decide (d.bytes.size ≤ 64) = bb at *
  generalize d.ver.epoch = ver_epoch at *
  generalize d.ver.seq = ver_seq at *
  generalize d.name = name at *
  generalize d.pos = pos at *
  generalize d.sum = sum at *
  generalize d.bytes = bytes at *
  clear hT hz
  cases bn
  · simp only [Bool.false_and, Bool.and_false, Bool.true_and, Bool.and_true, Bool.false_or, Bool.or_false, Bool.true_or, Bool.or_true, Bool.not_true, Bool.not_false, if_true, if_false, Bool.false_eq_true, reduceIte] at hv
    subst hv
    go_enter Tryz.func95, Tryz.ntmps95
    go_wp2_with fail
    refine (CN.out _ BH.out).mono ?_
    rintro e w2 ⟨rfl, b2⟩
    have XH := Lib.hid (XH.out.later b2)
    obtain ⟨X_0, X_1, X_2, X_3, X_4, X_5⟩ := Rd.c6 XH.out
    have BH := Lib.hid (chainX w BH.out b2)
    clear b2
    go_wp2
    go_ret
    exact ⟨rfl, BH.out⟩
  · skip
    cases bv
    · simp only [Bool.false_and, Bool.and_false, Bool.true_and, Bool.and_true, Bool.false_or, Bool.or_false, Bool.true_or, Bool.or_true, Bool.not_true, Bool.not_false, if_true, if_false, Bool.false_eq_true, reduceIte] at hv
      subst hv
      go_enter Tryz.func95, Tryz.ntmps95
      go_wp2_with fail
      refine (CN.out _ BH.out).mono ?_
      rintro e w2 ⟨rfl, b2⟩
      have XH := Lib.hid (XH.out.later b2)
      obtain ⟨X_0, X_1, X_2, X_3, X_4, X_5⟩ := Rd.c6 XH.out
      have BH := Lib.hid (chainX w BH.out b2)
      clear b2
      go_wp2_with fail
      refine (CV.out _ BH.out).mono ?_
      rintro e w2 ⟨rfl, b2⟩
      have XH := Lib.hid (XH.out.later b2)
      obtain ⟨X_0, X_1, X_2, X_3, X_4, X_5⟩ := Rd.c6 XH.out
      have BH := Lib.hid (chainX w BH.out b2)
      clear b2
      go_wp2
      go_ret
      exact ⟨rfl, BH.out⟩
    · skip
      cases bp
      · simp only [Bool.false_and, Bool.and_false, Bool.true_and, Bool.and_true, Bool.false_or, Bool.or_false, Bool.true_or, Bool.or_true, Bool.not_true, Bool.not_false, if_true, if_false, Bool.false_eq_true, reduceIte] at hv
        subst hv
        go_enter Tryz.func95, Tryz.ntmps95
        go_wp2_with fail
        refine (CN.out _ BH.out).mono ?_
        rintro e w2 ⟨rfl, b2⟩
        have XH := Lib.hid (XH.out.later b2)
        obtain ⟨X_0, X_1, X_2, X_3, X_4, X_5⟩ := Rd.c6 XH.out
        have BH := Lib.hid (chainX w BH.out b2)
        clear b2
        go_wp2_with fail
        refine (CV.out _ BH.out).mono ?_
        rintro e w2 ⟨rfl, b2⟩
        have XH := Lib.hid (XH.out.later b2)
        obtain ⟨X_0, X_1, X_2, X_3, X_4, X_5⟩ := Rd.c6 XH.out
        have BH := Lib.hid (chainX w BH.out b2)
        clear b2
        go_wp2_with fail
        refine (CP.out _ BH.out).mono ?_
        rintro e w2 ⟨rfl, b2⟩
        have XH := Lib.hid (XH.out.later b2)
        obtain ⟨X_0, X_1, X_2, X_3, X_4, X_5⟩ := Rd.c6 XH.out
        have BH := Lib.hid (chainX w BH.out b2)
        clear b2
        go_wp2
        go_ret
        exact ⟨rfl, BH.out⟩
      · skip
        cases bm
        · simp only [Bool.false_and, Bool.and_false, Bool.true_and, Bool.and_true, Bool.false_or, Bool.or_false, Bool.true_or, Bool.or_true, Bool.not_true, Bool.not_false, if_true, if_false, Bool.false_eq_true, reduceIte] at hv
          subst hv
          go_enter Tryz.func95, Tryz.ntmps95
          go_wp2_with fail
          refine (CN.out _ BH.out).mono ?_
          rintro e w2 ⟨rfl, b2⟩
          have XH := Lib.hid (XH.out.later b2)
          obtain ⟨X_0, X_1, X_2, X_3, X_4, X_5⟩ := Rd.c6 XH.out
          have BH := Lib.hid (chainX w BH.out b2)
          clear b2
          go_wp2_with fail
          refine (CV.out _ BH.out).mono ?_
          rintro e w2 ⟨rfl, b2⟩
          have XH := Lib.hid (XH.out.later b2)
          obtain ⟨X_0, X_1, X_2, X_3, X_4, X_5⟩ := Rd.c6 XH.out
          have BH := Lib.hid (chainX w BH.out b2)
          clear b2
          go_wp2_with fail
          refine (CP.out _ BH.out).mono ?_
          rintro e w2 ⟨rfl, b2⟩
          have XH := Lib.hid (XH.out.later b2)
          obtain ⟨X_0, X_1, X_2, X_3, X_4, X_5⟩ := Rd.c6 XH.out
          have BH := Lib.hid (chainX w BH.out b2)
          clear b2
          go_wp2_with fail
          refine (CM.out _ BH.out).mono ?_
          rintro e w2 ⟨rfl, b2⟩
          have XH := Lib.hid (XH.out.later b2)
          obtain ⟨X_0, X_1, X_2, X_3, X_4, X_5⟩ := Rd.c6 XH.out
          have BH := Lib.hid (chainX w BH.out b2)
          clear b2
          go_wp2
          go_ret
          exact ⟨rfl, BH.out⟩
        · skip
          cases bb
          · simp only [Bool.false_and, Bool.and_false, Bool.true_and, Bool.and_true, Bool.false_or, Bool.or_false, Bool.true_or, Bool.or_true, Bool.not_true, Bool.not_false, if_true, if_false, Bool.false_eq_true, reduceIte] at hv
            subst hv
            go_enter Tryz.func95, Tryz.ntmps95
            go_wp2_with fail
            refine (CN.out _ BH.out).mono ?_
            rintro e w2 ⟨rfl, b2⟩
            have XH := Lib.hid (XH.out.later b2)
            obtain ⟨X_0, X_1, X_2, X_3, X_4, X_5⟩ := Rd.c6 XH.out
            have BH := Lib.hid (chainX w BH.out b2)
            clear b2
            go_wp2_with fail
            refine (CV.out _ BH.out).mono ?_
            rintro e w2 ⟨rfl, b2⟩
            have XH := Lib.hid (XH.out.later b2)
            obtain ⟨X_0, X_1, X_2, X_3, X_4, X_5⟩ := Rd.c6 XH.out
            have BH := Lib.hid (chainX w BH.out b2)
            clear b2
            go_wp2_with fail
            refine (CP.out _ BH.out).mono ?_
            rintro e w2 ⟨rfl, b2⟩
            have XH := Lib.hid (XH.out.later b2)
            obtain ⟨X_0, X_1, X_2, X_3, X_4, X_5⟩ := Rd.c6 XH.out
            have BH := Lib.hid (chainX w BH.out b2)
            clear b2
            go_wp2_with fail
            refine (CM.out _ BH.out).mono ?_
            rintro e w2 ⟨rfl, b2⟩
            have XH := Lib.hid (XH.out.later b2)
            obtain ⟨X_0, X_1, X_2, X_3, X_4, X_5⟩ := Rd.c6 XH.out
            have BH := Lib.hid (chainX w BH.out b2)
            clear b2
            go_wp2_with fail
            refine (CB.out _ BH.out).mono ?_
            rintro e w2 ⟨rfl, b2⟩
            have XH := Lib.hid (XH.out.later b2)
            obtain ⟨X_0, X_1, X_2, X_3, X_4, X_5⟩ := Rd.c6 XH.out
            have BH := Lib.hid (chainX w BH.out b2)
            clear b2
            go_wp2
            go_ret
            exact ⟨rfl, BH.out⟩
          · skip
            simp only [Bool.false_and, Bool.and_false, Bool.true_and, Bool.and_true, Bool.false_or, Bool.or_false, Bool.true_or, Bool.or_true, Bool.not_true, Bool.not_false, if_true, if_false, Bool.false_eq_true, reduceIte] at hv
            subst hv
            go_enter Tryz.func95, Tryz.ntmps95
            go_wp2_with fail
            refine (CN.out _ BH.out).mono ?_
            rintro e w2 ⟨rfl, b2⟩
            have XH := Lib.hid (XH.out.later b2)
            obtain ⟨X_0, X_1, X_2, X_3, X_4, X_5⟩ := Rd.c6 XH.out
            have BH := Lib.hid (chainX w BH.out b2)
            clear b2
            go_wp2_with fail
            refine (CV.out _ BH.out).mono ?_
            rintro e w2 ⟨rfl, b2⟩
            have XH := Lib.hid (XH.out.later b2)
            obtain ⟨X_0, X_1, X_2, X_3, X_4, X_5⟩ := Rd.c6 XH.out
            have BH := Lib.hid (chainX w BH.out b2)
            clear b2
            go_wp2_with fail
            refine (CP.out _ BH.out).mono ?_
            rintro e w2 ⟨rfl, b2⟩
            have XH := Lib.hid (XH.out.later b2)
            obtain ⟨X_0, X_1, X_2, X_3, X_4, X_5⟩ := Rd.c6 XH.out
            have BH := Lib.hid (chainX w BH.out b2)
            clear b2
            go_wp2_with fail
            refine (CM.out _ BH.out).mono ?_
            rintro e w2 ⟨rfl, b2⟩
            have XH := Lib.hid (XH.out.later b2)
            obtain ⟨X_0, X_1, X_2, X_3, X_4, X_5⟩ := Rd.c6 XH.out
            have BH := Lib.hid (chainX w BH.out b2)
            clear b2
            go_wp2_with fail
            refine (CB.out _ BH.out).mono ?_
            rintro e w2 ⟨rfl, b2⟩
            have XH := Lib.hid (XH.out.later b2)
            obtain ⟨X_0, X_1, X_2, X_3, X_4, X_5⟩ := Rd.c6 XH.out
            have BH := Lib.hid (chainX w BH.out b2)
            clear b2
            go_wp2
            go_ret
            exact ⟨rfl, BH.out⟩
end Go.Proofs.YtbckdfoapmjilaaGreatDoor.Rd
