/-
  What a state has as of its tail, its chunks, the version behind so many entries; the program (written by tools/gen/stu.py).
-/
import Derived.Test.YtbckdfoapmjilaaGreatDoorStT
namespace Go.Proofs.YtbckdfoapmjilaaGreatDoor.Rd
open Go.RowKit Go.ChangeShapes Go.WideShapes Go.Proofs.YtbckdfoapmjilaaGreatDoor.GfI Go.Proofs.YtbckdfoapmjilaaGreatDoor.GfS
open Go.Proofs.YtbckdfoapmjilaaGreatDoor.Sg (BxN)
set_option linter.unusedVariables false
set_option linter.unusedSimpArgs false

theorem iff_of {P : Prop} {b : Bool} {w w' : World} {e : Ending} (hb : b = true ↔ P) (h : RetW (.bool b) w e w') : IffB P w e w' := ⟨b, h.1, hb, h.2⟩
theorem nlen (n m : Nat) : decide ((n : Int) ≤ (m : Int)) = decide (n ≤ m) := by
  by_cases h : n ≤ m <;> simp [h] <;> omega
theorem seq_iff {α : Type} {m : Nat} {lt : α → α → Bool} {p q : α → Bool} {l : List α} {b1 b2 : Bool} (hq : ∀ x, q x = !p x) (e1 : b1 = true ↔ ∀ (i : Nat) (x y : α), l[i]? = some x → l[i + 1]? = some y → lt x y = true) (e2 : b2 = true ↔ ∃ x, x ∈ l ∧ q x = true) :
    (decide (l.length ≤ m) && (b1 && !b2)) = true ↔ SeqP m lt p l := by
  unfold SeqP
  rw [Bool.and_eq_true, Bool.and_eq_true, decide_eq_true_eq, e1]
  refine and_congr Iff.rfl (and_congr Iff.rfl ?_)
  constructor
  · intro h i x hx
    cases z : p x
    · have := e2.2 ⟨x, List.mem_of_getElem? hx, by rw [hq, z]; rfl⟩
      rw [this] at h; cases h
    · rfl
  · intro h
    cases z : b2
    · rfl
    · obtain ⟨x, hx, k⟩ := e2.1 z
      obtain ⟨i, hi, rfl⟩ := List.getElem_of_mem hx
      rw [hq, h i _ (List.getElem?_eq_getElem hi)] at k
      cases k
set_option maxRecDepth 100000 in
set_option maxHeartbeats 4000000 in
theorem implTailOk (d : DPgState) {a6 a7 a8 a11 : Option Addr} {c6 c7 c8 c11 : Nat} (w : World) (l6 : d.base.length ≤ 2097152) (l7 : d.clients.length ≤ 2097152) {fr : Bool} {lo : Nat} (r6 : Rows fr lo w a6 d.base) (r7 : Rows fr lo w a7 d.clients) (hT : Nam.Tabs w) : Calls Tryz.prog 44 #[.agg #[.int .i64 d.pg.pool, .int .i64 d.pg.no, .int .i64 d.seen, .int .i64 d.started, .int .i64 d.tail.epoch, .int .i64 d.tail.seq, .slice a6 d.base.length c6, .slice a7 d.clients.length c7, .slice a8 d.log.length c8, .int .i64 d.firm.epoch, .int .i64 d.firm.seq, .slice a11 d.chunks.length c11]] w (IffB (TailP d) w) := by
  have LY := Lib.hid (lay w (.cells #[.int .i64 d.pg.pool, .int .i64 d.pg.no, .int .i64 d.seen, .int .i64 d.started, .int .i64 d.tail.epoch, .int .i64 d.tail.seq, .slice a6 d.base.length c6, .slice a7 d.clients.length c7, .slice a8 d.log.length c8, .int .i64 d.firm.epoch, .int .i64 d.firm.seq, .slice a11 d.chunks.length c11] 41))
  have X0 := BxN.new w #[.int .i64 d.pg.pool, .int .i64 d.pg.no, .int .i64 d.seen, .int .i64 d.started, .int .i64 d.tail.epoch, .int .i64 d.tail.seq, .slice a6 d.base.length c6, .slice a7 d.clients.length c7, .slice a8 d.log.length c8, .int .i64 d.firm.epoch, .int .i64 d.firm.seq, .slice a11 d.chunks.length c11] 41
  have XH := Lib.hid X0
  have BH := Lib.hid (Below.refl (w.alloc (.cells #[.int .i64 d.pg.pool, .int .i64 d.pg.no, .int .i64 d.seen, .int .i64 d.started, .int .i64 d.tail.epoch, .int .i64 d.tail.seq, .slice a6 d.base.length c6, .slice a7 d.clients.length c7, .slice a8 d.log.length c8, .int .i64 d.firm.epoch, .int .i64 d.firm.seq, .slice a11 d.chunks.length c11] 41)).heap.size (w.alloc (.cells #[.int .i64 d.pg.pool, .int .i64 d.pg.no, .int .i64 d.seen, .int .i64 d.started, .int .i64 d.tail.epoch, .int .i64 d.tail.seq, .slice a6 d.base.length c6, .slice a7 d.clients.length c7, .slice a8 d.log.length c8, .int .i64 d.firm.epoch, .int .i64 d.firm.seq, .slice a11 d.chunks.length c11] 41)))
  have XC := Lib.hid (fun w' (b : Below (w.alloc (.cells #[.int .i64 d.pg.pool, .int .i64 d.pg.no, .int .i64 d.seen, .int .i64 d.started, .int .i64 d.tail.epoch, .int .i64 d.tail.seq, .slice a6 d.base.length c6, .slice a7 d.clients.length c7, .slice a8 d.log.length c8, .int .i64 d.firm.epoch, .int .i64 d.firm.seq, .slice a11 d.chunks.length c11] 41)).heap.size (w.alloc (.cells #[.int .i64 d.pg.pool, .int .i64 d.pg.no, .int .i64 d.seen, .int .i64 d.started, .int .i64 d.tail.epoch, .int .i64 d.tail.seq, .slice a6 d.base.length c6, .slice a7 d.clients.length c7, .slice a8 d.log.length c8, .int .i64 d.firm.epoch, .int .i64 d.firm.seq, .slice a11 d.chunks.length c11] 41)) w') => (show w.heap.size < w'.heap.size ∧ w'.cell? ⟨w.heap.size, 4, none⟩ = some (.int .i64 d.tail.epoch) ∧ w'.cell? ⟨w.heap.size, 5, none⟩ = some (.int .i64 d.tail.seq) from ⟨(X0.later b).lt, (X0.later b).cells 4 _ rfl, (X0.later b).cells 5 _ rfl⟩))
  clear X0
  obtain ⟨p1, e1⟩ := bool_of (∀ (i : Nat) (x y : DHead), d.base[i]? = some x → d.base[i + 1]? = some y → hLt x y = true)
  obtain ⟨p2, e2⟩ := bool_of (∃ x, x ∈ d.base ∧ badH d.tail x = true)
  obtain ⟨p3, e3⟩ := bool_of (∀ (i : Nat) (x y : DLast), d.clients[i]? = some x → d.clients[i + 1]? = some y → lLt x y = true)
  obtain ⟨p4, e4⟩ := bool_of (∃ x, x ∈ d.clients ∧ badL d.tail x = true)
  have CO := Lib.hid (fun w' (b : Below ((w.alloc (.cells #[.int .i64 d.pg.pool, .int .i64 d.pg.no, .int .i64 d.seen, .int .i64 d.started, .int .i64 d.tail.epoch, .int .i64 d.tail.seq, .slice a6 d.base.length c6, .slice a7 d.clients.length c7, .slice a8 d.log.length c8, .int .i64 d.firm.epoch, .int .i64 d.firm.seq, .slice a11 d.chunks.length c11] 41))).heap.size ((w.alloc (.cells #[.int .i64 d.pg.pool, .int .i64 d.pg.no, .int .i64 d.seen, .int .i64 d.started, .int .i64 d.tail.epoch, .int .i64 d.tail.seq, .slice a6 d.base.length c6, .slice a7 d.clients.length c7, .slice a8 d.log.length c8, .int .i64 d.firm.epoch, .int .i64 d.firm.seq, .slice a11 d.chunks.length c11] 41))) w') => implVerOk d.tail w')
  have CR1 := Lib.hid (fun w' (b : Below ((w.alloc (.cells #[.int .i64 d.pg.pool, .int .i64 d.pg.no, .int .i64 d.seen, .int .i64 d.started, .int .i64 d.tail.epoch, .int .i64 d.tail.seq, .slice a6 d.base.length c6, .slice a7 d.clients.length c7, .slice a8 d.log.length c8, .int .i64 d.firm.epoch, .int .i64 d.firm.seq, .slice a11 d.chunks.length c11] 41))).heap.size ((w.alloc (.cells #[.int .i64 d.pg.pool, .int .i64 d.pg.no, .int .i64 d.seen, .int .i64 d.started, .int .i64 d.tail.epoch, .int .i64 d.tail.seq, .slice a6 d.base.length c6, .slice a7 d.clients.length c7, .slice a8 d.log.length c8, .int .i64 d.firm.epoch, .int .i64 d.firm.seq, .slice a11 d.chunks.length c11] 41))) w') => (risingHead a6 c6 d.base w' l6 ((r6.below LY.out).below b)).mono (fun _ _ q => iff_ret e1 q))
  have CB1 := Lib.hid (fun w' (b : Below ((w.alloc (.cells #[.int .i64 d.pg.pool, .int .i64 d.pg.no, .int .i64 d.seen, .int .i64 d.started, .int .i64 d.tail.epoch, .int .i64 d.tail.seq, .slice a6 d.base.length c6, .slice a7 d.clients.length c7, .slice a8 d.log.length c8, .int .i64 d.firm.epoch, .int .i64 d.firm.seq, .slice a11 d.chunks.length c11] 41))).heap.size ((w.alloc (.cells #[.int .i64 d.pg.pool, .int .i64 d.pg.no, .int .i64 d.seen, .int .i64 d.started, .int .i64 d.tail.epoch, .int .i64 d.tail.seq, .slice a6 d.base.length c6, .slice a7 d.clients.length c7, .slice a8 d.log.length c8, .int .i64 d.firm.epoch, .int .i64 d.firm.seq, .slice a11 d.chunks.length c11] 41))) w') => (hasWrongHead w.heap.size d.tail a6 c6 d.base w' l6 ((r6.below LY.out).below b) (XC.out w' b).1 (XC.out w' b).2.1 (XC.out w' b).2.2 (tabs_later (tabs_later hT LY.out) b)).mono (fun _ _ q => iff_ret e2 q))
  have CR2 := Lib.hid (fun w' (b : Below ((w.alloc (.cells #[.int .i64 d.pg.pool, .int .i64 d.pg.no, .int .i64 d.seen, .int .i64 d.started, .int .i64 d.tail.epoch, .int .i64 d.tail.seq, .slice a6 d.base.length c6, .slice a7 d.clients.length c7, .slice a8 d.log.length c8, .int .i64 d.firm.epoch, .int .i64 d.firm.seq, .slice a11 d.chunks.length c11] 41))).heap.size ((w.alloc (.cells #[.int .i64 d.pg.pool, .int .i64 d.pg.no, .int .i64 d.seen, .int .i64 d.started, .int .i64 d.tail.epoch, .int .i64 d.tail.seq, .slice a6 d.base.length c6, .slice a7 d.clients.length c7, .slice a8 d.log.length c8, .int .i64 d.firm.epoch, .int .i64 d.firm.seq, .slice a11 d.chunks.length c11] 41))) w') => (risingLast a7 c7 d.clients w' l7 ((r7.below LY.out).below b)).mono (fun _ _ q => iff_ret e3 q))
  have CB2 := Lib.hid (fun w' (b : Below ((w.alloc (.cells #[.int .i64 d.pg.pool, .int .i64 d.pg.no, .int .i64 d.seen, .int .i64 d.started, .int .i64 d.tail.epoch, .int .i64 d.tail.seq, .slice a6 d.base.length c6, .slice a7 d.clients.length c7, .slice a8 d.log.length c8, .int .i64 d.firm.epoch, .int .i64 d.firm.seq, .slice a11 d.chunks.length c11] 41))).heap.size ((w.alloc (.cells #[.int .i64 d.pg.pool, .int .i64 d.pg.no, .int .i64 d.seen, .int .i64 d.started, .int .i64 d.tail.epoch, .int .i64 d.tail.seq, .slice a6 d.base.length c6, .slice a7 d.clients.length c7, .slice a8 d.log.length c8, .int .i64 d.firm.epoch, .int .i64 d.firm.seq, .slice a11 d.chunks.length c11] 41))) w') => (hasWrongLast w.heap.size d.tail a7 c7 d.clients w' l7 ((r7.below LY.out).below b) (XC.out w' b).1 (XC.out w' b).2.1 (XC.out w' b).2.2).mono (fun _ _ q => iff_ret e4 q))
  have HV : (verB d.tail && (decide (d.base.length ≤ 16) && (p1 && (!p2 && (decide (d.clients.length ≤ 6) && (p3 && !p4)))))) = true ↔ TailP d := by
    have A := seq_iff (m := 16) (lt := hLt) (p := headB d.tail) (q := badH d.tail) (l := d.base) (fun _ => rfl) e1 e2
    have B := seq_iff (m := 6) (lt := lLt) (p := lastB d.tail) (q := badL d.tail) (l := d.clients) (fun _ => rfl) e3 e4
    unfold TailP
    rw [← A, ← B]
    simp only [Bool.and_eq_true, and_assoc]
  refine Calls.mono ?_ (fun e w' q => iff_of HV q)
  clear HV e1 e2 e3 e4 r6 r7 hT XC
  have E6 : decide ((d.base.length : Int) ≤ 16) = decide (d.base.length ≤ 16) := nlen d.base.length 16
  have E7 : decide ((d.clients.length : Int) ≤ 6) = decide (d.clients.length ≤ 6) := nlen d.clients.length 6
  obtain ⟨v, hv⟩ : ∃ v, (verB d.tail && (decide (d.base.length ≤ 16) && (p1 && (!p2 && (decide (d.clients.length ≤ 6) && (p3 && !p4)))))) = v := ⟨_, rfl⟩
  rw [hv]
  generalize decide (d.base.length ≤ 16) = b6 at *
  generalize decide (d.clients.length ≤ 6) = b7 at *
  generalize verB d.tail = bo at *
  generalize d.tail.epoch = te at *
  generalize d.tail.seq = ts at *
  generalize d.base.length = n6 at *
  generalize d.clients.length = n7 at *
  have X_4 := XH.out.cells 4 _ rfl
  have X_5 := XH.out.cells 5 _ rfl
  have X_6 := XH.out.cells 6 _ rfl
  have X_7 := XH.out.cells 7 _ rfl
  cases bo
  · simp only [Bool.false_and, Bool.and_false, Bool.true_and, Bool.and_true, Bool.false_or, Bool.or_false, Bool.true_or, Bool.or_true, Bool.not_true, Bool.not_false, if_true, if_false, Bool.false_eq_true, reduceIte] at hv
    subst hv
    go_enter Tryz.func44, Tryz.ntmps44
    go_wp2_with fail
    refine (CO.out _ BH.out).mono ?_
    rintro e w2 ⟨rfl, b2⟩
    have XH := Lib.hid (XH.out.later b2)
    have X_4 := XH.out.cells 4 _ rfl
    have X_5 := XH.out.cells 5 _ rfl
    have X_6 := XH.out.cells 6 _ rfl
    have X_7 := XH.out.cells 7 _ rfl
    have BH := Lib.hid (chainX _ BH.out b2)
    clear b2
    go_wp2
    go_ret
    exact ⟨rfl, chainX w LY.out BH.out⟩
  · skip
    cases b6
    · simp only [Bool.false_and, Bool.and_false, Bool.true_and, Bool.and_true, Bool.false_or, Bool.or_false, Bool.true_or, Bool.or_true, Bool.not_true, Bool.not_false, if_true, if_false, Bool.false_eq_true, reduceIte] at hv
      subst hv
      go_enter Tryz.func44, Tryz.ntmps44
      go_wp2_with fail
      refine (CO.out _ BH.out).mono ?_
      rintro e w2 ⟨rfl, b2⟩
      have XH := Lib.hid (XH.out.later b2)
      have X_4 := XH.out.cells 4 _ rfl
      have X_5 := XH.out.cells 5 _ rfl
      have X_6 := XH.out.cells 6 _ rfl
      have X_7 := XH.out.cells 7 _ rfl
      have BH := Lib.hid (chainX _ BH.out b2)
      clear b2
      go_wp2
      go_ret
      exact ⟨rfl, chainX w LY.out BH.out⟩
    · skip
      cases p1
      · simp only [Bool.false_and, Bool.and_false, Bool.true_and, Bool.and_true, Bool.false_or, Bool.or_false, Bool.true_or, Bool.or_true, Bool.not_true, Bool.not_false, if_true, if_false, Bool.false_eq_true, reduceIte] at hv
        subst hv
        go_enter Tryz.func44, Tryz.ntmps44
        go_wp2_with fail
        refine (CO.out _ BH.out).mono ?_
        rintro e w2 ⟨rfl, b2⟩
        have XH := Lib.hid (XH.out.later b2)
        have X_4 := XH.out.cells 4 _ rfl
        have X_5 := XH.out.cells 5 _ rfl
        have X_6 := XH.out.cells 6 _ rfl
        have X_7 := XH.out.cells 7 _ rfl
        have BH := Lib.hid (chainX _ BH.out b2)
        clear b2
        go_wp2_with fail
        refine (CR1.out _ BH.out).mono ?_
        rintro e w2 ⟨rfl, b2⟩
        have XH := Lib.hid (XH.out.later b2)
        have X_4 := XH.out.cells 4 _ rfl
        have X_5 := XH.out.cells 5 _ rfl
        have X_6 := XH.out.cells 6 _ rfl
        have X_7 := XH.out.cells 7 _ rfl
        have BH := Lib.hid (chainX _ BH.out b2)
        clear b2
        go_wp2
        go_ret
        exact ⟨rfl, chainX w LY.out BH.out⟩
      · skip
        cases p2
        · skip
          cases b7
          · simp only [Bool.false_and, Bool.and_false, Bool.true_and, Bool.and_true, Bool.false_or, Bool.or_false, Bool.true_or, Bool.or_true, Bool.not_true, Bool.not_false, if_true, if_false, Bool.false_eq_true, reduceIte] at hv
            subst hv
            go_enter Tryz.func44, Tryz.ntmps44
            go_wp2_with fail
            refine (CO.out _ BH.out).mono ?_
            rintro e w2 ⟨rfl, b2⟩
            have XH := Lib.hid (XH.out.later b2)
            have X_4 := XH.out.cells 4 _ rfl
            have X_5 := XH.out.cells 5 _ rfl
            have X_6 := XH.out.cells 6 _ rfl
            have X_7 := XH.out.cells 7 _ rfl
            have BH := Lib.hid (chainX _ BH.out b2)
            clear b2
            go_wp2_with fail
            refine (CR1.out _ BH.out).mono ?_
            rintro e w2 ⟨rfl, b2⟩
            have XH := Lib.hid (XH.out.later b2)
            have X_4 := XH.out.cells 4 _ rfl
            have X_5 := XH.out.cells 5 _ rfl
            have X_6 := XH.out.cells 6 _ rfl
            have X_7 := XH.out.cells 7 _ rfl
            have BH := Lib.hid (chainX _ BH.out b2)
            clear b2
            go_wp2_with fail
            refine (CB1.out _ BH.out).mono ?_
            rintro e w2 ⟨rfl, b2⟩
            have XH := Lib.hid (XH.out.later b2)
            have X_4 := XH.out.cells 4 _ rfl
            have X_5 := XH.out.cells 5 _ rfl
            have X_6 := XH.out.cells 6 _ rfl
            have X_7 := XH.out.cells 7 _ rfl
            have BH := Lib.hid (chainX _ BH.out b2)
            clear b2
            go_wp2
            go_ret
            exact ⟨rfl, chainX w LY.out BH.out⟩
          · skip
            cases p3
            · simp only [Bool.false_and, Bool.and_false, Bool.true_and, Bool.and_true, Bool.false_or, Bool.or_false, Bool.true_or, Bool.or_true, Bool.not_true, Bool.not_false, if_true, if_false, Bool.false_eq_true, reduceIte] at hv
              subst hv
              go_enter Tryz.func44, Tryz.ntmps44
              go_wp2_with fail
              refine (CO.out _ BH.out).mono ?_
              rintro e w2 ⟨rfl, b2⟩
              have XH := Lib.hid (XH.out.later b2)
              have X_4 := XH.out.cells 4 _ rfl
              have X_5 := XH.out.cells 5 _ rfl
              have X_6 := XH.out.cells 6 _ rfl
              have X_7 := XH.out.cells 7 _ rfl
              have BH := Lib.hid (chainX _ BH.out b2)
              clear b2
              go_wp2_with fail
              refine (CR1.out _ BH.out).mono ?_
              rintro e w2 ⟨rfl, b2⟩
              have XH := Lib.hid (XH.out.later b2)
              have X_4 := XH.out.cells 4 _ rfl
              have X_5 := XH.out.cells 5 _ rfl
              have X_6 := XH.out.cells 6 _ rfl
              have X_7 := XH.out.cells 7 _ rfl
              have BH := Lib.hid (chainX _ BH.out b2)
              clear b2
              go_wp2_with fail
              refine (CB1.out _ BH.out).mono ?_
              rintro e w2 ⟨rfl, b2⟩
              have XH := Lib.hid (XH.out.later b2)
              have X_4 := XH.out.cells 4 _ rfl
              have X_5 := XH.out.cells 5 _ rfl
              have X_6 := XH.out.cells 6 _ rfl
              have X_7 := XH.out.cells 7 _ rfl
              have BH := Lib.hid (chainX _ BH.out b2)
              clear b2
              go_wp2_with fail
              refine (CR2.out _ BH.out).mono ?_
              rintro e w2 ⟨rfl, b2⟩
              have XH := Lib.hid (XH.out.later b2)
              have X_4 := XH.out.cells 4 _ rfl
              have X_5 := XH.out.cells 5 _ rfl
              have X_6 := XH.out.cells 6 _ rfl
              have X_7 := XH.out.cells 7 _ rfl
              have BH := Lib.hid (chainX _ BH.out b2)
              clear b2
              go_wp2
              go_ret
              exact ⟨rfl, chainX w LY.out BH.out⟩
            · skip
              cases p4
              · skip
                simp only [Bool.false_and, Bool.and_false, Bool.true_and, Bool.and_true, Bool.false_or, Bool.or_false, Bool.true_or, Bool.or_true, Bool.not_true, Bool.not_false, if_true, if_false, Bool.false_eq_true, reduceIte] at hv
                subst hv
                go_enter Tryz.func44, Tryz.ntmps44
                go_wp2_with fail
                refine (CO.out _ BH.out).mono ?_
                rintro e w2 ⟨rfl, b2⟩
                have XH := Lib.hid (XH.out.later b2)
                have X_4 := XH.out.cells 4 _ rfl
                have X_5 := XH.out.cells 5 _ rfl
                have X_6 := XH.out.cells 6 _ rfl
                have X_7 := XH.out.cells 7 _ rfl
                have BH := Lib.hid (chainX _ BH.out b2)
                clear b2
                go_wp2_with fail
                refine (CR1.out _ BH.out).mono ?_
                rintro e w2 ⟨rfl, b2⟩
                have XH := Lib.hid (XH.out.later b2)
                have X_4 := XH.out.cells 4 _ rfl
                have X_5 := XH.out.cells 5 _ rfl
                have X_6 := XH.out.cells 6 _ rfl
                have X_7 := XH.out.cells 7 _ rfl
                have BH := Lib.hid (chainX _ BH.out b2)
                clear b2
                go_wp2_with fail
                refine (CB1.out _ BH.out).mono ?_
                rintro e w2 ⟨rfl, b2⟩
                have XH := Lib.hid (XH.out.later b2)
                have X_4 := XH.out.cells 4 _ rfl
                have X_5 := XH.out.cells 5 _ rfl
                have X_6 := XH.out.cells 6 _ rfl
                have X_7 := XH.out.cells 7 _ rfl
                have BH := Lib.hid (chainX _ BH.out b2)
                clear b2
                go_wp2_with fail
                refine (CR2.out _ BH.out).mono ?_
                rintro e w2 ⟨rfl, b2⟩
                have XH := Lib.hid (XH.out.later b2)
                have X_4 := XH.out.cells 4 _ rfl
                have X_5 := XH.out.cells 5 _ rfl
                have X_6 := XH.out.cells 6 _ rfl
                have X_7 := XH.out.cells 7 _ rfl
                have BH := Lib.hid (chainX _ BH.out b2)
                clear b2
                go_wp2_with fail
                refine (CB2.out _ BH.out).mono ?_
                rintro e w2 ⟨rfl, b2⟩
                have XH := Lib.hid (XH.out.later b2)
                have X_4 := XH.out.cells 4 _ rfl
                have X_5 := XH.out.cells 5 _ rfl
                have X_6 := XH.out.cells 6 _ rfl
                have X_7 := XH.out.cells 7 _ rfl
                have BH := Lib.hid (chainX _ BH.out b2)
                clear b2
                go_wp2
                go_ret
                exact ⟨rfl, chainX w LY.out BH.out⟩
              · simp only [Bool.false_and, Bool.and_false, Bool.true_and, Bool.and_true, Bool.false_or, Bool.or_false, Bool.true_or, Bool.or_true, Bool.not_true, Bool.not_false, if_true, if_false, Bool.false_eq_true, reduceIte] at hv
                subst hv
                go_enter Tryz.func44, Tryz.ntmps44
                go_wp2_with fail
                refine (CO.out _ BH.out).mono ?_
                rintro e w2 ⟨rfl, b2⟩
                have XH := Lib.hid (XH.out.later b2)
                have X_4 := XH.out.cells 4 _ rfl
                have X_5 := XH.out.cells 5 _ rfl
                have X_6 := XH.out.cells 6 _ rfl
                have X_7 := XH.out.cells 7 _ rfl
                have BH := Lib.hid (chainX _ BH.out b2)
                clear b2
                go_wp2_with fail
                refine (CR1.out _ BH.out).mono ?_
                rintro e w2 ⟨rfl, b2⟩
                have XH := Lib.hid (XH.out.later b2)
                have X_4 := XH.out.cells 4 _ rfl
                have X_5 := XH.out.cells 5 _ rfl
                have X_6 := XH.out.cells 6 _ rfl
                have X_7 := XH.out.cells 7 _ rfl
                have BH := Lib.hid (chainX _ BH.out b2)
                clear b2
                go_wp2_with fail
                refine (CB1.out _ BH.out).mono ?_
                rintro e w2 ⟨rfl, b2⟩
                have XH := Lib.hid (XH.out.later b2)
                have X_4 := XH.out.cells 4 _ rfl
                have X_5 := XH.out.cells 5 _ rfl
                have X_6 := XH.out.cells 6 _ rfl
                have X_7 := XH.out.cells 7 _ rfl
                have BH := Lib.hid (chainX _ BH.out b2)
                clear b2
                go_wp2_with fail
                refine (CR2.out _ BH.out).mono ?_
                rintro e w2 ⟨rfl, b2⟩
                have XH := Lib.hid (XH.out.later b2)
                have X_4 := XH.out.cells 4 _ rfl
                have X_5 := XH.out.cells 5 _ rfl
                have X_6 := XH.out.cells 6 _ rfl
                have X_7 := XH.out.cells 7 _ rfl
                have BH := Lib.hid (chainX _ BH.out b2)
                clear b2
                go_wp2_with fail
                refine (CB2.out _ BH.out).mono ?_
                rintro e w2 ⟨rfl, b2⟩
                have XH := Lib.hid (XH.out.later b2)
                have X_4 := XH.out.cells 4 _ rfl
                have X_5 := XH.out.cells 5 _ rfl
                have X_6 := XH.out.cells 6 _ rfl
                have X_7 := XH.out.cells 7 _ rfl
                have BH := Lib.hid (chainX _ BH.out b2)
                clear b2
                go_wp2
                go_ret
                exact ⟨rfl, chainX w LY.out BH.out⟩
        · simp only [Bool.false_and, Bool.and_false, Bool.true_and, Bool.and_true, Bool.false_or, Bool.or_false, Bool.true_or, Bool.or_true, Bool.not_true, Bool.not_false, if_true, if_false, Bool.false_eq_true, reduceIte] at hv
          subst hv
          go_enter Tryz.func44, Tryz.ntmps44
          go_wp2_with fail
          refine (CO.out _ BH.out).mono ?_
          rintro e w2 ⟨rfl, b2⟩
          have XH := Lib.hid (XH.out.later b2)
          have X_4 := XH.out.cells 4 _ rfl
          have X_5 := XH.out.cells 5 _ rfl
          have X_6 := XH.out.cells 6 _ rfl
          have X_7 := XH.out.cells 7 _ rfl
          have BH := Lib.hid (chainX _ BH.out b2)
          clear b2
          go_wp2_with fail
          refine (CR1.out _ BH.out).mono ?_
          rintro e w2 ⟨rfl, b2⟩
          have XH := Lib.hid (XH.out.later b2)
          have X_4 := XH.out.cells 4 _ rfl
          have X_5 := XH.out.cells 5 _ rfl
          have X_6 := XH.out.cells 6 _ rfl
          have X_7 := XH.out.cells 7 _ rfl
          have BH := Lib.hid (chainX _ BH.out b2)
          clear b2
          go_wp2_with fail
          refine (CB1.out _ BH.out).mono ?_
          rintro e w2 ⟨rfl, b2⟩
          have XH := Lib.hid (XH.out.later b2)
          have X_4 := XH.out.cells 4 _ rfl
          have X_5 := XH.out.cells 5 _ rfl
          have X_6 := XH.out.cells 6 _ rfl
          have X_7 := XH.out.cells 7 _ rfl
          have BH := Lib.hid (chainX _ BH.out b2)
          clear b2
          go_wp2
          go_ret
          exact ⟨rfl, chainX w LY.out BH.out⟩
set_option maxRecDepth 100000 in
set_option maxHeartbeats 4000000 in
theorem implChunksOk (d : DPgState) {a6 a7 a8 a11 : Option Addr} {c6 c7 c8 c11 : Nat} (w : World) (l11 : d.chunks.length ≤ 2097152) {fr : Bool} {lo : Nat} (r11 : Rows fr lo w a11 d.chunks) (hT : Nam.Tabs w) : Calls Tryz.prog 49 #[.agg #[.int .i64 d.pg.pool, .int .i64 d.pg.no, .int .i64 d.seen, .int .i64 d.started, .int .i64 d.tail.epoch, .int .i64 d.tail.seq, .slice a6 d.base.length c6, .slice a7 d.clients.length c7, .slice a8 d.log.length c8, .int .i64 d.firm.epoch, .int .i64 d.firm.seq, .slice a11 d.chunks.length c11]] w (IffB (SeqP 160 cLt chunkB d.chunks) w) := by
  have LY := Lib.hid (lay w (.cells #[.int .i64 d.pg.pool, .int .i64 d.pg.no, .int .i64 d.seen, .int .i64 d.started, .int .i64 d.tail.epoch, .int .i64 d.tail.seq, .slice a6 d.base.length c6, .slice a7 d.clients.length c7, .slice a8 d.log.length c8, .int .i64 d.firm.epoch, .int .i64 d.firm.seq, .slice a11 d.chunks.length c11] 41))
  have X0 := BxN.new w #[.int .i64 d.pg.pool, .int .i64 d.pg.no, .int .i64 d.seen, .int .i64 d.started, .int .i64 d.tail.epoch, .int .i64 d.tail.seq, .slice a6 d.base.length c6, .slice a7 d.clients.length c7, .slice a8 d.log.length c8, .int .i64 d.firm.epoch, .int .i64 d.firm.seq, .slice a11 d.chunks.length c11] 41
  have XH := Lib.hid X0
  have BH := Lib.hid (Below.refl (w.alloc (.cells #[.int .i64 d.pg.pool, .int .i64 d.pg.no, .int .i64 d.seen, .int .i64 d.started, .int .i64 d.tail.epoch, .int .i64 d.tail.seq, .slice a6 d.base.length c6, .slice a7 d.clients.length c7, .slice a8 d.log.length c8, .int .i64 d.firm.epoch, .int .i64 d.firm.seq, .slice a11 d.chunks.length c11] 41)).heap.size (w.alloc (.cells #[.int .i64 d.pg.pool, .int .i64 d.pg.no, .int .i64 d.seen, .int .i64 d.started, .int .i64 d.tail.epoch, .int .i64 d.tail.seq, .slice a6 d.base.length c6, .slice a7 d.clients.length c7, .slice a8 d.log.length c8, .int .i64 d.firm.epoch, .int .i64 d.firm.seq, .slice a11 d.chunks.length c11] 41)))
  clear X0
  obtain ⟨p1, e1⟩ := bool_of (∀ (i : Nat) (x y : DChunk), d.chunks[i]? = some x → d.chunks[i + 1]? = some y → cLt x y = true)
  obtain ⟨p2, e2⟩ := bool_of (∃ x, x ∈ d.chunks ∧ badC x = true)
  have CR1 := Lib.hid (fun w' (b : Below ((w.alloc (.cells #[.int .i64 d.pg.pool, .int .i64 d.pg.no, .int .i64 d.seen, .int .i64 d.started, .int .i64 d.tail.epoch, .int .i64 d.tail.seq, .slice a6 d.base.length c6, .slice a7 d.clients.length c7, .slice a8 d.log.length c8, .int .i64 d.firm.epoch, .int .i64 d.firm.seq, .slice a11 d.chunks.length c11] 41))).heap.size ((w.alloc (.cells #[.int .i64 d.pg.pool, .int .i64 d.pg.no, .int .i64 d.seen, .int .i64 d.started, .int .i64 d.tail.epoch, .int .i64 d.tail.seq, .slice a6 d.base.length c6, .slice a7 d.clients.length c7, .slice a8 d.log.length c8, .int .i64 d.firm.epoch, .int .i64 d.firm.seq, .slice a11 d.chunks.length c11] 41))) w') => (risingChunk a11 c11 d.chunks w' l11 ((r11.below LY.out).below b)).mono (fun _ _ q => iff_ret e1 q))
  have CB1 := Lib.hid (fun w' (b : Below ((w.alloc (.cells #[.int .i64 d.pg.pool, .int .i64 d.pg.no, .int .i64 d.seen, .int .i64 d.started, .int .i64 d.tail.epoch, .int .i64 d.tail.seq, .slice a6 d.base.length c6, .slice a7 d.clients.length c7, .slice a8 d.log.length c8, .int .i64 d.firm.epoch, .int .i64 d.firm.seq, .slice a11 d.chunks.length c11] 41))).heap.size ((w.alloc (.cells #[.int .i64 d.pg.pool, .int .i64 d.pg.no, .int .i64 d.seen, .int .i64 d.started, .int .i64 d.tail.epoch, .int .i64 d.tail.seq, .slice a6 d.base.length c6, .slice a7 d.clients.length c7, .slice a8 d.log.length c8, .int .i64 d.firm.epoch, .int .i64 d.firm.seq, .slice a11 d.chunks.length c11] 41))) w') => (hasWrongChunk a11 c11 d.chunks w' l11 ((r11.below LY.out).below b) (tabs_later (tabs_later hT LY.out) b)).mono (fun _ _ q => iff_ret e2 q))
  have HV := seq_iff (m := 160) (lt := cLt) (p := chunkB) (q := badC) (l := d.chunks) (fun _ => rfl) e1 e2
  refine Calls.mono ?_ (fun e w' q => iff_of HV q)
  clear HV e1 e2 r11 hT
  have E6 : decide ((d.chunks.length : Int) ≤ 160) = decide (d.chunks.length ≤ 160) := nlen d.chunks.length 160
  obtain ⟨v, hv⟩ : ∃ v, (decide (d.chunks.length ≤ 160) && (p1 && !p2)) = v := ⟨_, rfl⟩
  rw [hv]
  generalize decide (d.chunks.length ≤ 160) = b6 at *
  generalize d.chunks.length = n6 at *
  have X_11 := XH.out.cells 11 _ rfl
  cases b6
  · simp only [Bool.false_and, Bool.and_false, Bool.true_and, Bool.and_true, Bool.false_or, Bool.or_false, Bool.true_or, Bool.or_true, Bool.not_true, Bool.not_false, if_true, if_false, Bool.false_eq_true, reduceIte] at hv
    subst hv
    go_enter Tryz.func49, Tryz.ntmps49
    go_wp2
    go_ret
    exact ⟨rfl, chainX w LY.out BH.out⟩
  · skip
    cases p1
    · simp only [Bool.false_and, Bool.and_false, Bool.true_and, Bool.and_true, Bool.false_or, Bool.or_false, Bool.true_or, Bool.or_true, Bool.not_true, Bool.not_false, if_true, if_false, Bool.false_eq_true, reduceIte] at hv
      subst hv
      go_enter Tryz.func49, Tryz.ntmps49
      go_wp2_with fail
      refine (CR1.out _ BH.out).mono ?_
      rintro e w2 ⟨rfl, b2⟩
      have XH := Lib.hid (XH.out.later b2)
      have X_11 := XH.out.cells 11 _ rfl
      have BH := Lib.hid (chainX _ BH.out b2)
      clear b2
      go_wp2
      go_ret
      exact ⟨rfl, chainX w LY.out BH.out⟩
    · skip
      cases p2
      · skip
        simp only [Bool.false_and, Bool.and_false, Bool.true_and, Bool.and_true, Bool.false_or, Bool.or_false, Bool.true_or, Bool.or_true, Bool.not_true, Bool.not_false, if_true, if_false, Bool.false_eq_true, reduceIte] at hv
        subst hv
        go_enter Tryz.func49, Tryz.ntmps49
        go_wp2_with fail
        refine (CR1.out _ BH.out).mono ?_
        rintro e w2 ⟨rfl, b2⟩
        have XH := Lib.hid (XH.out.later b2)
        have X_11 := XH.out.cells 11 _ rfl
        have BH := Lib.hid (chainX _ BH.out b2)
        clear b2
        go_wp2_with fail
        refine (CB1.out _ BH.out).mono ?_
        rintro e w2 ⟨rfl, b2⟩
        have XH := Lib.hid (XH.out.later b2)
        have X_11 := XH.out.cells 11 _ rfl
        have BH := Lib.hid (chainX _ BH.out b2)
        clear b2
        go_wp2
        go_ret
        exact ⟨rfl, chainX w LY.out BH.out⟩
      · simp only [Bool.false_and, Bool.and_false, Bool.true_and, Bool.and_true, Bool.false_or, Bool.or_false, Bool.true_or, Bool.or_true, Bool.not_true, Bool.not_false, if_true, if_false, Bool.false_eq_true, reduceIte] at hv
        subst hv
        go_enter Tryz.func49, Tryz.ntmps49
        go_wp2_with fail
        refine (CR1.out _ BH.out).mono ?_
        rintro e w2 ⟨rfl, b2⟩
        have XH := Lib.hid (XH.out.later b2)
        have X_11 := XH.out.cells 11 _ rfl
        have BH := Lib.hid (chainX _ BH.out b2)
        clear b2
        go_wp2_with fail
        refine (CB1.out _ BH.out).mono ?_
        rintro e w2 ⟨rfl, b2⟩
        have XH := Lib.hid (XH.out.later b2)
        have X_11 := XH.out.cells 11 _ rfl
        have BH := Lib.hid (chainX _ BH.out b2)
        clear b2
        go_wp2
        go_ret
        exact ⟨rfl, chainX w LY.out BH.out⟩
set_option maxRecDepth 100000 in
set_option maxHeartbeats 4000000 in
theorem implVerAfter (d : DPgState) {a6 a7 a8 a11 : Option Addr} {c6 c7 c8 c11 : Nat} (n : Nat) (hn : n ≤ d.log.length) (w : World) (l8 : d.log.length ≤ 2097152) {fr : Bool} {lo : Nat} (r8 : Rows fr lo w a8 d.log) : Calls Tryz.prog 91 #[.agg #[.int .i64 d.pg.pool, .int .i64 d.pg.no, .int .i64 d.seen, .int .i64 d.started, .int .i64 d.tail.epoch, .int .i64 d.tail.seq, .slice a6 d.base.length c6, .slice a7 d.clients.length c7, .slice a8 d.log.length c8, .int .i64 d.firm.epoch, .int .i64 d.firm.seq, .slice a11 d.chunks.length c11], .int .i64 (n : Int)] w (RetW (.agg #[.int .i64 (verAt d.tail d.log n).epoch, .int .i64 (verAt d.tail d.log n).seq]) w) := by
  have Z := chainX w (lay w (.cells #[.int .i64 d.pg.pool, .int .i64 d.pg.no, .int .i64 d.seen, .int .i64 d.started, .int .i64 d.tail.epoch, .int .i64 d.tail.seq, .slice a6 d.base.length c6, .slice a7 d.clients.length c7, .slice a8 d.log.length c8, .int .i64 d.firm.epoch, .int .i64 d.firm.seq, .slice a11 d.chunks.length c11] 41)) (lay (w.alloc (.cells #[.int .i64 d.pg.pool, .int .i64 d.pg.no, .int .i64 d.seen, .int .i64 d.started, .int .i64 d.tail.epoch, .int .i64 d.tail.seq, .slice a6 d.base.length c6, .slice a7 d.clients.length c7, .slice a8 d.log.length c8, .int .i64 d.firm.epoch, .int .i64 d.firm.seq, .slice a11 d.chunks.length c11] 41)) (.cells #[.int .i64 0, .int .i64 0] 35))
  have ZW := Lib.hid Z
  have XX := (BxN.new w #[.int .i64 d.pg.pool, .int .i64 d.pg.no, .int .i64 d.seen, .int .i64 d.started, .int .i64 d.tail.epoch, .int .i64 d.tail.seq, .slice a6 d.base.length c6, .slice a7 d.clients.length c7, .slice a8 d.log.length c8, .int .i64 d.firm.epoch, .int .i64 d.firm.seq, .slice a11 d.chunks.length c11] 41).later (lay (w.alloc (.cells #[.int .i64 d.pg.pool, .int .i64 d.pg.no, .int .i64 d.seen, .int .i64 d.started, .int .i64 d.tail.epoch, .int .i64 d.tail.seq, .slice a6 d.base.length c6, .slice a7 d.clients.length c7, .slice a8 d.log.length c8, .int .i64 d.firm.epoch, .int .i64 d.firm.seq, .slice a11 d.chunks.length c11] 41)) (.cells #[.int .i64 0, .int .i64 0] 35))
  have X_4 := XX.cells 4 _ rfl
  have X_5 := XX.cells 5 _ rfl
  have X_8 := XX.cells 8 _ rfl
  have FIN := Lib.hid (fun (p q : Int) (hp : (verAt d.tail d.log n).epoch = p) (hq : (verAt d.tail d.log n).seq = q) => (show RetW (.agg #[.int .i64 (verAt d.tail d.log n).epoch, .int .i64 (verAt d.tail d.log n).seq]) w (.returned (.agg #[.int .i64 p, .int .i64 q])) (w.alloc (.cells #[.int .i64 d.pg.pool, .int .i64 d.pg.no, .int .i64 d.seen, .int .i64 d.started, .int .i64 d.tail.epoch, .int .i64 d.tail.seq, .slice a6 d.base.length c6, .slice a7 d.clients.length c7, .slice a8 d.log.length c8, .int .i64 d.firm.epoch, .int .i64 d.firm.seq, .slice a11 d.chunks.length c11] 41) |>.alloc (.cells #[.int .i64 p, .int .i64 q] 35)) from ⟨by rw [hp, hq], chainX w (lay w (.cells #[.int .i64 d.pg.pool, .int .i64 d.pg.no, .int .i64 d.seen, .int .i64 d.started, .int .i64 d.tail.epoch, .int .i64 d.tail.seq, .slice a6 d.base.length c6, .slice a7 d.clients.length c7, .slice a8 d.log.length c8, .int .i64 d.firm.epoch, .int .i64 d.firm.seq, .slice a11 d.chunks.length c11] 41)) (lay (w.alloc (.cells #[.int .i64 d.pg.pool, .int .i64 d.pg.no, .int .i64 d.seen, .int .i64 d.started, .int .i64 d.tail.epoch, .int .i64 d.tail.seq, .slice a6 d.base.length c6, .slice a7 d.clients.length c7, .slice a8 d.log.length c8, .int .i64 d.firm.epoch, .int .i64 d.firm.seq, .slice a11 d.chunks.length c11] 41)) (.cells #[.int .i64 p, .int .i64 q] 35))⟩))
  by_cases h0 : n = 0
  · subst h0
    have F := Lib.hid (FIN.out _ _ rfl rfl)
    clear FIN XX r8 Z
    rw [show verAt d.tail d.log 0 = d.tail from rfl] at F ⊢
    go_enter Tryz.func91, Tryz.ntmps91
    go_wp2
    exact bodyPost_ret (v := .agg #[.int .i64 d.tail.epoch, .int .i64 d.tail.seq]) (by simp [results, Tryz.results91, go_sem, *]) rfl F.out
  · obtain ⟨j, rfl⟩ : ∃ j, n = j + 1 := ⟨n - 1, by omega⟩
    obtain ⟨e, he⟩ := get_lt (show j < d.log.length by omega)
    have EV : verAt d.tail d.log (j + 1) = e.ver := by
      show (match d.log[j]? with | some e => e.ver | none => d.tail) = e.ver
      rw [he]
    obtain ⟨b, off, cs, e8, -, hB, hr, hcc⟩ := (r8.below Z).at' he
    obtain ⟨rfl, f0_0, f0_1, f0_2, f0_3, f0_4, f0_6, f0_7, f0_8, f0_9⟩ := shape_Entry hr
    have e0 : ((w.alloc (.cells #[.int .i64 d.pg.pool, .int .i64 d.pg.no, .int .i64 d.seen, .int .i64 d.started, .int .i64 d.tail.epoch, .int .i64 d.tail.seq, .slice a6 d.base.length c6, .slice a7 d.clients.length c7, .slice a8 d.log.length c8, .int .i64 d.firm.epoch, .int .i64 d.firm.seq, .slice a11 d.chunks.length c11] 41)).alloc (.cells #[.int .i64 0, .int .i64 0] 35)).cell? ⟨b, off + j * 10, none⟩ = some (.int .i64 e.ver.epoch) := hcc 0 _ rfl
    have e1 : ((w.alloc (.cells #[.int .i64 d.pg.pool, .int .i64 d.pg.no, .int .i64 d.seen, .int .i64 d.started, .int .i64 d.tail.epoch, .int .i64 d.tail.seq, .slice a6 d.base.length c6, .slice a7 d.clients.length c7, .slice a8 d.log.length c8, .int .i64 d.firm.epoch, .int .i64 d.firm.seq, .slice a11 d.chunks.length c11] 41)).alloc (.cells #[.int .i64 0, .int .i64 0] 35)).cell? ⟨b, off + j * 10 + 1, none⟩ = some (.int .i64 e.ver.seq) := hcc 1 _ rfl
    clear r8
    subst e8
    have j1 : (j : Int) < (d.log.length : Int) := by omega
    have j0 : (0 : Int) ≤ (j : Int) := by omega
    have WK : IntKind.i64.wrap (((j + 1 : Nat) : Int) - 1) = (j : Int) := by rw [IntKind.wrap_i64]; omega
    have WK2 : IntKind.i64.wrap (j : Int) = (j : Int) := by rw [IntKind.wrap_i64]; omega
    have F := Lib.hid (FIN.out _ _ rfl rfl)
    have nz : ¬ ((j : Int) + 1 = 0) := by omega
    have nz2 : decide ((j : Int) + 1 = 0) = false := decide_eq_false nz
    clear FIN XX Z hcc hr
    rw [EV] at F ⊢
    go_enter Tryz.func91, Tryz.ntmps91
    go_wp2
    exact bodyPost_ret (v := .agg #[.int .i64 e.ver.epoch, .int .i64 e.ver.seq]) (by simp [results, Tryz.results91, go_sem, *]) rfl F.out
set_option maxRecDepth 100000 in
set_option maxHeartbeats 4000000 in
theorem implLast (d : DPgState) {a6 a7 a8 a11 : Option Addr} {c6 c7 c8 c11 : Nat} (w : World) (l8 : d.log.length ≤ 2097152) {fr : Bool} {lo : Nat} (r8 : Rows fr lo w a8 d.log) : Calls Tryz.prog 48 #[.agg #[.int .i64 d.pg.pool, .int .i64 d.pg.no, .int .i64 d.seen, .int .i64 d.started, .int .i64 d.tail.epoch, .int .i64 d.tail.seq, .slice a6 d.base.length c6, .slice a7 d.clients.length c7, .slice a8 d.log.length c8, .int .i64 d.firm.epoch, .int .i64 d.firm.seq, .slice a11 d.chunks.length c11]] w (RetW (.agg #[.int .i64 (lastV d).epoch, .int .i64 (lastV d).seq]) w) := by
  have Z := chainX w (lay w (.cells #[.int .i64 d.pg.pool, .int .i64 d.pg.no, .int .i64 d.seen, .int .i64 d.started, .int .i64 d.tail.epoch, .int .i64 d.tail.seq, .slice a6 d.base.length c6, .slice a7 d.clients.length c7, .slice a8 d.log.length c8, .int .i64 d.firm.epoch, .int .i64 d.firm.seq, .slice a11 d.chunks.length c11] 41)) (lay (w.alloc (.cells #[.int .i64 d.pg.pool, .int .i64 d.pg.no, .int .i64 d.seen, .int .i64 d.started, .int .i64 d.tail.epoch, .int .i64 d.tail.seq, .slice a6 d.base.length c6, .slice a7 d.clients.length c7, .slice a8 d.log.length c8, .int .i64 d.firm.epoch, .int .i64 d.firm.seq, .slice a11 d.chunks.length c11] 41)) (.cells #[.int .i64 0, .int .i64 0] 35))
  have ZW := Lib.hid Z
  have XX := (BxN.new w #[.int .i64 d.pg.pool, .int .i64 d.pg.no, .int .i64 d.seen, .int .i64 d.started, .int .i64 d.tail.epoch, .int .i64 d.tail.seq, .slice a6 d.base.length c6, .slice a7 d.clients.length c7, .slice a8 d.log.length c8, .int .i64 d.firm.epoch, .int .i64 d.firm.seq, .slice a11 d.chunks.length c11] 41).later (lay (w.alloc (.cells #[.int .i64 d.pg.pool, .int .i64 d.pg.no, .int .i64 d.seen, .int .i64 d.started, .int .i64 d.tail.epoch, .int .i64 d.tail.seq, .slice a6 d.base.length c6, .slice a7 d.clients.length c7, .slice a8 d.log.length c8, .int .i64 d.firm.epoch, .int .i64 d.firm.seq, .slice a11 d.chunks.length c11] 41)) (.cells #[.int .i64 0, .int .i64 0] 35))
  have X_0 := XX.cells 0 _ rfl
  have X_1 := XX.cells 1 _ rfl
  have X_2 := XX.cells 2 _ rfl
  have X_3 := XX.cells 3 _ rfl
  have X_4 := XX.cells 4 _ rfl
  have X_5 := XX.cells 5 _ rfl
  have X_6 := XX.cells 6 _ rfl
  have X_7 := XX.cells 7 _ rfl
  have X_8 := XX.cells 8 _ rfl
  have X_9 := XX.cells 9 _ rfl
  have X_10 := XX.cells 10 _ rfl
  have X_11 := XX.cells 11 _ rfl
  have Y0 := BxN.new (w.alloc (.cells #[.int .i64 d.pg.pool, .int .i64 d.pg.no, .int .i64 d.seen, .int .i64 d.started, .int .i64 d.tail.epoch, .int .i64 d.tail.seq, .slice a6 d.base.length c6, .slice a7 d.clients.length c7, .slice a8 d.log.length c8, .int .i64 d.firm.epoch, .int .i64 d.firm.seq, .slice a11 d.chunks.length c11] 41)) #[.int .i64 0, .int .i64 0] 35
  rw [World.size_alloc] at Y0
  have YH := Lib.hid Y0
  have C := Lib.hid (fun w' (b : Below ((w.alloc (.cells #[.int .i64 d.pg.pool, .int .i64 d.pg.no, .int .i64 d.seen, .int .i64 d.started, .int .i64 d.tail.epoch, .int .i64 d.tail.seq, .slice a6 d.base.length c6, .slice a7 d.clients.length c7, .slice a8 d.log.length c8, .int .i64 d.firm.epoch, .int .i64 d.firm.seq, .slice a11 d.chunks.length c11] 41)).alloc (.cells #[.int .i64 0, .int .i64 0] 35)).heap.size ((w.alloc (.cells #[.int .i64 d.pg.pool, .int .i64 d.pg.no, .int .i64 d.seen, .int .i64 d.started, .int .i64 d.tail.epoch, .int .i64 d.tail.seq, .slice a6 d.base.length c6, .slice a7 d.clients.length c7, .slice a8 d.log.length c8, .int .i64 d.firm.epoch, .int .i64 d.firm.seq, .slice a11 d.chunks.length c11] 41)).alloc (.cells #[.int .i64 0, .int .i64 0] 35)) w') => implVerAfter d (a6 := a6) (a7 := a7) (a8 := a8) (a11 := a11) (c6 := c6) (c7 := c7) (c8 := c8) (c11 := c11) d.log.length (Nat.le_refl _) w' l8 ((r8.below Z).below b))
  have BH := Lib.hid (Below.refl ((w.alloc (.cells #[.int .i64 d.pg.pool, .int .i64 d.pg.no, .int .i64 d.seen, .int .i64 d.started, .int .i64 d.tail.epoch, .int .i64 d.tail.seq, .slice a6 d.base.length c6, .slice a7 d.clients.length c7, .slice a8 d.log.length c8, .int .i64 d.firm.epoch, .int .i64 d.firm.seq, .slice a11 d.chunks.length c11] 41)).alloc (.cells #[.int .i64 0, .int .i64 0] 35)).heap.size ((w.alloc (.cells #[.int .i64 d.pg.pool, .int .i64 d.pg.no, .int .i64 d.seen, .int .i64 d.started, .int .i64 d.tail.epoch, .int .i64 d.tail.seq, .slice a6 d.base.length c6, .slice a7 d.clients.length c7, .slice a8 d.log.length c8, .int .i64 d.firm.epoch, .int .i64 d.firm.seq, .slice a11 d.chunks.length c11] 41)).alloc (.cells #[.int .i64 0, .int .i64 0] 35)))
  unfold lastV
  clear XX Y0 r8 Z
  generalize (verAt d.tail d.log d.log.length).epoch = ve at *
  generalize (verAt d.tail d.log d.log.length).seq = vs at *
  go_enter Tryz.func48, Tryz.ntmps48
  go_wp2_with fail
  refine (C.out _ BH.out).mono ?_
  rintro e w2 ⟨rfl, b2⟩
  have y0 := (YH.out.later b2).cells 0 _ rfl
  have y1 := (YH.out.later b2).cells 1 _ rfl
  have yf := (YH.out.later b2).free
  have B2 := Lib.hid (chainX w ZW.out b2)
  clear b2
  have P0 := Lib.hid (((YH.out.later (Below.refl _ _)).lt))
  have G := Lib.hid (show RetW (.agg #[.int .i64 ve, .int .i64 vs]) w (.returned (.agg #[.int .i64 ve, .int .i64 vs])) ((w2.setCell ⟨w.heap.size + 1, 0, none⟩ (.int .i64 ve)).setCell ⟨w.heap.size + 1, 1, none⟩ (.int .i64 vs)) from ⟨rfl, Below.setCell (p := ⟨w.heap.size + 1, 1, none⟩) (Below.setCell (p := ⟨w.heap.size + 1, 0, none⟩) B2.out (Nat.le_succ _) (.int .i64 ve)) (Nat.le_succ _) (.int .i64 vs)⟩)
  go_wp2
  exact bodyPost_ret (v := .agg #[.int .i64 ve, .int .i64 vs]) (by simp [results, Tryz.results48, go_sem, *]) rfl G.out
end Go.Proofs.YtbckdfoapmjilaaGreatDoor.Rd
