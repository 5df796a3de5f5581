/-
  Valid states, and their last version, in the model (written by tools/gen/sto.py).
-/
import Derived.Test.YtbckdfoapmjilaaGreatDoorStM
import Derived.Test.YtbckdfoapmjilaaGreatDoorStL
import Derived.Test.YtbckdfoapmjilaaGreatDoorStX
import Derived.Test.YtbckdfoapmjilaaGreatDoorStY
import Derived.Test.YtbckdfoapmjilaaGreatDoorStZ
import Derived.Test.YtbckdfoapmjilaaGreatDoorStW
import Derived.Deep.DeepCutAuto
import Derived.Deep.RegionHeld3
namespace Go.Proofs.YtbckdfoapmjilaaGreatDoor.Rd
open Go.RowKit Go.ChangeShapes Go.WideShapes Go.Proofs.YtbckdfoapmjilaaGreatDoor.GfI Go.Proofs.YtbckdfoapmjilaaGreatDoor.GfS
open Go.Proofs.YtbckdfoapmjilaaGreatDoor.Sg (BxN)
set_option linter.unusedVariables false
set_option linter.unusedSimpArgs false

set_option maxRecDepth 100000 in
set_option maxHeartbeats 4000000 in
theorem specStateOk (d : DPgState) {a6 a7 a8 a11 : Option Addr} {c6 c7 c8 c11 : Nat} (w : World) (l6 : d.base.length ≤ 2097152) (l7 : d.clients.length ≤ 2097152) (l8 : d.log.length ≤ 2097152) (l11 : d.chunks.length ≤ 2097152) (g6 : d.base.length ≤ c6) (g8 : d.log.length ≤ c8) {fr : Bool} {lo : Nat} (r6 : Rows fr lo w a6 d.base) (r7 : Rows fr lo w a7 d.clients) (r8 : Rows fr lo w a8 d.log) (r11 : Rows fr lo w a11 d.chunks) : Calls Tryz.prog 8 #[.agg #[.int .i64 d.pg.pool, .int .i64 d.pg.no, .int .i64 d.seen, .int .i64 d.started, .int .i64 d.tail.epoch, .int .i64 d.tail.seq, .slice a6 d.base.length c6, .slice a7 d.clients.length c7, .slice a8 d.log.length c8, .int .i64 d.firm.epoch, .int .i64 d.firm.seq, .slice a11 d.chunks.length c11]] w (IffB (StP d) w) := by
  have LY := Lib.hid (lay w (.cells #[.int .i64 d.pg.pool, .int .i64 d.pg.no, .int .i64 d.seen, .int .i64 d.started, .int .i64 d.tail.epoch, .int .i64 d.tail.seq, .slice a6 d.base.length c6, .slice a7 d.clients.length c7, .slice a8 d.log.length c8, .int .i64 d.firm.epoch, .int .i64 d.firm.seq, .slice a11 d.chunks.length c11] 41))
  have X0 := BxN.new w #[.int .i64 d.pg.pool, .int .i64 d.pg.no, .int .i64 d.seen, .int .i64 d.started, .int .i64 d.tail.epoch, .int .i64 d.tail.seq, .slice a6 d.base.length c6, .slice a7 d.clients.length c7, .slice a8 d.log.length c8, .int .i64 d.firm.epoch, .int .i64 d.firm.seq, .slice a11 d.chunks.length c11] 41
  have XH := Lib.hid X0
  have BH := Lib.hid (Below.refl (w.alloc (.cells #[.int .i64 d.pg.pool, .int .i64 d.pg.no, .int .i64 d.seen, .int .i64 d.started, .int .i64 d.tail.epoch, .int .i64 d.tail.seq, .slice a6 d.base.length c6, .slice a7 d.clients.length c7, .slice a8 d.log.length c8, .int .i64 d.firm.epoch, .int .i64 d.firm.seq, .slice a11 d.chunks.length c11] 41)).heap.size (w.alloc (.cells #[.int .i64 d.pg.pool, .int .i64 d.pg.no, .int .i64 d.seen, .int .i64 d.started, .int .i64 d.tail.epoch, .int .i64 d.tail.seq, .slice a6 d.base.length c6, .slice a7 d.clients.length c7, .slice a8 d.log.length c8, .int .i64 d.firm.epoch, .int .i64 d.firm.seq, .slice a11 d.chunks.length c11] 41)))
  clear X0
  obtain ⟨pH, eH⟩ := bool_of (SeqP 16 hLt (headB d.tail) d.base)
  obtain ⟨pK, eK⟩ := bool_of (SeqP 6 lLt (lastB d.tail) d.clients)
  obtain ⟨pG, eG⟩ := bool_of (LogP d.tail d.base d.log)
  obtain ⟨pC, eC⟩ := bool_of (SeqP 160 cLt chunkB d.chunks)
  have CP := Lib.hid (fun w' (b : Below ((w.alloc (.cells #[.int .i64 d.pg.pool, .int .i64 d.pg.no, .int .i64 d.seen, .int .i64 d.started, .int .i64 d.tail.epoch, .int .i64 d.tail.seq, .slice a6 d.base.length c6, .slice a7 d.clients.length c7, .slice a8 d.log.length c8, .int .i64 d.firm.epoch, .int .i64 d.firm.seq, .slice a11 d.chunks.length c11] 41))).heap.size ((w.alloc (.cells #[.int .i64 d.pg.pool, .int .i64 d.pg.no, .int .i64 d.seen, .int .i64 d.started, .int .i64 d.tail.epoch, .int .i64 d.tail.seq, .slice a6 d.base.length c6, .slice a7 d.clients.length c7, .slice a8 d.log.length c8, .int .i64 d.firm.epoch, .int .i64 d.firm.seq, .slice a11 d.chunks.length c11] 41))) w') => specPg d.pg.pool d.pg.no w')
  have CS := Lib.hid (fun w' (b : Below ((w.alloc (.cells #[.int .i64 d.pg.pool, .int .i64 d.pg.no, .int .i64 d.seen, .int .i64 d.started, .int .i64 d.tail.epoch, .int .i64 d.tail.seq, .slice a6 d.base.length c6, .slice a7 d.clients.length c7, .slice a8 d.log.length c8, .int .i64 d.firm.epoch, .int .i64 d.firm.seq, .slice a11 d.chunks.length c11] 41))).heap.size ((w.alloc (.cells #[.int .i64 d.pg.pool, .int .i64 d.pg.no, .int .i64 d.seen, .int .i64 d.started, .int .i64 d.tail.epoch, .int .i64 d.tail.seq, .slice a6 d.base.length c6, .slice a7 d.clients.length c7, .slice a8 d.log.length c8, .int .i64 d.firm.epoch, .int .i64 d.firm.seq, .slice a11 d.chunks.length c11] 41))) w') => same_ret (l00In d.seen 0 60 w'))
  have CB := Lib.hid (fun w' (b : Below ((w.alloc (.cells #[.int .i64 d.pg.pool, .int .i64 d.pg.no, .int .i64 d.seen, .int .i64 d.started, .int .i64 d.tail.epoch, .int .i64 d.tail.seq, .slice a6 d.base.length c6, .slice a7 d.clients.length c7, .slice a8 d.log.length c8, .int .i64 d.firm.epoch, .int .i64 d.firm.seq, .slice a11 d.chunks.length c11] 41))).heap.size ((w.alloc (.cells #[.int .i64 d.pg.pool, .int .i64 d.pg.no, .int .i64 d.seen, .int .i64 d.started, .int .i64 d.tail.epoch, .int .i64 d.tail.seq, .slice a6 d.base.length c6, .slice a7 d.clients.length c7, .slice a8 d.log.length c8, .int .i64 d.firm.epoch, .int .i64 d.firm.seq, .slice a11 d.chunks.length c11] 41))) w') => same_ret (l00In d.started 0 d.seen w'))
  have CT := Lib.hid (fun w' (b : Below ((w.alloc (.cells #[.int .i64 d.pg.pool, .int .i64 d.pg.no, .int .i64 d.seen, .int .i64 d.started, .int .i64 d.tail.epoch, .int .i64 d.tail.seq, .slice a6 d.base.length c6, .slice a7 d.clients.length c7, .slice a8 d.log.length c8, .int .i64 d.firm.epoch, .int .i64 d.firm.seq, .slice a11 d.chunks.length c11] 41))).heap.size ((w.alloc (.cells #[.int .i64 d.pg.pool, .int .i64 d.pg.no, .int .i64 d.seen, .int .i64 d.started, .int .i64 d.tail.epoch, .int .i64 d.tail.seq, .slice a6 d.base.length c6, .slice a7 d.clients.length c7, .slice a8 d.log.length c8, .int .i64 d.firm.epoch, .int .i64 d.firm.seq, .slice a11 d.chunks.length c11] 41))) w') => specVerOk d.tail w')
  have CF := Lib.hid (fun w' (b : Below ((w.alloc (.cells #[.int .i64 d.pg.pool, .int .i64 d.pg.no, .int .i64 d.seen, .int .i64 d.started, .int .i64 d.tail.epoch, .int .i64 d.tail.seq, .slice a6 d.base.length c6, .slice a7 d.clients.length c7, .slice a8 d.log.length c8, .int .i64 d.firm.epoch, .int .i64 d.firm.seq, .slice a11 d.chunks.length c11] 41))).heap.size ((w.alloc (.cells #[.int .i64 d.pg.pool, .int .i64 d.pg.no, .int .i64 d.seen, .int .i64 d.started, .int .i64 d.tail.epoch, .int .i64 d.tail.seq, .slice a6 d.base.length c6, .slice a7 d.clients.length c7, .slice a8 d.log.length c8, .int .i64 d.firm.epoch, .int .i64 d.firm.seq, .slice a11 d.chunks.length c11] 41))) w') => specVerOk d.firm w')
  have CH := Lib.hid (fun w' (b : Below ((w.alloc (.cells #[.int .i64 d.pg.pool, .int .i64 d.pg.no, .int .i64 d.seen, .int .i64 d.started, .int .i64 d.tail.epoch, .int .i64 d.tail.seq, .slice a6 d.base.length c6, .slice a7 d.clients.length c7, .slice a8 d.log.length c8, .int .i64 d.firm.epoch, .int .i64 d.firm.seq, .slice a11 d.chunks.length c11] 41))).heap.size ((w.alloc (.cells #[.int .i64 d.pg.pool, .int .i64 d.pg.no, .int .i64 d.seen, .int .i64 d.started, .int .i64 d.tail.epoch, .int .i64 d.tail.seq, .slice a6 d.base.length c6, .slice a7 d.clients.length c7, .slice a8 d.log.length c8, .int .i64 d.firm.epoch, .int .i64 d.firm.seq, .slice a11 d.chunks.length c11] 41))) w') => (specHeads a6 c6 d.base d.tail w' l6 ((r6.below LY.out).below b)).mono (fun _ _ q => iff_ret eH q))
  have CK := Lib.hid (fun w' (b : Below ((w.alloc (.cells #[.int .i64 d.pg.pool, .int .i64 d.pg.no, .int .i64 d.seen, .int .i64 d.started, .int .i64 d.tail.epoch, .int .i64 d.tail.seq, .slice a6 d.base.length c6, .slice a7 d.clients.length c7, .slice a8 d.log.length c8, .int .i64 d.firm.epoch, .int .i64 d.firm.seq, .slice a11 d.chunks.length c11] 41))).heap.size ((w.alloc (.cells #[.int .i64 d.pg.pool, .int .i64 d.pg.no, .int .i64 d.seen, .int .i64 d.started, .int .i64 d.tail.epoch, .int .i64 d.tail.seq, .slice a6 d.base.length c6, .slice a7 d.clients.length c7, .slice a8 d.log.length c8, .int .i64 d.firm.epoch, .int .i64 d.firm.seq, .slice a11 d.chunks.length c11] 41))) w') => (specLasts a7 c7 d.clients d.tail w' l7 ((r7.below LY.out).below b)).mono (fun _ _ q => iff_ret eK q))
  have CLa := Lib.hid (fun w' (b : Below ((w.alloc (.cells #[.int .i64 d.pg.pool, .int .i64 d.pg.no, .int .i64 d.seen, .int .i64 d.started, .int .i64 d.tail.epoch, .int .i64 d.tail.seq, .slice a6 d.base.length c6, .slice a7 d.clients.length c7, .slice a8 d.log.length c8, .int .i64 d.firm.epoch, .int .i64 d.firm.seq, .slice a11 d.chunks.length c11] 41))).heap.size ((w.alloc (.cells #[.int .i64 d.pg.pool, .int .i64 d.pg.no, .int .i64 d.seen, .int .i64 d.started, .int .i64 d.tail.epoch, .int .i64 d.tail.seq, .slice a6 d.base.length c6, .slice a7 d.clients.length c7, .slice a8 d.log.length c8, .int .i64 d.firm.epoch, .int .i64 d.firm.seq, .slice a11 d.chunks.length c11] 41))) w') => specLast d (a6 := a6) (a7 := a7) (a8 := a8) (a11 := a11) (c6 := c6) (c7 := c7) (c8 := c8) (c11 := c11) w' l8 ((r8.below LY.out).below b))
  have CVL := Lib.hid (fun w' (b : Below ((w.alloc (.cells #[.int .i64 d.pg.pool, .int .i64 d.pg.no, .int .i64 d.seen, .int .i64 d.started, .int .i64 d.tail.epoch, .int .i64 d.tail.seq, .slice a6 d.base.length c6, .slice a7 d.clients.length c7, .slice a8 d.log.length c8, .int .i64 d.firm.epoch, .int .i64 d.firm.seq, .slice a11 d.chunks.length c11] 41))).heap.size ((w.alloc (.cells #[.int .i64 d.pg.pool, .int .i64 d.pg.no, .int .i64 d.seen, .int .i64 d.started, .int .i64 d.tail.epoch, .int .i64 d.tail.seq, .slice a6 d.base.length c6, .slice a7 d.clients.length c7, .slice a8 d.log.length c8, .int .i64 d.firm.epoch, .int .i64 d.firm.seq, .slice a11 d.chunks.length c11] 41))) w') => specVerLess (lastV d) d.firm w')
  have CC := Lib.hid (fun w' (b : Below ((w.alloc (.cells #[.int .i64 d.pg.pool, .int .i64 d.pg.no, .int .i64 d.seen, .int .i64 d.started, .int .i64 d.tail.epoch, .int .i64 d.tail.seq, .slice a6 d.base.length c6, .slice a7 d.clients.length c7, .slice a8 d.log.length c8, .int .i64 d.firm.epoch, .int .i64 d.firm.seq, .slice a11 d.chunks.length c11] 41))).heap.size ((w.alloc (.cells #[.int .i64 d.pg.pool, .int .i64 d.pg.no, .int .i64 d.seen, .int .i64 d.started, .int .i64 d.tail.epoch, .int .i64 d.tail.seq, .slice a6 d.base.length c6, .slice a7 d.clients.length c7, .slice a8 d.log.length c8, .int .i64 d.firm.epoch, .int .i64 d.firm.seq, .slice a11 d.chunks.length c11] 41))) w') => (specChunksB a11 c11 d.chunks w' l11 ((r11.below LY.out).below b)).mono (fun _ _ q => iff_ret (show pC = true ↔ SeqP 160 cLt chB d.chunks from eC) q))
  have CGG := Lib.hid (fun (h : d.base.length ≤ 1000) w' (b : Below (w.alloc (.cells #[.int .i64 d.pg.pool, .int .i64 d.pg.no, .int .i64 d.seen, .int .i64 d.started, .int .i64 d.tail.epoch, .int .i64 d.tail.seq, .slice a6 d.base.length c6, .slice a7 d.clients.length c7, .slice a8 d.log.length c8, .int .i64 d.firm.epoch, .int .i64 d.firm.seq, .slice a11 d.chunks.length c11] 41)).heap.size (w.alloc (.cells #[.int .i64 d.pg.pool, .int .i64 d.pg.no, .int .i64 d.seen, .int .i64 d.started, .int .i64 d.tail.epoch, .int .i64 d.tail.seq, .slice a6 d.base.length c6, .slice a7 d.clients.length c7, .slice a8 d.log.length c8, .int .i64 d.firm.epoch, .int .i64 d.firm.seq, .slice a11 d.chunks.length c11] 41)) w') => (specLog d (a6 := a6) (a7 := a7) (a8 := a8) (a11 := a11) (c6 := c6) (c7 := c7) (c8 := c8) (c11 := c11) w' h g6 l8 ((r6.below LY.out).below b) ((r8.below LY.out).below b)).mono (fun _ _ q => iff_ret eG q))
  have EV : (pgB d.pg.pool d.pg.no && (inB d.seen 0 60 && (inB d.started 0 d.seen && (verB d.tail && (verB d.firm && (pH && (pK && (pG && (!verL (lastV d) d.firm && pC))))))))) = true ↔ StP d := by
    unfold StP TailP pgB
    rw [← eH, ← eK, ← eG, ← eC]
    cases verL (lastV d) d.firm <;> cases verB d.firm <;> simp only [Bool.and_eq_true, and_assoc, Bool.not_false, Bool.not_true, true_and, false_and, and_false, Bool.false_eq_true, Bool.true_eq_false]
  refine Calls.mono ?_ (fun e w' q => iff_of EV q)
  have EHH := Lib.hid (show pH = true → d.base.length ≤ 1000 from fun h => by have := (eH.1 h).1; omega)
  clear EV eH eK eG eC r6 r7 r8 r11
  obtain ⟨v, hv⟩ : ∃ v, (pgB d.pg.pool d.pg.no && (inB d.seen 0 60 && (inB d.started 0 d.seen && (verB d.tail && (verB d.firm && (pH && (pK && (pG && (!verL (lastV d) d.firm && pC))))))))) = v := ⟨_, rfl⟩
  rw [hv]
  generalize pgB d.pg.pool d.pg.no = bp at *
  generalize inB d.seen 0 60 = bs at *
  generalize inB d.started 0 d.seen = bt at *
  generalize verB d.tail = bT at *
  generalize verB d.firm = bf at *
  generalize verL (lastV d) d.firm = bl at *
  generalize (lastV d).epoch = le at *
  generalize (lastV d).seq = ls at *
  have X_0 := XH.out.cells 0 _ rfl
  have X_1 := XH.out.cells 1 _ rfl
  have X_2 := XH.out.cells 2 _ rfl
  have X_3 := XH.out.cells 3 _ rfl
  have X_4 := XH.out.cells 4 _ rfl
  have X_5 := XH.out.cells 5 _ rfl
  have X_6 := XH.out.cells 6 _ rfl
  have X_7 := XH.out.cells 7 _ rfl
  have X_8 := XH.out.cells 8 _ rfl
  have X_9 := XH.out.cells 9 _ rfl
  have X_10 := XH.out.cells 10 _ rfl
  have X_11 := XH.out.cells 11 _ rfl
  cases bp
  · simp only [Bool.false_and, Bool.and_false, Bool.true_and, Bool.and_true, Bool.false_or, Bool.or_false, Bool.true_or, Bool.or_true, Bool.not_true, Bool.not_false, if_true, if_false, Bool.false_eq_true, reduceIte] at hv
    subst hv
    go_enter Tryz.func8, Tryz.ntmps8
    go_wp2_with fail
    refine (CP.out _ BH.out).mono ?_
    rintro e w2 ⟨rfl, b2⟩
    have XH := Lib.hid (XH.out.later b2)
    have X_0 := XH.out.cells 0 _ rfl
    have X_1 := XH.out.cells 1 _ rfl
    have X_2 := XH.out.cells 2 _ rfl
    have X_3 := XH.out.cells 3 _ rfl
    have X_4 := XH.out.cells 4 _ rfl
    have X_5 := XH.out.cells 5 _ rfl
    have X_6 := XH.out.cells 6 _ rfl
    have X_7 := XH.out.cells 7 _ rfl
    have X_8 := XH.out.cells 8 _ rfl
    have X_9 := XH.out.cells 9 _ rfl
    have X_10 := XH.out.cells 10 _ rfl
    have X_11 := XH.out.cells 11 _ rfl
    have BH := Lib.hid (chainX _ BH.out b2)
    clear b2
    go_wp2
    go_ret
    exact ⟨rfl, chainX w LY.out BH.out⟩
  · skip
    cases bs
    · simp only [Bool.false_and, Bool.and_false, Bool.true_and, Bool.and_true, Bool.false_or, Bool.or_false, Bool.true_or, Bool.or_true, Bool.not_true, Bool.not_false, if_true, if_false, Bool.false_eq_true, reduceIte] at hv
      subst hv
      go_enter Tryz.func8, Tryz.ntmps8
      go_wp2_with fail
      refine (CP.out _ BH.out).mono ?_
      rintro e w2 ⟨rfl, b2⟩
      have XH := Lib.hid (XH.out.later b2)
      have X_0 := XH.out.cells 0 _ rfl
      have X_1 := XH.out.cells 1 _ rfl
      have X_2 := XH.out.cells 2 _ rfl
      have X_3 := XH.out.cells 3 _ rfl
      have X_4 := XH.out.cells 4 _ rfl
      have X_5 := XH.out.cells 5 _ rfl
      have X_6 := XH.out.cells 6 _ rfl
      have X_7 := XH.out.cells 7 _ rfl
      have X_8 := XH.out.cells 8 _ rfl
      have X_9 := XH.out.cells 9 _ rfl
      have X_10 := XH.out.cells 10 _ rfl
      have X_11 := XH.out.cells 11 _ rfl
      have BH := Lib.hid (chainX _ BH.out b2)
      clear b2
      go_wp2_with fail
      refine (CS.out _ BH.out).mono ?_
      rintro e w2 ⟨rfl, b2⟩
      have XH := Lib.hid (XH.out.later b2)
      have X_0 := XH.out.cells 0 _ rfl
      have X_1 := XH.out.cells 1 _ rfl
      have X_2 := XH.out.cells 2 _ rfl
      have X_3 := XH.out.cells 3 _ rfl
      have X_4 := XH.out.cells 4 _ rfl
      have X_5 := XH.out.cells 5 _ rfl
      have X_6 := XH.out.cells 6 _ rfl
      have X_7 := XH.out.cells 7 _ rfl
      have X_8 := XH.out.cells 8 _ rfl
      have X_9 := XH.out.cells 9 _ rfl
      have X_10 := XH.out.cells 10 _ rfl
      have X_11 := XH.out.cells 11 _ rfl
      have BH := Lib.hid (chainX _ BH.out b2)
      clear b2
      go_wp2
      go_ret
      exact ⟨rfl, chainX w LY.out BH.out⟩
    · skip
      cases bt
      · simp only [Bool.false_and, Bool.and_false, Bool.true_and, Bool.and_true, Bool.false_or, Bool.or_false, Bool.true_or, Bool.or_true, Bool.not_true, Bool.not_false, if_true, if_false, Bool.false_eq_true, reduceIte] at hv
        subst hv
        go_enter Tryz.func8, Tryz.ntmps8
        go_wp2_with fail
        refine (CP.out _ BH.out).mono ?_
        rintro e w2 ⟨rfl, b2⟩
        have XH := Lib.hid (XH.out.later b2)
        have X_0 := XH.out.cells 0 _ rfl
        have X_1 := XH.out.cells 1 _ rfl
        have X_2 := XH.out.cells 2 _ rfl
        have X_3 := XH.out.cells 3 _ rfl
        have X_4 := XH.out.cells 4 _ rfl
        have X_5 := XH.out.cells 5 _ rfl
        have X_6 := XH.out.cells 6 _ rfl
        have X_7 := XH.out.cells 7 _ rfl
        have X_8 := XH.out.cells 8 _ rfl
        have X_9 := XH.out.cells 9 _ rfl
        have X_10 := XH.out.cells 10 _ rfl
        have X_11 := XH.out.cells 11 _ rfl
        have BH := Lib.hid (chainX _ BH.out b2)
        clear b2
        go_wp2_with fail
        refine (CS.out _ BH.out).mono ?_
        rintro e w2 ⟨rfl, b2⟩
        have XH := Lib.hid (XH.out.later b2)
        have X_0 := XH.out.cells 0 _ rfl
        have X_1 := XH.out.cells 1 _ rfl
        have X_2 := XH.out.cells 2 _ rfl
        have X_3 := XH.out.cells 3 _ rfl
        have X_4 := XH.out.cells 4 _ rfl
        have X_5 := XH.out.cells 5 _ rfl
        have X_6 := XH.out.cells 6 _ rfl
        have X_7 := XH.out.cells 7 _ rfl
        have X_8 := XH.out.cells 8 _ rfl
        have X_9 := XH.out.cells 9 _ rfl
        have X_10 := XH.out.cells 10 _ rfl
        have X_11 := XH.out.cells 11 _ rfl
        have BH := Lib.hid (chainX _ BH.out b2)
        clear b2
        go_wp2_with fail
        refine (CB.out _ BH.out).mono ?_
        rintro e w2 ⟨rfl, b2⟩
        have XH := Lib.hid (XH.out.later b2)
        have X_0 := XH.out.cells 0 _ rfl
        have X_1 := XH.out.cells 1 _ rfl
        have X_2 := XH.out.cells 2 _ rfl
        have X_3 := XH.out.cells 3 _ rfl
        have X_4 := XH.out.cells 4 _ rfl
        have X_5 := XH.out.cells 5 _ rfl
        have X_6 := XH.out.cells 6 _ rfl
        have X_7 := XH.out.cells 7 _ rfl
        have X_8 := XH.out.cells 8 _ rfl
        have X_9 := XH.out.cells 9 _ rfl
        have X_10 := XH.out.cells 10 _ rfl
        have X_11 := XH.out.cells 11 _ rfl
        have BH := Lib.hid (chainX _ BH.out b2)
        clear b2
        go_wp2
        go_ret
        exact ⟨rfl, chainX w LY.out BH.out⟩
      · skip
        cases bT
        · simp only [Bool.false_and, Bool.and_false, Bool.true_and, Bool.and_true, Bool.false_or, Bool.or_false, Bool.true_or, Bool.or_true, Bool.not_true, Bool.not_false, if_true, if_false, Bool.false_eq_true, reduceIte] at hv
          subst hv
          go_enter Tryz.func8, Tryz.ntmps8
          go_wp2_with fail
          refine (CP.out _ BH.out).mono ?_
          rintro e w2 ⟨rfl, b2⟩
          have XH := Lib.hid (XH.out.later b2)
          have X_0 := XH.out.cells 0 _ rfl
          have X_1 := XH.out.cells 1 _ rfl
          have X_2 := XH.out.cells 2 _ rfl
          have X_3 := XH.out.cells 3 _ rfl
          have X_4 := XH.out.cells 4 _ rfl
          have X_5 := XH.out.cells 5 _ rfl
          have X_6 := XH.out.cells 6 _ rfl
          have X_7 := XH.out.cells 7 _ rfl
          have X_8 := XH.out.cells 8 _ rfl
          have X_9 := XH.out.cells 9 _ rfl
          have X_10 := XH.out.cells 10 _ rfl
          have X_11 := XH.out.cells 11 _ rfl
          have BH := Lib.hid (chainX _ BH.out b2)
          clear b2
          go_wp2_with fail
          refine (CS.out _ BH.out).mono ?_
          rintro e w2 ⟨rfl, b2⟩
          have XH := Lib.hid (XH.out.later b2)
          have X_0 := XH.out.cells 0 _ rfl
          have X_1 := XH.out.cells 1 _ rfl
          have X_2 := XH.out.cells 2 _ rfl
          have X_3 := XH.out.cells 3 _ rfl
          have X_4 := XH.out.cells 4 _ rfl
          have X_5 := XH.out.cells 5 _ rfl
          have X_6 := XH.out.cells 6 _ rfl
          have X_7 := XH.out.cells 7 _ rfl
          have X_8 := XH.out.cells 8 _ rfl
          have X_9 := XH.out.cells 9 _ rfl
          have X_10 := XH.out.cells 10 _ rfl
          have X_11 := XH.out.cells 11 _ rfl
          have BH := Lib.hid (chainX _ BH.out b2)
          clear b2
          go_wp2_with fail
          refine (CB.out _ BH.out).mono ?_
          rintro e w2 ⟨rfl, b2⟩
          have XH := Lib.hid (XH.out.later b2)
          have X_0 := XH.out.cells 0 _ rfl
          have X_1 := XH.out.cells 1 _ rfl
          have X_2 := XH.out.cells 2 _ rfl
          have X_3 := XH.out.cells 3 _ rfl
          have X_4 := XH.out.cells 4 _ rfl
          have X_5 := XH.out.cells 5 _ rfl
          have X_6 := XH.out.cells 6 _ rfl
          have X_7 := XH.out.cells 7 _ rfl
          have X_8 := XH.out.cells 8 _ rfl
          have X_9 := XH.out.cells 9 _ rfl
          have X_10 := XH.out.cells 10 _ rfl
          have X_11 := XH.out.cells 11 _ rfl
          have BH := Lib.hid (chainX _ BH.out b2)
          clear b2
          go_wp2_with fail
          refine (CT.out _ BH.out).mono ?_
          rintro e w2 ⟨rfl, b2⟩
          have XH := Lib.hid (XH.out.later b2)
          have X_0 := XH.out.cells 0 _ rfl
          have X_1 := XH.out.cells 1 _ rfl
          have X_2 := XH.out.cells 2 _ rfl
          have X_3 := XH.out.cells 3 _ rfl
          have X_4 := XH.out.cells 4 _ rfl
          have X_5 := XH.out.cells 5 _ rfl
          have X_6 := XH.out.cells 6 _ rfl
          have X_7 := XH.out.cells 7 _ rfl
          have X_8 := XH.out.cells 8 _ rfl
          have X_9 := XH.out.cells 9 _ rfl
          have X_10 := XH.out.cells 10 _ rfl
          have X_11 := XH.out.cells 11 _ rfl
          have BH := Lib.hid (chainX _ BH.out b2)
          clear b2
          go_wp2
          go_ret
          exact ⟨rfl, chainX w LY.out BH.out⟩
        · skip
          cases bf
          · simp only [Bool.false_and, Bool.and_false, Bool.true_and, Bool.and_true, Bool.false_or, Bool.or_false, Bool.true_or, Bool.or_true, Bool.not_true, Bool.not_false, if_true, if_false, Bool.false_eq_true, reduceIte] at hv
            subst hv
            go_enter Tryz.func8, Tryz.ntmps8
            go_wp2_with fail
            refine (CP.out _ BH.out).mono ?_
            rintro e w2 ⟨rfl, b2⟩
            have XH := Lib.hid (XH.out.later b2)
            have X_0 := XH.out.cells 0 _ rfl
            have X_1 := XH.out.cells 1 _ rfl
            have X_2 := XH.out.cells 2 _ rfl
            have X_3 := XH.out.cells 3 _ rfl
            have X_4 := XH.out.cells 4 _ rfl
            have X_5 := XH.out.cells 5 _ rfl
            have X_6 := XH.out.cells 6 _ rfl
            have X_7 := XH.out.cells 7 _ rfl
            have X_8 := XH.out.cells 8 _ rfl
            have X_9 := XH.out.cells 9 _ rfl
            have X_10 := XH.out.cells 10 _ rfl
            have X_11 := XH.out.cells 11 _ rfl
            have BH := Lib.hid (chainX _ BH.out b2)
            clear b2
            go_wp2_with fail
            refine (CS.out _ BH.out).mono ?_
            rintro e w2 ⟨rfl, b2⟩
            have XH := Lib.hid (XH.out.later b2)
            have X_0 := XH.out.cells 0 _ rfl
            have X_1 := XH.out.cells 1 _ rfl
            have X_2 := XH.out.cells 2 _ rfl
            have X_3 := XH.out.cells 3 _ rfl
            have X_4 := XH.out.cells 4 _ rfl
            have X_5 := XH.out.cells 5 _ rfl
            have X_6 := XH.out.cells 6 _ rfl
            have X_7 := XH.out.cells 7 _ rfl
            have X_8 := XH.out.cells 8 _ rfl
            have X_9 := XH.out.cells 9 _ rfl
            have X_10 := XH.out.cells 10 _ rfl
            have X_11 := XH.out.cells 11 _ rfl
            have BH := Lib.hid (chainX _ BH.out b2)
            clear b2
            go_wp2_with fail
            refine (CB.out _ BH.out).mono ?_
            rintro e w2 ⟨rfl, b2⟩
            have XH := Lib.hid (XH.out.later b2)
            have X_0 := XH.out.cells 0 _ rfl
            have X_1 := XH.out.cells 1 _ rfl
            have X_2 := XH.out.cells 2 _ rfl
            have X_3 := XH.out.cells 3 _ rfl
            have X_4 := XH.out.cells 4 _ rfl
            have X_5 := XH.out.cells 5 _ rfl
            have X_6 := XH.out.cells 6 _ rfl
            have X_7 := XH.out.cells 7 _ rfl
            have X_8 := XH.out.cells 8 _ rfl
            have X_9 := XH.out.cells 9 _ rfl
            have X_10 := XH.out.cells 10 _ rfl
            have X_11 := XH.out.cells 11 _ rfl
            have BH := Lib.hid (chainX _ BH.out b2)
            clear b2
            go_wp2_with fail
            refine (CT.out _ BH.out).mono ?_
            rintro e w2 ⟨rfl, b2⟩
            have XH := Lib.hid (XH.out.later b2)
            have X_0 := XH.out.cells 0 _ rfl
            have X_1 := XH.out.cells 1 _ rfl
            have X_2 := XH.out.cells 2 _ rfl
            have X_3 := XH.out.cells 3 _ rfl
            have X_4 := XH.out.cells 4 _ rfl
            have X_5 := XH.out.cells 5 _ rfl
            have X_6 := XH.out.cells 6 _ rfl
            have X_7 := XH.out.cells 7 _ rfl
            have X_8 := XH.out.cells 8 _ rfl
            have X_9 := XH.out.cells 9 _ rfl
            have X_10 := XH.out.cells 10 _ rfl
            have X_11 := XH.out.cells 11 _ rfl
            have BH := Lib.hid (chainX _ BH.out b2)
            clear b2
            go_wp2_with fail
            refine (CF.out _ BH.out).mono ?_
            rintro e w2 ⟨rfl, b2⟩
            have XH := Lib.hid (XH.out.later b2)
            have X_0 := XH.out.cells 0 _ rfl
            have X_1 := XH.out.cells 1 _ rfl
            have X_2 := XH.out.cells 2 _ rfl
            have X_3 := XH.out.cells 3 _ rfl
            have X_4 := XH.out.cells 4 _ rfl
            have X_5 := XH.out.cells 5 _ rfl
            have X_6 := XH.out.cells 6 _ rfl
            have X_7 := XH.out.cells 7 _ rfl
            have X_8 := XH.out.cells 8 _ rfl
            have X_9 := XH.out.cells 9 _ rfl
            have X_10 := XH.out.cells 10 _ rfl
            have X_11 := XH.out.cells 11 _ rfl
            have BH := Lib.hid (chainX _ BH.out b2)
            clear b2
            go_wp2
            go_ret
            exact ⟨rfl, chainX w LY.out BH.out⟩
          · skip
            cases pH
            · skip
              simp only [Bool.false_and, Bool.and_false, Bool.true_and, Bool.and_true, Bool.false_or, Bool.or_false, Bool.true_or, Bool.or_true, Bool.not_true, Bool.not_false, if_true, if_false, Bool.false_eq_true, reduceIte] at hv
              subst hv
              go_enter Tryz.func8, Tryz.ntmps8
              go_wp2_with fail
              refine (CP.out _ BH.out).mono ?_
              rintro e w2 ⟨rfl, b2⟩
              have XH := Lib.hid (XH.out.later b2)
              obtain ⟨X_0, X_1, X_2, X_3, X_4, X_5, X_6, X_7, X_8, X_9, X_10, X_11⟩ := c12 XH.out
              have BH := Lib.hid (chainX _ BH.out b2)
              clear b2
              go_wp2_with fail
              refine (CS.out _ BH.out).mono ?_
              rintro e w2 ⟨rfl, b2⟩
              have XH := Lib.hid (XH.out.later b2)
              obtain ⟨X_0, X_1, X_2, X_3, X_4, X_5, X_6, X_7, X_8, X_9, X_10, X_11⟩ := c12 XH.out
              have BH := Lib.hid (chainX _ BH.out b2)
              clear b2
              go_wp2_with fail
              refine (CB.out _ BH.out).mono ?_
              rintro e w2 ⟨rfl, b2⟩
              have XH := Lib.hid (XH.out.later b2)
              obtain ⟨X_0, X_1, X_2, X_3, X_4, X_5, X_6, X_7, X_8, X_9, X_10, X_11⟩ := c12 XH.out
              have BH := Lib.hid (chainX _ BH.out b2)
              clear b2
              go_wp2_with fail
              refine (CT.out _ BH.out).mono ?_
              rintro e w2 ⟨rfl, b2⟩
              have XH := Lib.hid (XH.out.later b2)
              obtain ⟨X_0, X_1, X_2, X_3, X_4, X_5, X_6, X_7, X_8, X_9, X_10, X_11⟩ := c12 XH.out
              have BH := Lib.hid (chainX _ BH.out b2)
              clear b2
              go_wp2_with fail
              refine (CF.out _ BH.out).mono ?_
              rintro e w2 ⟨rfl, b2⟩
              have XH := Lib.hid (XH.out.later b2)
              obtain ⟨X_0, X_1, X_2, X_3, X_4, X_5, X_6, X_7, X_8, X_9, X_10, X_11⟩ := c12 XH.out
              have BH := Lib.hid (chainX _ BH.out b2)
              clear b2
              go_wp2
              refine wp_region_noPanic ?_
              refine wp_region_held_drew (S := (fun w' => w'.cell? ⟨w.heap.size, 0, none⟩ = some (.int .i64 d.pg.pool) ∧ w'.cell? ⟨w.heap.size, 1, none⟩ = some (.int .i64 d.pg.no) ∧ w'.cell? ⟨w.heap.size, 2, none⟩ = some (.int .i64 d.seen) ∧ w'.cell? ⟨w.heap.size, 3, none⟩ = some (.int .i64 d.started) ∧ w'.cell? ⟨w.heap.size, 4, none⟩ = some (.int .i64 d.tail.epoch) ∧ w'.cell? ⟨w.heap.size, 5, none⟩ = some (.int .i64 d.tail.seq) ∧ w'.cell? ⟨w.heap.size, 6, none⟩ = some (.slice a6 d.base.length c6) ∧ w'.cell? ⟨w.heap.size, 7, none⟩ = some (.slice a7 d.clients.length c7) ∧ w'.cell? ⟨w.heap.size, 8, none⟩ = some (.slice a8 d.log.length c8) ∧ w'.cell? ⟨w.heap.size, 9, none⟩ = some (.int .i64 d.firm.epoch) ∧ w'.cell? ⟨w.heap.size, 10, none⟩ = some (.int .i64 d.firm.seq) ∧ w'.cell? ⟨w.heap.size, 11, none⟩ = some (.slice a11 d.chunks.length c11))) (by kernel_rfl) ?_ (fun hHeld => ?_)
              · go_keep
              refine tj 0 rfl ?_
              try simp only [Act.put, ya, yb, yc, yd, ye, yf]
              refine tj 1 rfl ?_
              try simp only [Act.put, ya, yb, yc, yd, ye, yf]
              refine tj 2 rfl ?_
              try simp only [Act.put, ya, yb, yc, yd, ye, yf]
              refine tj 3 rfl ?_
              try simp only [Act.put, ya, yb, yc, yd, ye, yf]
              refine wpAnyH_ready (rs := [4]) (by kernel_rfl) (by simp) ?_
              refine AllReadyH.cons rfl (fun K hK => ?_) AllReadyH.nil
              go_simp
              (go_at_call 31; refine (CH.out _ (by first | exact BH.out | exact BH.out.drew)).mono ?_; rintro e9 w9 ⟨rfl, b9⟩; (try replace b9 := undrewX b9); have XH := Lib.hid (XH.out.later b9); obtain ⟨X_0, X_1, X_2, X_3, X_4, X_5, X_6, X_7, X_8, X_9, X_10, X_11⟩ := c12 XH.out; have BH := Lib.hid (chainX _ BH.out b9); clear b9)
              (try go_wp2_with fail)
              refine hK.out _ _ ?_ (fun hHeld4 => ?_)
              · (try dsimp only); go_keep
              clear hK K
              try simp only [Act.put, ya, yb, yc, yd, ye, yf]
              refine tj 5 rfl ?_
              try simp only [Act.put, ya, yb, yc, yd, ye, yf]
              refine tk 6 (v := undef) rfl (Or.inr ⟨by kernel_rfl, rfl⟩) (by assumption) ?_
              try simp only [Act.put, ya, yb, yc, yd, ye, yf]
              refine tk 7 (v := undef) rfl (Or.inr ⟨by kernel_rfl, rfl⟩) (by assumption) ?_
              try simp only [Act.put, ya, yb, yc, yd, ye, yf]
              refine tk 8 (v := undef) rfl (Or.inr ⟨by kernel_rfl, rfl⟩) (by assumption) ?_
              try simp only [Act.put, ya, yb, yc, yd, ye, yf]
              refine tk 9 (v := undef) rfl (Or.inr ⟨by kernel_rfl, rfl⟩) (by assumption) ?_
              try simp only [Act.put, ya, yb, yc, yd, ye, yf]
              refine tk 10 (v := undef) rfl (Or.inr ⟨by kernel_rfl, rfl⟩) (by assumption) ?_
              try simp only [Act.put, ya, yb, yc, yd, ye, yf]
              refine tj 11 rfl ?_
              try simp only [Act.put, ya, yb, yc, yd, ye, yf]
              refine tj 12 rfl ?_
              try simp only [Act.put, ya, yb, yc, yd, ye, yf]
              refine tk 13 (v := undef) rfl (Or.inr ⟨by kernel_rfl, rfl⟩) (by assumption) ?_
              try simp only [Act.put, ya, yb, yc, yd, ye, yf]
              refine tk 14 (v := undef) rfl (Or.inr ⟨by kernel_rfl, rfl⟩) (by assumption) ?_
              try simp only [Act.put, ya, yb, yc, yd, ye, yf]
              refine tj 15 rfl ?_
              try simp only [Act.put, ya, yb, yc, yd, ye, yf]
              refine tj 16 rfl ?_
              try simp only [Act.put, ya, yb, yc, yd, ye, yf]
              refine tk 17 (v := undef) rfl (Or.inr ⟨by kernel_rfl, rfl⟩) (by assumption) ?_
              try simp only [Act.put, ya, yb, yc, yd, ye, yf]
              refine tk 19 (v := undef) rfl (Or.inr ⟨by kernel_rfl, rfl⟩) (by assumption) ?_
              try simp only [Act.put, ya, yb, yc, yd, ye, yf]
              refine tk 20 (v := undef) rfl (Or.inr ⟨by kernel_rfl, rfl⟩) (by assumption) ?_
              try simp only [Act.put, ya, yb, yc, yd, ye, yf]
              refine tk 18 (v := undef) rfl (Or.inr ⟨by kernel_rfl, rfl⟩) (by assumption) ?_
              try simp only [Act.put, ya, yb, yc, yd, ye, yf]
              refine tk 21 (v := undef) rfl (Or.inr ⟨by kernel_rfl, rfl⟩) (by assumption) ?_
              try simp only [Act.put, ya, yb, yc, yd, ye, yf]
              refine tk 22 (v := undef) rfl (Or.inr ⟨by kernel_rfl, rfl⟩) (by assumption) ?_
              try simp only [Act.put, ya, yb, yc, yd, ye, yf]
              refine tj 23 rfl ?_
              try simp only [Act.put, ya, yb, yc, yd, ye, yf]
              refine tj 24 rfl ?_
              try simp only [Act.put, ya, yb, yc, yd, ye, yf]
              refine tk 25 (v := undef) rfl (Or.inr ⟨by kernel_rfl, rfl⟩) (by assumption) ?_
              try simp only [Act.put, ya, yb, yc, yd, ye, yf]
              refine tk 26 (v := undef) rfl (Or.inr ⟨by kernel_rfl, rfl⟩) (by assumption) ?_
              try simp only [Act.put, ya, yb, yc, yd, ye, yf]
              refine tk 27 (v := undef) rfl (Or.inr ⟨by kernel_rfl, rfl⟩) (by assumption) ?_
              try simp only [Act.put, ya, yb, yc, yd, ye, yf]
              refine tj 28 rfl ?_
              try simp only [Act.put, ya, yb, yc, yd, ye, yf]
              refine tj 29 rfl ?_
              try simp only [Act.put, ya, yb, yc, yd, ye, yf]
              refine wpAnyH_done (by kernel_rfl) ?_ _
              refine NoPanic.normal ?_
              go_wp2
              go_ret
              exact ⟨rfl, chainX w LY.out BH.out⟩
            · skip
              have CG := Lib.hid (CGG.out (EHH.out rfl))
              clear CGG EHH
              cases pK
              · skip
                simp only [Bool.false_and, Bool.and_false, Bool.true_and, Bool.and_true, Bool.false_or, Bool.or_false, Bool.true_or, Bool.or_true, Bool.not_true, Bool.not_false, if_true, if_false, Bool.false_eq_true, reduceIte] at hv
                subst hv
                go_enter Tryz.func8, Tryz.ntmps8
                go_wp2_with fail
                refine (CP.out _ BH.out).mono ?_
                rintro e w2 ⟨rfl, b2⟩
                have XH := Lib.hid (XH.out.later b2)
                obtain ⟨X_0, X_1, X_2, X_3, X_4, X_5, X_6, X_7, X_8, X_9, X_10, X_11⟩ := c12 XH.out
                have BH := Lib.hid (chainX _ BH.out b2)
                clear b2
                go_wp2_with fail
                refine (CS.out _ BH.out).mono ?_
                rintro e w2 ⟨rfl, b2⟩
                have XH := Lib.hid (XH.out.later b2)
                obtain ⟨X_0, X_1, X_2, X_3, X_4, X_5, X_6, X_7, X_8, X_9, X_10, X_11⟩ := c12 XH.out
                have BH := Lib.hid (chainX _ BH.out b2)
                clear b2
                go_wp2_with fail
                refine (CB.out _ BH.out).mono ?_
                rintro e w2 ⟨rfl, b2⟩
                have XH := Lib.hid (XH.out.later b2)
                obtain ⟨X_0, X_1, X_2, X_3, X_4, X_5, X_6, X_7, X_8, X_9, X_10, X_11⟩ := c12 XH.out
                have BH := Lib.hid (chainX _ BH.out b2)
                clear b2
                go_wp2_with fail
                refine (CT.out _ BH.out).mono ?_
                rintro e w2 ⟨rfl, b2⟩
                have XH := Lib.hid (XH.out.later b2)
                obtain ⟨X_0, X_1, X_2, X_3, X_4, X_5, X_6, X_7, X_8, X_9, X_10, X_11⟩ := c12 XH.out
                have BH := Lib.hid (chainX _ BH.out b2)
                clear b2
                go_wp2_with fail
                refine (CF.out _ BH.out).mono ?_
                rintro e w2 ⟨rfl, b2⟩
                have XH := Lib.hid (XH.out.later b2)
                obtain ⟨X_0, X_1, X_2, X_3, X_4, X_5, X_6, X_7, X_8, X_9, X_10, X_11⟩ := c12 XH.out
                have BH := Lib.hid (chainX _ BH.out b2)
                clear b2
                go_wp2
                refine wp_region_noPanic ?_
                refine wp_region_held_drew (S := (fun w' => w'.cell? ⟨w.heap.size, 0, none⟩ = some (.int .i64 d.pg.pool) ∧ w'.cell? ⟨w.heap.size, 1, none⟩ = some (.int .i64 d.pg.no) ∧ w'.cell? ⟨w.heap.size, 2, none⟩ = some (.int .i64 d.seen) ∧ w'.cell? ⟨w.heap.size, 3, none⟩ = some (.int .i64 d.started) ∧ w'.cell? ⟨w.heap.size, 4, none⟩ = some (.int .i64 d.tail.epoch) ∧ w'.cell? ⟨w.heap.size, 5, none⟩ = some (.int .i64 d.tail.seq) ∧ w'.cell? ⟨w.heap.size, 6, none⟩ = some (.slice a6 d.base.length c6) ∧ w'.cell? ⟨w.heap.size, 7, none⟩ = some (.slice a7 d.clients.length c7) ∧ w'.cell? ⟨w.heap.size, 8, none⟩ = some (.slice a8 d.log.length c8) ∧ w'.cell? ⟨w.heap.size, 9, none⟩ = some (.int .i64 d.firm.epoch) ∧ w'.cell? ⟨w.heap.size, 10, none⟩ = some (.int .i64 d.firm.seq) ∧ w'.cell? ⟨w.heap.size, 11, none⟩ = some (.slice a11 d.chunks.length c11))) (by kernel_rfl) ?_ (fun hHeld => ?_)
                · go_keep
                refine tj 0 rfl ?_
                try simp only [Act.put, ya, yb, yc, yd, ye, yf]
                refine tj 1 rfl ?_
                try simp only [Act.put, ya, yb, yc, yd, ye, yf]
                refine tj 2 rfl ?_
                try simp only [Act.put, ya, yb, yc, yd, ye, yf]
                refine tj 3 rfl ?_
                try simp only [Act.put, ya, yb, yc, yd, ye, yf]
                refine wpAnyH_ready (rs := [4]) (by kernel_rfl) (by simp) ?_
                refine AllReadyH.cons rfl (fun K hK => ?_) AllReadyH.nil
                go_simp
                (go_at_call 31; refine (CH.out _ (by first | exact BH.out | exact BH.out.drew)).mono ?_; rintro e9 w9 ⟨rfl, b9⟩; (try replace b9 := undrewX b9); have XH := Lib.hid (XH.out.later b9); obtain ⟨X_0, X_1, X_2, X_3, X_4, X_5, X_6, X_7, X_8, X_9, X_10, X_11⟩ := c12 XH.out; have BH := Lib.hid (chainX _ BH.out b9); clear b9)
                (try go_wp2_with fail)
                refine hK.out _ _ ?_ (fun hHeld4 => ?_)
                · (try dsimp only); go_keep
                clear hK K
                try simp only [Act.put, ya, yb, yc, yd, ye, yf]
                refine tj 5 rfl ?_
                try simp only [Act.put, ya, yb, yc, yd, ye, yf]
                refine tj 6 rfl ?_
                try simp only [Act.put, ya, yb, yc, yd, ye, yf]
                refine tj 7 rfl ?_
                try simp only [Act.put, ya, yb, yc, yd, ye, yf]
                refine tj 8 rfl ?_
                try simp only [Act.put, ya, yb, yc, yd, ye, yf]
                refine tj 9 rfl ?_
                try simp only [Act.put, ya, yb, yc, yd, ye, yf]
                refine wpAnyH_ready (rs := [10]) (by kernel_rfl) (by simp) ?_
                refine AllReadyH.cons rfl (fun K hK => ?_) AllReadyH.nil
                go_simp
                (go_at_call 32; refine (CK.out _ (by first | exact BH.out | exact BH.out.drew)).mono ?_; rintro e9 w9 ⟨rfl, b9⟩; (try replace b9 := undrewX b9); have XH := Lib.hid (XH.out.later b9); obtain ⟨X_0, X_1, X_2, X_3, X_4, X_5, X_6, X_7, X_8, X_9, X_10, X_11⟩ := c12 XH.out; have BH := Lib.hid (chainX _ BH.out b9); clear b9)
                (try go_wp2_with fail)
                refine hK.out _ _ ?_ (fun hHeld10 => ?_)
                · (try dsimp only); go_keep
                clear hK K
                try simp only [Act.put, ya, yb, yc, yd, ye, yf]
                refine tj 11 rfl ?_
                try simp only [Act.put, ya, yb, yc, yd, ye, yf]
                refine tj 12 rfl ?_
                try simp only [Act.put, ya, yb, yc, yd, ye, yf]
                refine tk 13 (v := undef) rfl (Or.inr ⟨by kernel_rfl, rfl⟩) (by assumption) ?_
                try simp only [Act.put, ya, yb, yc, yd, ye, yf]
                refine tk 14 (v := undef) rfl (Or.inr ⟨by kernel_rfl, rfl⟩) (by assumption) ?_
                try simp only [Act.put, ya, yb, yc, yd, ye, yf]
                refine tj 15 rfl ?_
                try simp only [Act.put, ya, yb, yc, yd, ye, yf]
                refine tj 16 rfl ?_
                try simp only [Act.put, ya, yb, yc, yd, ye, yf]
                refine tk 17 (v := undef) rfl (Or.inr ⟨by kernel_rfl, rfl⟩) (by assumption) ?_
                try simp only [Act.put, ya, yb, yc, yd, ye, yf]
                refine tk 19 (v := undef) rfl (Or.inr ⟨by kernel_rfl, rfl⟩) (by assumption) ?_
                try simp only [Act.put, ya, yb, yc, yd, ye, yf]
                refine tk 20 (v := undef) rfl (Or.inr ⟨by kernel_rfl, rfl⟩) (by assumption) ?_
                try simp only [Act.put, ya, yb, yc, yd, ye, yf]
                refine tk 18 (v := undef) rfl (Or.inr ⟨by kernel_rfl, rfl⟩) (by assumption) ?_
                try simp only [Act.put, ya, yb, yc, yd, ye, yf]
                refine tk 21 (v := undef) rfl (Or.inr ⟨by kernel_rfl, rfl⟩) (by assumption) ?_
                try simp only [Act.put, ya, yb, yc, yd, ye, yf]
                refine tk 22 (v := undef) rfl (Or.inr ⟨by kernel_rfl, rfl⟩) (by assumption) ?_
                try simp only [Act.put, ya, yb, yc, yd, ye, yf]
                refine tj 23 rfl ?_
                try simp only [Act.put, ya, yb, yc, yd, ye, yf]
                refine tj 24 rfl ?_
                try simp only [Act.put, ya, yb, yc, yd, ye, yf]
                refine tk 25 (v := undef) rfl (Or.inr ⟨by kernel_rfl, rfl⟩) (by assumption) ?_
                try simp only [Act.put, ya, yb, yc, yd, ye, yf]
                refine tk 26 (v := undef) rfl (Or.inr ⟨by kernel_rfl, rfl⟩) (by assumption) ?_
                try simp only [Act.put, ya, yb, yc, yd, ye, yf]
                refine tk 27 (v := undef) rfl (Or.inr ⟨by kernel_rfl, rfl⟩) (by assumption) ?_
                try simp only [Act.put, ya, yb, yc, yd, ye, yf]
                refine tj 28 rfl ?_
                try simp only [Act.put, ya, yb, yc, yd, ye, yf]
                refine tj 29 rfl ?_
                try simp only [Act.put, ya, yb, yc, yd, ye, yf]
                refine wpAnyH_done (by kernel_rfl) ?_ _
                refine NoPanic.normal ?_
                go_wp2
                go_ret
                exact ⟨rfl, chainX w LY.out BH.out⟩
              · skip
                cases pG
                · skip
                  simp only [Bool.false_and, Bool.and_false, Bool.true_and, Bool.and_true, Bool.false_or, Bool.or_false, Bool.true_or, Bool.or_true, Bool.not_true, Bool.not_false, if_true, if_false, Bool.false_eq_true, reduceIte] at hv
                  subst hv
                  go_enter Tryz.func8, Tryz.ntmps8
                  go_wp2_with fail
                  refine (CP.out _ BH.out).mono ?_
                  rintro e w2 ⟨rfl, b2⟩
                  have XH := Lib.hid (XH.out.later b2)
                  obtain ⟨X_0, X_1, X_2, X_3, X_4, X_5, X_6, X_7, X_8, X_9, X_10, X_11⟩ := c12 XH.out
                  have BH := Lib.hid (chainX _ BH.out b2)
                  clear b2
                  go_wp2_with fail
                  refine (CS.out _ BH.out).mono ?_
                  rintro e w2 ⟨rfl, b2⟩
                  have XH := Lib.hid (XH.out.later b2)
                  obtain ⟨X_0, X_1, X_2, X_3, X_4, X_5, X_6, X_7, X_8, X_9, X_10, X_11⟩ := c12 XH.out
                  have BH := Lib.hid (chainX _ BH.out b2)
                  clear b2
                  go_wp2_with fail
                  refine (CB.out _ BH.out).mono ?_
                  rintro e w2 ⟨rfl, b2⟩
                  have XH := Lib.hid (XH.out.later b2)
                  obtain ⟨X_0, X_1, X_2, X_3, X_4, X_5, X_6, X_7, X_8, X_9, X_10, X_11⟩ := c12 XH.out
                  have BH := Lib.hid (chainX _ BH.out b2)
                  clear b2
                  go_wp2_with fail
                  refine (CT.out _ BH.out).mono ?_
                  rintro e w2 ⟨rfl, b2⟩
                  have XH := Lib.hid (XH.out.later b2)
                  obtain ⟨X_0, X_1, X_2, X_3, X_4, X_5, X_6, X_7, X_8, X_9, X_10, X_11⟩ := c12 XH.out
                  have BH := Lib.hid (chainX _ BH.out b2)
                  clear b2
                  go_wp2_with fail
                  refine (CF.out _ BH.out).mono ?_
                  rintro e w2 ⟨rfl, b2⟩
                  have XH := Lib.hid (XH.out.later b2)
                  obtain ⟨X_0, X_1, X_2, X_3, X_4, X_5, X_6, X_7, X_8, X_9, X_10, X_11⟩ := c12 XH.out
                  have BH := Lib.hid (chainX _ BH.out b2)
                  clear b2
                  go_wp2
                  refine wp_region_noPanic ?_
                  refine wp_region_held_drew (S := (fun w' => w'.cell? ⟨w.heap.size, 0, none⟩ = some (.int .i64 d.pg.pool) ∧ w'.cell? ⟨w.heap.size, 1, none⟩ = some (.int .i64 d.pg.no) ∧ w'.cell? ⟨w.heap.size, 2, none⟩ = some (.int .i64 d.seen) ∧ w'.cell? ⟨w.heap.size, 3, none⟩ = some (.int .i64 d.started) ∧ w'.cell? ⟨w.heap.size, 4, none⟩ = some (.int .i64 d.tail.epoch) ∧ w'.cell? ⟨w.heap.size, 5, none⟩ = some (.int .i64 d.tail.seq) ∧ w'.cell? ⟨w.heap.size, 6, none⟩ = some (.slice a6 d.base.length c6) ∧ w'.cell? ⟨w.heap.size, 7, none⟩ = some (.slice a7 d.clients.length c7) ∧ w'.cell? ⟨w.heap.size, 8, none⟩ = some (.slice a8 d.log.length c8) ∧ w'.cell? ⟨w.heap.size, 9, none⟩ = some (.int .i64 d.firm.epoch) ∧ w'.cell? ⟨w.heap.size, 10, none⟩ = some (.int .i64 d.firm.seq) ∧ w'.cell? ⟨w.heap.size, 11, none⟩ = some (.slice a11 d.chunks.length c11))) (by kernel_rfl) ?_ (fun hHeld => ?_)
                  · go_keep
                  refine tj 0 rfl ?_
                  try simp only [Act.put, ya, yb, yc, yd, ye, yf]
                  refine tj 1 rfl ?_
                  try simp only [Act.put, ya, yb, yc, yd, ye, yf]
                  refine tj 2 rfl ?_
                  try simp only [Act.put, ya, yb, yc, yd, ye, yf]
                  refine tj 3 rfl ?_
                  try simp only [Act.put, ya, yb, yc, yd, ye, yf]
                  refine wpAnyH_ready (rs := [4]) (by kernel_rfl) (by simp) ?_
                  refine AllReadyH.cons rfl (fun K hK => ?_) AllReadyH.nil
                  go_simp
                  (go_at_call 31; refine (CH.out _ (by first | exact BH.out | exact BH.out.drew)).mono ?_; rintro e9 w9 ⟨rfl, b9⟩; (try replace b9 := undrewX b9); have XH := Lib.hid (XH.out.later b9); obtain ⟨X_0, X_1, X_2, X_3, X_4, X_5, X_6, X_7, X_8, X_9, X_10, X_11⟩ := c12 XH.out; have BH := Lib.hid (chainX _ BH.out b9); clear b9)
                  (try go_wp2_with fail)
                  refine hK.out _ _ ?_ (fun hHeld4 => ?_)
                  · (try dsimp only); go_keep
                  clear hK K
                  try simp only [Act.put, ya, yb, yc, yd, ye, yf]
                  refine tj 5 rfl ?_
                  try simp only [Act.put, ya, yb, yc, yd, ye, yf]
                  refine tj 6 rfl ?_
                  try simp only [Act.put, ya, yb, yc, yd, ye, yf]
                  refine tj 7 rfl ?_
                  try simp only [Act.put, ya, yb, yc, yd, ye, yf]
                  refine tj 8 rfl ?_
                  try simp only [Act.put, ya, yb, yc, yd, ye, yf]
                  refine tj 9 rfl ?_
                  try simp only [Act.put, ya, yb, yc, yd, ye, yf]
                  refine wpAnyH_ready (rs := [10]) (by kernel_rfl) (by simp) ?_
                  refine AllReadyH.cons rfl (fun K hK => ?_) AllReadyH.nil
                  go_simp
                  (go_at_call 32; refine (CK.out _ (by first | exact BH.out | exact BH.out.drew)).mono ?_; rintro e9 w9 ⟨rfl, b9⟩; (try replace b9 := undrewX b9); have XH := Lib.hid (XH.out.later b9); obtain ⟨X_0, X_1, X_2, X_3, X_4, X_5, X_6, X_7, X_8, X_9, X_10, X_11⟩ := c12 XH.out; have BH := Lib.hid (chainX _ BH.out b9); clear b9)
                  (try go_wp2_with fail)
                  refine hK.out _ _ ?_ (fun hHeld10 => ?_)
                  · (try dsimp only); go_keep
                  clear hK K
                  try simp only [Act.put, ya, yb, yc, yd, ye, yf]
                  refine tj 11 rfl ?_
                  try simp only [Act.put, ya, yb, yc, yd, ye, yf]
                  refine tj 12 rfl ?_
                  try simp only [Act.put, ya, yb, yc, yd, ye, yf]
                  refine tj 13 rfl ?_
                  try simp only [Act.put, ya, yb, yc, yd, ye, yf]
                  refine wpAnyH_ready (rs := [14]) (by kernel_rfl) (by simp) ?_
                  refine AllReadyH.cons rfl (fun K hK => ?_) AllReadyH.nil
                  go_simp
                  (go_at_call 33; refine (CG.out _ (by first | exact BH.out | exact BH.out.drew)).mono ?_; rintro e9 w9 ⟨rfl, b9⟩; (try replace b9 := undrewX b9); have XH := Lib.hid (XH.out.later b9); obtain ⟨X_0, X_1, X_2, X_3, X_4, X_5, X_6, X_7, X_8, X_9, X_10, X_11⟩ := c12 XH.out; have BH := Lib.hid (chainX _ BH.out b9); clear b9)
                  (try go_wp2_with fail)
                  refine hK.out _ _ ?_ (fun hHeld14 => ?_)
                  · (try dsimp only); go_keep
                  clear hK K
                  try simp only [Act.put, ya, yb, yc, yd, ye, yf]
                  refine tj 15 rfl ?_
                  try simp only [Act.put, ya, yb, yc, yd, ye, yf]
                  refine tj 16 rfl ?_
                  try simp only [Act.put, ya, yb, yc, yd, ye, yf]
                  refine tk 17 (v := undef) rfl (Or.inr ⟨by kernel_rfl, rfl⟩) (by assumption) ?_
                  try simp only [Act.put, ya, yb, yc, yd, ye, yf]
                  refine tk 19 (v := undef) rfl (Or.inr ⟨by kernel_rfl, rfl⟩) (by assumption) ?_
                  try simp only [Act.put, ya, yb, yc, yd, ye, yf]
                  refine tk 20 (v := undef) rfl (Or.inr ⟨by kernel_rfl, rfl⟩) (by assumption) ?_
                  try simp only [Act.put, ya, yb, yc, yd, ye, yf]
                  refine tk 18 (v := undef) rfl (Or.inr ⟨by kernel_rfl, rfl⟩) (by assumption) ?_
                  try simp only [Act.put, ya, yb, yc, yd, ye, yf]
                  refine tk 21 (v := undef) rfl (Or.inr ⟨by kernel_rfl, rfl⟩) (by assumption) ?_
                  try simp only [Act.put, ya, yb, yc, yd, ye, yf]
                  refine tk 22 (v := undef) rfl (Or.inr ⟨by kernel_rfl, rfl⟩) (by assumption) ?_
                  try simp only [Act.put, ya, yb, yc, yd, ye, yf]
                  refine tj 23 rfl ?_
                  try simp only [Act.put, ya, yb, yc, yd, ye, yf]
                  refine tj 24 rfl ?_
                  try simp only [Act.put, ya, yb, yc, yd, ye, yf]
                  refine tk 25 (v := undef) rfl (Or.inr ⟨by kernel_rfl, rfl⟩) (by assumption) ?_
                  try simp only [Act.put, ya, yb, yc, yd, ye, yf]
                  refine tk 26 (v := undef) rfl (Or.inr ⟨by kernel_rfl, rfl⟩) (by assumption) ?_
                  try simp only [Act.put, ya, yb, yc, yd, ye, yf]
                  refine tk 27 (v := undef) rfl (Or.inr ⟨by kernel_rfl, rfl⟩) (by assumption) ?_
                  try simp only [Act.put, ya, yb, yc, yd, ye, yf]
                  refine tj 28 rfl ?_
                  try simp only [Act.put, ya, yb, yc, yd, ye, yf]
                  refine tj 29 rfl ?_
                  try simp only [Act.put, ya, yb, yc, yd, ye, yf]
                  refine wpAnyH_done (by kernel_rfl) ?_ _
                  refine NoPanic.normal ?_
                  go_wp2
                  go_ret
                  exact ⟨rfl, chainX w LY.out BH.out⟩
                · skip
                  cases bl
                  · skip
                    cases pC
                    · skip
                      simp only [Bool.false_and, Bool.and_false, Bool.true_and, Bool.and_true, Bool.false_or, Bool.or_false, Bool.true_or, Bool.or_true, Bool.not_true, Bool.not_false, if_true, if_false, Bool.false_eq_true, reduceIte] at hv
                      subst hv
                      go_enter Tryz.func8, Tryz.ntmps8
                      go_wp2_with fail
                      refine (CP.out _ BH.out).mono ?_
                      rintro e w2 ⟨rfl, b2⟩
                      have XH := Lib.hid (XH.out.later b2)
                      obtain ⟨X_0, X_1, X_2, X_3, X_4, X_5, X_6, X_7, X_8, X_9, X_10, X_11⟩ := c12 XH.out
                      have BH := Lib.hid (chainX _ BH.out b2)
                      clear b2
                      go_wp2_with fail
                      refine (CS.out _ BH.out).mono ?_
                      rintro e w2 ⟨rfl, b2⟩
                      have XH := Lib.hid (XH.out.later b2)
                      obtain ⟨X_0, X_1, X_2, X_3, X_4, X_5, X_6, X_7, X_8, X_9, X_10, X_11⟩ := c12 XH.out
                      have BH := Lib.hid (chainX _ BH.out b2)
                      clear b2
                      go_wp2_with fail
                      refine (CB.out _ BH.out).mono ?_
                      rintro e w2 ⟨rfl, b2⟩
                      have XH := Lib.hid (XH.out.later b2)
                      obtain ⟨X_0, X_1, X_2, X_3, X_4, X_5, X_6, X_7, X_8, X_9, X_10, X_11⟩ := c12 XH.out
                      have BH := Lib.hid (chainX _ BH.out b2)
                      clear b2
                      go_wp2_with fail
                      refine (CT.out _ BH.out).mono ?_
                      rintro e w2 ⟨rfl, b2⟩
                      have XH := Lib.hid (XH.out.later b2)
                      obtain ⟨X_0, X_1, X_2, X_3, X_4, X_5, X_6, X_7, X_8, X_9, X_10, X_11⟩ := c12 XH.out
                      have BH := Lib.hid (chainX _ BH.out b2)
                      clear b2
                      go_wp2_with fail
                      refine (CF.out _ BH.out).mono ?_
                      rintro e w2 ⟨rfl, b2⟩
                      have XH := Lib.hid (XH.out.later b2)
                      obtain ⟨X_0, X_1, X_2, X_3, X_4, X_5, X_6, X_7, X_8, X_9, X_10, X_11⟩ := c12 XH.out
                      have BH := Lib.hid (chainX _ BH.out b2)
                      clear b2
                      go_wp2
                      refine wp_region_noPanic ?_
                      refine wp_region_held_drew (S := (fun w' => w'.cell? ⟨w.heap.size, 0, none⟩ = some (.int .i64 d.pg.pool) ∧ w'.cell? ⟨w.heap.size, 1, none⟩ = some (.int .i64 d.pg.no) ∧ w'.cell? ⟨w.heap.size, 2, none⟩ = some (.int .i64 d.seen) ∧ w'.cell? ⟨w.heap.size, 3, none⟩ = some (.int .i64 d.started) ∧ w'.cell? ⟨w.heap.size, 4, none⟩ = some (.int .i64 d.tail.epoch) ∧ w'.cell? ⟨w.heap.size, 5, none⟩ = some (.int .i64 d.tail.seq) ∧ w'.cell? ⟨w.heap.size, 6, none⟩ = some (.slice a6 d.base.length c6) ∧ w'.cell? ⟨w.heap.size, 7, none⟩ = some (.slice a7 d.clients.length c7) ∧ w'.cell? ⟨w.heap.size, 8, none⟩ = some (.slice a8 d.log.length c8) ∧ w'.cell? ⟨w.heap.size, 9, none⟩ = some (.int .i64 d.firm.epoch) ∧ w'.cell? ⟨w.heap.size, 10, none⟩ = some (.int .i64 d.firm.seq) ∧ w'.cell? ⟨w.heap.size, 11, none⟩ = some (.slice a11 d.chunks.length c11))) (by kernel_rfl) ?_ (fun hHeld => ?_)
                      · go_keep
                      refine tj 0 rfl ?_
                      try simp only [Act.put, ya, yb, yc, yd, ye, yf]
                      refine tj 1 rfl ?_
                      try simp only [Act.put, ya, yb, yc, yd, ye, yf]
                      refine tj 2 rfl ?_
                      try simp only [Act.put, ya, yb, yc, yd, ye, yf]
                      refine tj 3 rfl ?_
                      try simp only [Act.put, ya, yb, yc, yd, ye, yf]
                      refine wpAnyH_ready (rs := [4]) (by kernel_rfl) (by simp) ?_
                      refine AllReadyH.cons rfl (fun K hK => ?_) AllReadyH.nil
                      go_simp
                      (go_at_call 31; refine (CH.out _ (by first | exact BH.out | exact BH.out.drew)).mono ?_; rintro e9 w9 ⟨rfl, b9⟩; (try replace b9 := undrewX b9); have XH := Lib.hid (XH.out.later b9); obtain ⟨X_0, X_1, X_2, X_3, X_4, X_5, X_6, X_7, X_8, X_9, X_10, X_11⟩ := c12 XH.out; have BH := Lib.hid (chainX _ BH.out b9); clear b9)
                      (try go_wp2_with fail)
                      refine hK.out _ _ ?_ (fun hHeld4 => ?_)
                      · (try dsimp only); go_keep
                      clear hK K
                      try simp only [Act.put, ya, yb, yc, yd, ye, yf]
                      refine tj 5 rfl ?_
                      try simp only [Act.put, ya, yb, yc, yd, ye, yf]
                      refine tj 6 rfl ?_
                      try simp only [Act.put, ya, yb, yc, yd, ye, yf]
                      refine tj 7 rfl ?_
                      try simp only [Act.put, ya, yb, yc, yd, ye, yf]
                      refine tj 8 rfl ?_
                      try simp only [Act.put, ya, yb, yc, yd, ye, yf]
                      refine tj 9 rfl ?_
                      try simp only [Act.put, ya, yb, yc, yd, ye, yf]
                      refine wpAnyH_ready (rs := [10]) (by kernel_rfl) (by simp) ?_
                      refine AllReadyH.cons rfl (fun K hK => ?_) AllReadyH.nil
                      go_simp
                      (go_at_call 32; refine (CK.out _ (by first | exact BH.out | exact BH.out.drew)).mono ?_; rintro e9 w9 ⟨rfl, b9⟩; (try replace b9 := undrewX b9); have XH := Lib.hid (XH.out.later b9); obtain ⟨X_0, X_1, X_2, X_3, X_4, X_5, X_6, X_7, X_8, X_9, X_10, X_11⟩ := c12 XH.out; have BH := Lib.hid (chainX _ BH.out b9); clear b9)
                      (try go_wp2_with fail)
                      refine hK.out _ _ ?_ (fun hHeld10 => ?_)
                      · (try dsimp only); go_keep
                      clear hK K
                      try simp only [Act.put, ya, yb, yc, yd, ye, yf]
                      refine tj 11 rfl ?_
                      try simp only [Act.put, ya, yb, yc, yd, ye, yf]
                      refine tj 12 rfl ?_
                      try simp only [Act.put, ya, yb, yc, yd, ye, yf]
                      refine tj 13 rfl ?_
                      try simp only [Act.put, ya, yb, yc, yd, ye, yf]
                      refine wpAnyH_ready (rs := [14]) (by kernel_rfl) (by simp) ?_
                      refine AllReadyH.cons rfl (fun K hK => ?_) AllReadyH.nil
                      go_simp
                      (go_at_call 33; refine (CG.out _ (by first | exact BH.out | exact BH.out.drew)).mono ?_; rintro e9 w9 ⟨rfl, b9⟩; (try replace b9 := undrewX b9); have XH := Lib.hid (XH.out.later b9); obtain ⟨X_0, X_1, X_2, X_3, X_4, X_5, X_6, X_7, X_8, X_9, X_10, X_11⟩ := c12 XH.out; have BH := Lib.hid (chainX _ BH.out b9); clear b9)
                      (try go_wp2_with fail)
                      refine hK.out _ _ ?_ (fun hHeld14 => ?_)
                      · (try dsimp only); go_keep
                      clear hK K
                      try simp only [Act.put, ya, yb, yc, yd, ye, yf]
                      refine tj 15 rfl ?_
                      try simp only [Act.put, ya, yb, yc, yd, ye, yf]
                      refine tj 16 rfl ?_
                      try simp only [Act.put, ya, yb, yc, yd, ye, yf]
                      refine tj 17 rfl ?_
                      try simp only [Act.put, ya, yb, yc, yd, ye, yf]
                      refine tj 19 rfl ?_
                      try simp only [Act.put, ya, yb, yc, yd, ye, yf]
                      refine tj 20 rfl ?_
                      try simp only [Act.put, ya, yb, yc, yd, ye, yf]
                      refine wpAnyH_ready (rs := [18]) (by kernel_rfl) (by simp) ?_
                      refine AllReadyH.cons rfl (fun K hK => ?_) AllReadyH.nil
                      go_simp
                      (go_at_call 35; refine (CLa.out _ (by first | exact BH.out | exact BH.out.drew)).mono ?_; rintro e9 w9 ⟨rfl, b9⟩; (try replace b9 := undrewX b9); have XH := Lib.hid (XH.out.later b9); obtain ⟨X_0, X_1, X_2, X_3, X_4, X_5, X_6, X_7, X_8, X_9, X_10, X_11⟩ := c12 XH.out; have BH := Lib.hid (chainX _ BH.out b9); clear b9)
                      (try go_wp2_with fail)
                      refine hK.out _ _ ?_ (fun hHeld18 => ?_)
                      · (try dsimp only); go_keep
                      clear hK K
                      try simp only [Act.put, ya, yb, yc, yd, ye, yf]
                      refine wpAnyH_ready (rs := [21]) (by kernel_rfl) (by simp) ?_
                      refine AllReadyH.cons rfl (fun K hK => ?_) AllReadyH.nil
                      go_simp
                      (go_at_call 34; refine (CVL.out _ (by first | exact BH.out | exact BH.out.drew)).mono ?_; rintro e9 w9 ⟨rfl, b9⟩; (try replace b9 := undrewX b9); have XH := Lib.hid (XH.out.later b9); obtain ⟨X_0, X_1, X_2, X_3, X_4, X_5, X_6, X_7, X_8, X_9, X_10, X_11⟩ := c12 XH.out; have BH := Lib.hid (chainX _ BH.out b9); clear b9)
                      (try go_wp2_with fail)
                      refine hK.out _ _ ?_ (fun hHeld21 => ?_)
                      · (try dsimp only); go_keep
                      clear hK K
                      try simp only [Act.put, ya, yb, yc, yd, ye, yf]
                      refine tj 22 rfl ?_
                      try simp only [Act.put, ya, yb, yc, yd, ye, yf]
                      refine tj 23 rfl ?_
                      try simp only [Act.put, ya, yb, yc, yd, ye, yf]
                      refine tj 24 rfl ?_
                      try simp only [Act.put, ya, yb, yc, yd, ye, yf]
                      refine tj 25 rfl ?_
                      try simp only [Act.put, ya, yb, yc, yd, ye, yf]
                      refine tj 26 rfl ?_
                      try simp only [Act.put, ya, yb, yc, yd, ye, yf]
                      refine wpAnyH_ready (rs := [27]) (by kernel_rfl) (by simp) ?_
                      refine AllReadyH.cons rfl (fun K hK => ?_) AllReadyH.nil
                      go_simp
                      (go_at_call 36; refine (CC.out _ (by first | exact BH.out | exact BH.out.drew)).mono ?_; rintro e9 w9 ⟨rfl, b9⟩; (try replace b9 := undrewX b9); have XH := Lib.hid (XH.out.later b9); obtain ⟨X_0, X_1, X_2, X_3, X_4, X_5, X_6, X_7, X_8, X_9, X_10, X_11⟩ := c12 XH.out; have BH := Lib.hid (chainX _ BH.out b9); clear b9)
                      (try go_wp2_with fail)
                      refine hK.out _ _ ?_ (fun hHeld27 => ?_)
                      · (try dsimp only); go_keep
                      clear hK K
                      try simp only [Act.put, ya, yb, yc, yd, ye, yf]
                      refine tj 28 rfl ?_
                      try simp only [Act.put, ya, yb, yc, yd, ye, yf]
                      refine tj 29 rfl ?_
                      try simp only [Act.put, ya, yb, yc, yd, ye, yf]
                      refine wpAnyH_done (by kernel_rfl) ?_ _
                      refine NoPanic.normal ?_
                      go_wp2
                      go_ret
                      exact ⟨rfl, chainX w LY.out BH.out⟩
                    · skip
                      simp only [Bool.false_and, Bool.and_false, Bool.true_and, Bool.and_true, Bool.false_or, Bool.or_false, Bool.true_or, Bool.or_true, Bool.not_true, Bool.not_false, if_true, if_false, Bool.false_eq_true, reduceIte] at hv
                      subst hv
                      go_enter Tryz.func8, Tryz.ntmps8
                      go_wp2_with fail
                      refine (CP.out _ BH.out).mono ?_
                      rintro e w2 ⟨rfl, b2⟩
                      have XH := Lib.hid (XH.out.later b2)
                      obtain ⟨X_0, X_1, X_2, X_3, X_4, X_5, X_6, X_7, X_8, X_9, X_10, X_11⟩ := c12 XH.out
                      have BH := Lib.hid (chainX _ BH.out b2)
                      clear b2
                      go_wp2_with fail
                      refine (CS.out _ BH.out).mono ?_
                      rintro e w2 ⟨rfl, b2⟩
                      have XH := Lib.hid (XH.out.later b2)
                      obtain ⟨X_0, X_1, X_2, X_3, X_4, X_5, X_6, X_7, X_8, X_9, X_10, X_11⟩ := c12 XH.out
                      have BH := Lib.hid (chainX _ BH.out b2)
                      clear b2
                      go_wp2_with fail
                      refine (CB.out _ BH.out).mono ?_
                      rintro e w2 ⟨rfl, b2⟩
                      have XH := Lib.hid (XH.out.later b2)
                      obtain ⟨X_0, X_1, X_2, X_3, X_4, X_5, X_6, X_7, X_8, X_9, X_10, X_11⟩ := c12 XH.out
                      have BH := Lib.hid (chainX _ BH.out b2)
                      clear b2
                      go_wp2_with fail
                      refine (CT.out _ BH.out).mono ?_
                      rintro e w2 ⟨rfl, b2⟩
                      have XH := Lib.hid (XH.out.later b2)
                      obtain ⟨X_0, X_1, X_2, X_3, X_4, X_5, X_6, X_7, X_8, X_9, X_10, X_11⟩ := c12 XH.out
                      have BH := Lib.hid (chainX _ BH.out b2)
                      clear b2
                      go_wp2_with fail
                      refine (CF.out _ BH.out).mono ?_
                      rintro e w2 ⟨rfl, b2⟩
                      have XH := Lib.hid (XH.out.later b2)
                      obtain ⟨X_0, X_1, X_2, X_3, X_4, X_5, X_6, X_7, X_8, X_9, X_10, X_11⟩ := c12 XH.out
                      have BH := Lib.hid (chainX _ BH.out b2)
                      clear b2
                      go_wp2
                      refine wp_region_noPanic ?_
                      refine wp_region_held_drew (S := (fun w' => w'.cell? ⟨w.heap.size, 0, none⟩ = some (.int .i64 d.pg.pool) ∧ w'.cell? ⟨w.heap.size, 1, none⟩ = some (.int .i64 d.pg.no) ∧ w'.cell? ⟨w.heap.size, 2, none⟩ = some (.int .i64 d.seen) ∧ w'.cell? ⟨w.heap.size, 3, none⟩ = some (.int .i64 d.started) ∧ w'.cell? ⟨w.heap.size, 4, none⟩ = some (.int .i64 d.tail.epoch) ∧ w'.cell? ⟨w.heap.size, 5, none⟩ = some (.int .i64 d.tail.seq) ∧ w'.cell? ⟨w.heap.size, 6, none⟩ = some (.slice a6 d.base.length c6) ∧ w'.cell? ⟨w.heap.size, 7, none⟩ = some (.slice a7 d.clients.length c7) ∧ w'.cell? ⟨w.heap.size, 8, none⟩ = some (.slice a8 d.log.length c8) ∧ w'.cell? ⟨w.heap.size, 9, none⟩ = some (.int .i64 d.firm.epoch) ∧ w'.cell? ⟨w.heap.size, 10, none⟩ = some (.int .i64 d.firm.seq) ∧ w'.cell? ⟨w.heap.size, 11, none⟩ = some (.slice a11 d.chunks.length c11))) (by kernel_rfl) ?_ (fun hHeld => ?_)
                      · go_keep
                      refine tj 0 rfl ?_
                      try simp only [Act.put, ya, yb, yc, yd, ye, yf]
                      refine tj 1 rfl ?_
                      try simp only [Act.put, ya, yb, yc, yd, ye, yf]
                      refine tj 2 rfl ?_
                      try simp only [Act.put, ya, yb, yc, yd, ye, yf]
                      refine tj 3 rfl ?_
                      try simp only [Act.put, ya, yb, yc, yd, ye, yf]
                      refine wpAnyH_ready (rs := [4]) (by kernel_rfl) (by simp) ?_
                      refine AllReadyH.cons rfl (fun K hK => ?_) AllReadyH.nil
                      go_simp
                      (go_at_call 31; refine (CH.out _ (by first | exact BH.out | exact BH.out.drew)).mono ?_; rintro e9 w9 ⟨rfl, b9⟩; (try replace b9 := undrewX b9); have XH := Lib.hid (XH.out.later b9); obtain ⟨X_0, X_1, X_2, X_3, X_4, X_5, X_6, X_7, X_8, X_9, X_10, X_11⟩ := c12 XH.out; have BH := Lib.hid (chainX _ BH.out b9); clear b9)
                      (try go_wp2_with fail)
                      refine hK.out _ _ ?_ (fun hHeld4 => ?_)
                      · (try dsimp only); go_keep
                      clear hK K
                      try simp only [Act.put, ya, yb, yc, yd, ye, yf]
                      refine tj 5 rfl ?_
                      try simp only [Act.put, ya, yb, yc, yd, ye, yf]
                      refine tj 6 rfl ?_
                      try simp only [Act.put, ya, yb, yc, yd, ye, yf]
                      refine tj 7 rfl ?_
                      try simp only [Act.put, ya, yb, yc, yd, ye, yf]
                      refine tj 8 rfl ?_
                      try simp only [Act.put, ya, yb, yc, yd, ye, yf]
                      refine tj 9 rfl ?_
                      try simp only [Act.put, ya, yb, yc, yd, ye, yf]
                      refine wpAnyH_ready (rs := [10]) (by kernel_rfl) (by simp) ?_
                      refine AllReadyH.cons rfl (fun K hK => ?_) AllReadyH.nil
                      go_simp
                      (go_at_call 32; refine (CK.out _ (by first | exact BH.out | exact BH.out.drew)).mono ?_; rintro e9 w9 ⟨rfl, b9⟩; (try replace b9 := undrewX b9); have XH := Lib.hid (XH.out.later b9); obtain ⟨X_0, X_1, X_2, X_3, X_4, X_5, X_6, X_7, X_8, X_9, X_10, X_11⟩ := c12 XH.out; have BH := Lib.hid (chainX _ BH.out b9); clear b9)
                      (try go_wp2_with fail)
                      refine hK.out _ _ ?_ (fun hHeld10 => ?_)
                      · (try dsimp only); go_keep
                      clear hK K
                      try simp only [Act.put, ya, yb, yc, yd, ye, yf]
                      refine tj 11 rfl ?_
                      try simp only [Act.put, ya, yb, yc, yd, ye, yf]
                      refine tj 12 rfl ?_
                      try simp only [Act.put, ya, yb, yc, yd, ye, yf]
                      refine tj 13 rfl ?_
                      try simp only [Act.put, ya, yb, yc, yd, ye, yf]
                      refine wpAnyH_ready (rs := [14]) (by kernel_rfl) (by simp) ?_
                      refine AllReadyH.cons rfl (fun K hK => ?_) AllReadyH.nil
                      go_simp
                      (go_at_call 33; refine (CG.out _ (by first | exact BH.out | exact BH.out.drew)).mono ?_; rintro e9 w9 ⟨rfl, b9⟩; (try replace b9 := undrewX b9); have XH := Lib.hid (XH.out.later b9); obtain ⟨X_0, X_1, X_2, X_3, X_4, X_5, X_6, X_7, X_8, X_9, X_10, X_11⟩ := c12 XH.out; have BH := Lib.hid (chainX _ BH.out b9); clear b9)
                      (try go_wp2_with fail)
                      refine hK.out _ _ ?_ (fun hHeld14 => ?_)
                      · (try dsimp only); go_keep
                      clear hK K
                      try simp only [Act.put, ya, yb, yc, yd, ye, yf]
                      refine tj 15 rfl ?_
                      try simp only [Act.put, ya, yb, yc, yd, ye, yf]
                      refine tj 16 rfl ?_
                      try simp only [Act.put, ya, yb, yc, yd, ye, yf]
                      refine tj 17 rfl ?_
                      try simp only [Act.put, ya, yb, yc, yd, ye, yf]
                      refine tj 19 rfl ?_
                      try simp only [Act.put, ya, yb, yc, yd, ye, yf]
                      refine tj 20 rfl ?_
                      try simp only [Act.put, ya, yb, yc, yd, ye, yf]
                      refine wpAnyH_ready (rs := [18]) (by kernel_rfl) (by simp) ?_
                      refine AllReadyH.cons rfl (fun K hK => ?_) AllReadyH.nil
                      go_simp
                      (go_at_call 35; refine (CLa.out _ (by first | exact BH.out | exact BH.out.drew)).mono ?_; rintro e9 w9 ⟨rfl, b9⟩; (try replace b9 := undrewX b9); have XH := Lib.hid (XH.out.later b9); obtain ⟨X_0, X_1, X_2, X_3, X_4, X_5, X_6, X_7, X_8, X_9, X_10, X_11⟩ := c12 XH.out; have BH := Lib.hid (chainX _ BH.out b9); clear b9)
                      (try go_wp2_with fail)
                      refine hK.out _ _ ?_ (fun hHeld18 => ?_)
                      · (try dsimp only); go_keep
                      clear hK K
                      try simp only [Act.put, ya, yb, yc, yd, ye, yf]
                      refine wpAnyH_ready (rs := [21]) (by kernel_rfl) (by simp) ?_
                      refine AllReadyH.cons rfl (fun K hK => ?_) AllReadyH.nil
                      go_simp
                      (go_at_call 34; refine (CVL.out _ (by first | exact BH.out | exact BH.out.drew)).mono ?_; rintro e9 w9 ⟨rfl, b9⟩; (try replace b9 := undrewX b9); have XH := Lib.hid (XH.out.later b9); obtain ⟨X_0, X_1, X_2, X_3, X_4, X_5, X_6, X_7, X_8, X_9, X_10, X_11⟩ := c12 XH.out; have BH := Lib.hid (chainX _ BH.out b9); clear b9)
                      (try go_wp2_with fail)
                      refine hK.out _ _ ?_ (fun hHeld21 => ?_)
                      · (try dsimp only); go_keep
                      clear hK K
                      try simp only [Act.put, ya, yb, yc, yd, ye, yf]
                      refine tj 22 rfl ?_
                      try simp only [Act.put, ya, yb, yc, yd, ye, yf]
                      refine tj 23 rfl ?_
                      try simp only [Act.put, ya, yb, yc, yd, ye, yf]
                      refine tj 24 rfl ?_
                      try simp only [Act.put, ya, yb, yc, yd, ye, yf]
                      refine tj 25 rfl ?_
                      try simp only [Act.put, ya, yb, yc, yd, ye, yf]
                      refine tj 26 rfl ?_
                      try simp only [Act.put, ya, yb, yc, yd, ye, yf]
                      refine wpAnyH_ready (rs := [27]) (by kernel_rfl) (by simp) ?_
                      refine AllReadyH.cons rfl (fun K hK => ?_) AllReadyH.nil
                      go_simp
                      (go_at_call 36; refine (CC.out _ (by first | exact BH.out | exact BH.out.drew)).mono ?_; rintro e9 w9 ⟨rfl, b9⟩; (try replace b9 := undrewX b9); have XH := Lib.hid (XH.out.later b9); obtain ⟨X_0, X_1, X_2, X_3, X_4, X_5, X_6, X_7, X_8, X_9, X_10, X_11⟩ := c12 XH.out; have BH := Lib.hid (chainX _ BH.out b9); clear b9)
                      (try go_wp2_with fail)
                      refine hK.out _ _ ?_ (fun hHeld27 => ?_)
                      · (try dsimp only); go_keep
                      clear hK K
                      try simp only [Act.put, ya, yb, yc, yd, ye, yf]
                      refine tj 28 rfl ?_
                      try simp only [Act.put, ya, yb, yc, yd, ye, yf]
                      refine tj 29 rfl ?_
                      try simp only [Act.put, ya, yb, yc, yd, ye, yf]
                      refine wpAnyH_done (by kernel_rfl) ?_ _
                      refine NoPanic.normal ?_
                      go_wp2
                      go_ret
                      exact ⟨rfl, chainX w LY.out BH.out⟩
                  · skip
                    simp only [Bool.false_and, Bool.and_false, Bool.true_and, Bool.and_true, Bool.false_or, Bool.or_false, Bool.true_or, Bool.or_true, Bool.not_true, Bool.not_false, if_true, if_false, Bool.false_eq_true, reduceIte] at hv
                    subst hv
                    go_enter Tryz.func8, Tryz.ntmps8
                    go_wp2_with fail
                    refine (CP.out _ BH.out).mono ?_
                    rintro e w2 ⟨rfl, b2⟩
                    have XH := Lib.hid (XH.out.later b2)
                    obtain ⟨X_0, X_1, X_2, X_3, X_4, X_5, X_6, X_7, X_8, X_9, X_10, X_11⟩ := c12 XH.out
                    have BH := Lib.hid (chainX _ BH.out b2)
                    clear b2
                    go_wp2_with fail
                    refine (CS.out _ BH.out).mono ?_
                    rintro e w2 ⟨rfl, b2⟩
                    have XH := Lib.hid (XH.out.later b2)
                    obtain ⟨X_0, X_1, X_2, X_3, X_4, X_5, X_6, X_7, X_8, X_9, X_10, X_11⟩ := c12 XH.out
                    have BH := Lib.hid (chainX _ BH.out b2)
                    clear b2
                    go_wp2_with fail
                    refine (CB.out _ BH.out).mono ?_
                    rintro e w2 ⟨rfl, b2⟩
                    have XH := Lib.hid (XH.out.later b2)
                    obtain ⟨X_0, X_1, X_2, X_3, X_4, X_5, X_6, X_7, X_8, X_9, X_10, X_11⟩ := c12 XH.out
                    have BH := Lib.hid (chainX _ BH.out b2)
                    clear b2
                    go_wp2_with fail
                    refine (CT.out _ BH.out).mono ?_
                    rintro e w2 ⟨rfl, b2⟩
                    have XH := Lib.hid (XH.out.later b2)
                    obtain ⟨X_0, X_1, X_2, X_3, X_4, X_5, X_6, X_7, X_8, X_9, X_10, X_11⟩ := c12 XH.out
                    have BH := Lib.hid (chainX _ BH.out b2)
                    clear b2
                    go_wp2_with fail
                    refine (CF.out _ BH.out).mono ?_
                    rintro e w2 ⟨rfl, b2⟩
                    have XH := Lib.hid (XH.out.later b2)
                    obtain ⟨X_0, X_1, X_2, X_3, X_4, X_5, X_6, X_7, X_8, X_9, X_10, X_11⟩ := c12 XH.out
                    have BH := Lib.hid (chainX _ BH.out b2)
                    clear b2
                    go_wp2
                    refine wp_region_noPanic ?_
                    refine wp_region_held_drew (S := (fun w' => w'.cell? ⟨w.heap.size, 0, none⟩ = some (.int .i64 d.pg.pool) ∧ w'.cell? ⟨w.heap.size, 1, none⟩ = some (.int .i64 d.pg.no) ∧ w'.cell? ⟨w.heap.size, 2, none⟩ = some (.int .i64 d.seen) ∧ w'.cell? ⟨w.heap.size, 3, none⟩ = some (.int .i64 d.started) ∧ w'.cell? ⟨w.heap.size, 4, none⟩ = some (.int .i64 d.tail.epoch) ∧ w'.cell? ⟨w.heap.size, 5, none⟩ = some (.int .i64 d.tail.seq) ∧ w'.cell? ⟨w.heap.size, 6, none⟩ = some (.slice a6 d.base.length c6) ∧ w'.cell? ⟨w.heap.size, 7, none⟩ = some (.slice a7 d.clients.length c7) ∧ w'.cell? ⟨w.heap.size, 8, none⟩ = some (.slice a8 d.log.length c8) ∧ w'.cell? ⟨w.heap.size, 9, none⟩ = some (.int .i64 d.firm.epoch) ∧ w'.cell? ⟨w.heap.size, 10, none⟩ = some (.int .i64 d.firm.seq) ∧ w'.cell? ⟨w.heap.size, 11, none⟩ = some (.slice a11 d.chunks.length c11))) (by kernel_rfl) ?_ (fun hHeld => ?_)
                    · go_keep
                    refine tj 0 rfl ?_
                    try simp only [Act.put, ya, yb, yc, yd, ye, yf]
                    refine tj 1 rfl ?_
                    try simp only [Act.put, ya, yb, yc, yd, ye, yf]
                    refine tj 2 rfl ?_
                    try simp only [Act.put, ya, yb, yc, yd, ye, yf]
                    refine tj 3 rfl ?_
                    try simp only [Act.put, ya, yb, yc, yd, ye, yf]
                    refine wpAnyH_ready (rs := [4]) (by kernel_rfl) (by simp) ?_
                    refine AllReadyH.cons rfl (fun K hK => ?_) AllReadyH.nil
                    go_simp
                    (go_at_call 31; refine (CH.out _ (by first | exact BH.out | exact BH.out.drew)).mono ?_; rintro e9 w9 ⟨rfl, b9⟩; (try replace b9 := undrewX b9); have XH := Lib.hid (XH.out.later b9); obtain ⟨X_0, X_1, X_2, X_3, X_4, X_5, X_6, X_7, X_8, X_9, X_10, X_11⟩ := c12 XH.out; have BH := Lib.hid (chainX _ BH.out b9); clear b9)
                    (try go_wp2_with fail)
                    refine hK.out _ _ ?_ (fun hHeld4 => ?_)
                    · (try dsimp only); go_keep
                    clear hK K
                    try simp only [Act.put, ya, yb, yc, yd, ye, yf]
                    refine tj 5 rfl ?_
                    try simp only [Act.put, ya, yb, yc, yd, ye, yf]
                    refine tj 6 rfl ?_
                    try simp only [Act.put, ya, yb, yc, yd, ye, yf]
                    refine tj 7 rfl ?_
                    try simp only [Act.put, ya, yb, yc, yd, ye, yf]
                    refine tj 8 rfl ?_
                    try simp only [Act.put, ya, yb, yc, yd, ye, yf]
                    refine tj 9 rfl ?_
                    try simp only [Act.put, ya, yb, yc, yd, ye, yf]
                    refine wpAnyH_ready (rs := [10]) (by kernel_rfl) (by simp) ?_
                    refine AllReadyH.cons rfl (fun K hK => ?_) AllReadyH.nil
                    go_simp
                    (go_at_call 32; refine (CK.out _ (by first | exact BH.out | exact BH.out.drew)).mono ?_; rintro e9 w9 ⟨rfl, b9⟩; (try replace b9 := undrewX b9); have XH := Lib.hid (XH.out.later b9); obtain ⟨X_0, X_1, X_2, X_3, X_4, X_5, X_6, X_7, X_8, X_9, X_10, X_11⟩ := c12 XH.out; have BH := Lib.hid (chainX _ BH.out b9); clear b9)
                    (try go_wp2_with fail)
                    refine hK.out _ _ ?_ (fun hHeld10 => ?_)
                    · (try dsimp only); go_keep
                    clear hK K
                    try simp only [Act.put, ya, yb, yc, yd, ye, yf]
                    refine tj 11 rfl ?_
                    try simp only [Act.put, ya, yb, yc, yd, ye, yf]
                    refine tj 12 rfl ?_
                    try simp only [Act.put, ya, yb, yc, yd, ye, yf]
                    refine tj 13 rfl ?_
                    try simp only [Act.put, ya, yb, yc, yd, ye, yf]
                    refine wpAnyH_ready (rs := [14]) (by kernel_rfl) (by simp) ?_
                    refine AllReadyH.cons rfl (fun K hK => ?_) AllReadyH.nil
                    go_simp
                    (go_at_call 33; refine (CG.out _ (by first | exact BH.out | exact BH.out.drew)).mono ?_; rintro e9 w9 ⟨rfl, b9⟩; (try replace b9 := undrewX b9); have XH := Lib.hid (XH.out.later b9); obtain ⟨X_0, X_1, X_2, X_3, X_4, X_5, X_6, X_7, X_8, X_9, X_10, X_11⟩ := c12 XH.out; have BH := Lib.hid (chainX _ BH.out b9); clear b9)
                    (try go_wp2_with fail)
                    refine hK.out _ _ ?_ (fun hHeld14 => ?_)
                    · (try dsimp only); go_keep
                    clear hK K
                    try simp only [Act.put, ya, yb, yc, yd, ye, yf]
                    refine tj 15 rfl ?_
                    try simp only [Act.put, ya, yb, yc, yd, ye, yf]
                    refine tj 16 rfl ?_
                    try simp only [Act.put, ya, yb, yc, yd, ye, yf]
                    refine tj 17 rfl ?_
                    try simp only [Act.put, ya, yb, yc, yd, ye, yf]
                    refine tj 19 rfl ?_
                    try simp only [Act.put, ya, yb, yc, yd, ye, yf]
                    refine tj 20 rfl ?_
                    try simp only [Act.put, ya, yb, yc, yd, ye, yf]
                    refine wpAnyH_ready (rs := [18]) (by kernel_rfl) (by simp) ?_
                    refine AllReadyH.cons rfl (fun K hK => ?_) AllReadyH.nil
                    go_simp
                    (go_at_call 35; refine (CLa.out _ (by first | exact BH.out | exact BH.out.drew)).mono ?_; rintro e9 w9 ⟨rfl, b9⟩; (try replace b9 := undrewX b9); have XH := Lib.hid (XH.out.later b9); obtain ⟨X_0, X_1, X_2, X_3, X_4, X_5, X_6, X_7, X_8, X_9, X_10, X_11⟩ := c12 XH.out; have BH := Lib.hid (chainX _ BH.out b9); clear b9)
                    (try go_wp2_with fail)
                    refine hK.out _ _ ?_ (fun hHeld18 => ?_)
                    · (try dsimp only); go_keep
                    clear hK K
                    try simp only [Act.put, ya, yb, yc, yd, ye, yf]
                    refine wpAnyH_ready (rs := [21]) (by kernel_rfl) (by simp) ?_
                    refine AllReadyH.cons rfl (fun K hK => ?_) AllReadyH.nil
                    go_simp
                    (go_at_call 34; refine (CVL.out _ (by first | exact BH.out | exact BH.out.drew)).mono ?_; rintro e9 w9 ⟨rfl, b9⟩; (try replace b9 := undrewX b9); have XH := Lib.hid (XH.out.later b9); obtain ⟨X_0, X_1, X_2, X_3, X_4, X_5, X_6, X_7, X_8, X_9, X_10, X_11⟩ := c12 XH.out; have BH := Lib.hid (chainX _ BH.out b9); clear b9)
                    (try go_wp2_with fail)
                    refine hK.out _ _ ?_ (fun hHeld21 => ?_)
                    · (try dsimp only); go_keep
                    clear hK K
                    try simp only [Act.put, ya, yb, yc, yd, ye, yf]
                    refine tj 22 rfl ?_
                    try simp only [Act.put, ya, yb, yc, yd, ye, yf]
                    refine tj 23 rfl ?_
                    try simp only [Act.put, ya, yb, yc, yd, ye, yf]
                    refine tj 24 rfl ?_
                    try simp only [Act.put, ya, yb, yc, yd, ye, yf]
                    refine tk 25 (v := undef) rfl (Or.inr ⟨by kernel_rfl, rfl⟩) (by assumption) ?_
                    try simp only [Act.put, ya, yb, yc, yd, ye, yf]
                    refine tk 26 (v := undef) rfl (Or.inr ⟨by kernel_rfl, rfl⟩) (by assumption) ?_
                    try simp only [Act.put, ya, yb, yc, yd, ye, yf]
                    refine tk 27 (v := undef) rfl (Or.inr ⟨by kernel_rfl, rfl⟩) (by assumption) ?_
                    try simp only [Act.put, ya, yb, yc, yd, ye, yf]
                    refine tj 28 rfl ?_
                    try simp only [Act.put, ya, yb, yc, yd, ye, yf]
                    refine tj 29 rfl ?_
                    try simp only [Act.put, ya, yb, yc, yd, ye, yf]
                    refine wpAnyH_done (by kernel_rfl) ?_ _
                    refine NoPanic.normal ?_
                    go_wp2
                    go_ret
                    exact ⟨rfl, chainX w LY.out BH.out⟩
set_option maxRecDepth 100000 in
set_option maxHeartbeats 4000000 in
theorem specLastOf (d : DPgState) {a6 a7 a8 a11 : Option Addr} {c6 c7 c8 c11 : Nat} (w : World) (l6 : d.base.length ≤ 2097152) (l7 : d.clients.length ≤ 2097152) (l8 : d.log.length ≤ 2097152) (l11 : d.chunks.length ≤ 2097152) (g6 : d.base.length ≤ c6) (g8 : d.log.length ≤ c8) {fr : Bool} {lo : Nat} (r6 : Rows fr lo w a6 d.base) (r7 : Rows fr lo w a7 d.clients) (r8 : Rows fr lo w a8 d.log) (r11 : Rows fr lo w a11 d.chunks) (r : DVer) (hr : (StP d → r = lastV d) ∧ (¬ StP d → r = ⟨0, 0⟩)) : Calls Tryz.prog 12 #[.agg #[.int .i64 d.pg.pool, .int .i64 d.pg.no, .int .i64 d.seen, .int .i64 d.started, .int .i64 d.tail.epoch, .int .i64 d.tail.seq, .slice a6 d.base.length c6, .slice a7 d.clients.length c7, .slice a8 d.log.length c8, .int .i64 d.firm.epoch, .int .i64 d.firm.seq, .slice a11 d.chunks.length c11]] w (RetW (.agg #[.int .i64 r.epoch, .int .i64 r.seq]) w) := by
  have Z := chainX w (lay w (.cells #[.int .i64 d.pg.pool, .int .i64 d.pg.no, .int .i64 d.seen, .int .i64 d.started, .int .i64 d.tail.epoch, .int .i64 d.tail.seq, .slice a6 d.base.length c6, .slice a7 d.clients.length c7, .slice a8 d.log.length c8, .int .i64 d.firm.epoch, .int .i64 d.firm.seq, .slice a11 d.chunks.length c11] 41)) (lay (w.alloc (.cells #[.int .i64 d.pg.pool, .int .i64 d.pg.no, .int .i64 d.seen, .int .i64 d.started, .int .i64 d.tail.epoch, .int .i64 d.tail.seq, .slice a6 d.base.length c6, .slice a7 d.clients.length c7, .slice a8 d.log.length c8, .int .i64 d.firm.epoch, .int .i64 d.firm.seq, .slice a11 d.chunks.length c11] 41)) (.cells #[.int .i64 0, .int .i64 0] 35))
  have ZW := Lib.hid Z
  have XX := (BxN.new w #[.int .i64 d.pg.pool, .int .i64 d.pg.no, .int .i64 d.seen, .int .i64 d.started, .int .i64 d.tail.epoch, .int .i64 d.tail.seq, .slice a6 d.base.length c6, .slice a7 d.clients.length c7, .slice a8 d.log.length c8, .int .i64 d.firm.epoch, .int .i64 d.firm.seq, .slice a11 d.chunks.length c11] 41).later (lay (w.alloc (.cells #[.int .i64 d.pg.pool, .int .i64 d.pg.no, .int .i64 d.seen, .int .i64 d.started, .int .i64 d.tail.epoch, .int .i64 d.tail.seq, .slice a6 d.base.length c6, .slice a7 d.clients.length c7, .slice a8 d.log.length c8, .int .i64 d.firm.epoch, .int .i64 d.firm.seq, .slice a11 d.chunks.length c11] 41)) (.cells #[.int .i64 0, .int .i64 0] 35))
  have X_0 := XX.cells 0 _ rfl
  have X_1 := XX.cells 1 _ rfl
  have X_2 := XX.cells 2 _ rfl
  have X_3 := XX.cells 3 _ rfl
  have X_4 := XX.cells 4 _ rfl
  have X_5 := XX.cells 5 _ rfl
  have X_6 := XX.cells 6 _ rfl
  have X_7 := XX.cells 7 _ rfl
  have X_8 := XX.cells 8 _ rfl
  have X_9 := XX.cells 9 _ rfl
  have X_10 := XX.cells 10 _ rfl
  have X_11 := XX.cells 11 _ rfl
  have XH := Lib.hid XX
  have Y0 := BxN.new (w.alloc (.cells #[.int .i64 d.pg.pool, .int .i64 d.pg.no, .int .i64 d.seen, .int .i64 d.started, .int .i64 d.tail.epoch, .int .i64 d.tail.seq, .slice a6 d.base.length c6, .slice a7 d.clients.length c7, .slice a8 d.log.length c8, .int .i64 d.firm.epoch, .int .i64 d.firm.seq, .slice a11 d.chunks.length c11] 41)) #[.int .i64 0, .int .i64 0] 35
  rw [World.size_alloc] at Y0
  have YH := Lib.hid Y0
  obtain ⟨p, e⟩ := bool_of (StP d)
  have CO := Lib.hid (fun w' (b : Below ((w.alloc (.cells #[.int .i64 d.pg.pool, .int .i64 d.pg.no, .int .i64 d.seen, .int .i64 d.started, .int .i64 d.tail.epoch, .int .i64 d.tail.seq, .slice a6 d.base.length c6, .slice a7 d.clients.length c7, .slice a8 d.log.length c8, .int .i64 d.firm.epoch, .int .i64 d.firm.seq, .slice a11 d.chunks.length c11] 41)).alloc (.cells #[.int .i64 0, .int .i64 0] 35)).heap.size ((w.alloc (.cells #[.int .i64 d.pg.pool, .int .i64 d.pg.no, .int .i64 d.seen, .int .i64 d.started, .int .i64 d.tail.epoch, .int .i64 d.tail.seq, .slice a6 d.base.length c6, .slice a7 d.clients.length c7, .slice a8 d.log.length c8, .int .i64 d.firm.epoch, .int .i64 d.firm.seq, .slice a11 d.chunks.length c11] 41)).alloc (.cells #[.int .i64 0, .int .i64 0] 35)) w') => (specStateOk d (a6 := a6) (a7 := a7) (a8 := a8) (a11 := a11) (c6 := c6) (c7 := c7) (c8 := c8) (c11 := c11) w' l6 l7 l8 l11 g6 g8 ((r6.below Z).below b) ((r7.below Z).below b) ((r8.below Z).below b) ((r11.below Z).below b)).mono (fun _ _ q => iff_ret e q))
  have CL := Lib.hid (fun w' (b : Below ((w.alloc (.cells #[.int .i64 d.pg.pool, .int .i64 d.pg.no, .int .i64 d.seen, .int .i64 d.started, .int .i64 d.tail.epoch, .int .i64 d.tail.seq, .slice a6 d.base.length c6, .slice a7 d.clients.length c7, .slice a8 d.log.length c8, .int .i64 d.firm.epoch, .int .i64 d.firm.seq, .slice a11 d.chunks.length c11] 41)).alloc (.cells #[.int .i64 0, .int .i64 0] 35)).heap.size ((w.alloc (.cells #[.int .i64 d.pg.pool, .int .i64 d.pg.no, .int .i64 d.seen, .int .i64 d.started, .int .i64 d.tail.epoch, .int .i64 d.tail.seq, .slice a6 d.base.length c6, .slice a7 d.clients.length c7, .slice a8 d.log.length c8, .int .i64 d.firm.epoch, .int .i64 d.firm.seq, .slice a11 d.chunks.length c11] 41)).alloc (.cells #[.int .i64 0, .int .i64 0] 35)) w') => specLast d (a6 := a6) (a7 := a7) (a8 := a8) (a11 := a11) (c6 := c6) (c7 := c7) (c8 := c8) (c11 := c11) w' l8 ((r8.below Z).below b))
  have BH := Lib.hid (Below.refl ((w.alloc (.cells #[.int .i64 d.pg.pool, .int .i64 d.pg.no, .int .i64 d.seen, .int .i64 d.started, .int .i64 d.tail.epoch, .int .i64 d.tail.seq, .slice a6 d.base.length c6, .slice a7 d.clients.length c7, .slice a8 d.log.length c8, .int .i64 d.firm.epoch, .int .i64 d.firm.seq, .slice a11 d.chunks.length c11] 41)).alloc (.cells #[.int .i64 0, .int .i64 0] 35)).heap.size ((w.alloc (.cells #[.int .i64 d.pg.pool, .int .i64 d.pg.no, .int .i64 d.seen, .int .i64 d.started, .int .i64 d.tail.epoch, .int .i64 d.tail.seq, .slice a6 d.base.length c6, .slice a7 d.clients.length c7, .slice a8 d.log.length c8, .int .i64 d.firm.epoch, .int .i64 d.firm.seq, .slice a11 d.chunks.length c11] 41)).alloc (.cells #[.int .i64 0, .int .i64 0] 35)))
  clear XX Y0 r6 r7 r8 r11 Z
  cases p
  · have hn : ¬ StP d := fun h => Bool.false_ne_true (e.2 h)
    rw [hr.2 hn]
    clear e hr hn CL
    go_enter Tryz.func12, Tryz.ntmps12
    go_wp2_with fail
    refine (CO.out _ BH.out).mono ?_
    rintro en w2 ⟨rfl, b2⟩
    have y0 := (YH.out.later b2).cells 0 _ rfl
    have y1 := (YH.out.later b2).cells 1 _ rfl
    have yf := (YH.out.later b2).free
    have B2 := Lib.hid (chainX w ZW.out b2)
    clear b2
    have G := Lib.hid (show RetW (.agg #[.int .i64 0, .int .i64 0]) w (.returned (.agg #[.int .i64 0, .int .i64 0])) ((w2.setCell ⟨w.heap.size + 1, 0, none⟩ (.int .i64 0)).setCell ⟨w.heap.size + 1, 1, none⟩ (.int .i64 0)) from ⟨rfl, Below.setCell (p := ⟨w.heap.size + 1, 1, none⟩) (Below.setCell (p := ⟨w.heap.size + 1, 0, none⟩) B2.out (Nat.le_succ _) (.int .i64 0)) (Nat.le_succ _) (.int .i64 0)⟩)
    go_wp2
    exact bodyPost_ret (v := .agg #[.int .i64 0, .int .i64 0]) (by simp [results, Tryz.results12, go_sem, *]) rfl G.out
  · rw [hr.1 (e.1 rfl)]
    clear e hr
    generalize (lastV d).epoch = ve at *
    generalize (lastV d).seq = vs at *
    go_enter Tryz.func12, Tryz.ntmps12
    go_wp2_with fail
    refine (CO.out _ BH.out).mono ?_
    rintro en w2 ⟨rfl, b2⟩
    have XH := Lib.hid (XH.out.later b2)
    have YH := Lib.hid (YH.out.later b2)
    have X_0 := XH.out.cells 0 _ rfl
    have X_1 := XH.out.cells 1 _ rfl
    have X_2 := XH.out.cells 2 _ rfl
    have X_3 := XH.out.cells 3 _ rfl
    have X_4 := XH.out.cells 4 _ rfl
    have X_5 := XH.out.cells 5 _ rfl
    have X_6 := XH.out.cells 6 _ rfl
    have X_7 := XH.out.cells 7 _ rfl
    have X_8 := XH.out.cells 8 _ rfl
    have X_9 := XH.out.cells 9 _ rfl
    have X_10 := XH.out.cells 10 _ rfl
    have X_11 := XH.out.cells 11 _ rfl
    have BH := Lib.hid (chainX _ BH.out b2)
    clear b2
    go_wp2_with fail
    refine (CL.out _ BH.out).mono ?_
    rintro en w3 ⟨rfl, b2⟩
    have y0 := (YH.out.later b2).cells 0 _ rfl
    have y1 := (YH.out.later b2).cells 1 _ rfl
    have yf := (YH.out.later b2).free
    have B2 := Lib.hid (chainX w ZW.out (chainX _ BH.out b2))
    clear b2
    have G := Lib.hid (show RetW (.agg #[.int .i64 ve, .int .i64 vs]) w (.returned (.agg #[.int .i64 ve, .int .i64 vs])) ((w3.setCell ⟨w.heap.size + 1, 0, none⟩ (.int .i64 ve)).setCell ⟨w.heap.size + 1, 1, none⟩ (.int .i64 vs)) from ⟨rfl, Below.setCell (p := ⟨w.heap.size + 1, 1, none⟩) (Below.setCell (p := ⟨w.heap.size + 1, 0, none⟩) B2.out (Nat.le_succ _) (.int .i64 ve)) (Nat.le_succ _) (.int .i64 vs)⟩)
    go_wp2
    exact bodyPost_ret (v := .agg #[.int .i64 ve, .int .i64 vs]) (by simp [results, Tryz.results12, go_sem, *]) rfl G.out
end Go.Proofs.YtbckdfoapmjilaaGreatDoor.Rd
