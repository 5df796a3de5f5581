/-
  Valid states, and their last version; the program (written by tools/gen/stw.py).
-/
import Derived.Test.YtbckdfoapmjilaaGreatDoorStV
import Derived.Test.YtbckdfoapmjilaaGreatDoorNst
import Derived.Test.YtbckdfoapmjilaaGreatDoorRs
namespace Go.Proofs.YtbckdfoapmjilaaGreatDoor.Rd
open Go.RowKit Go.ChangeShapes Go.WideShapes Go.Proofs.YtbckdfoapmjilaaGreatDoor.GfI Go.Proofs.YtbckdfoapmjilaaGreatDoor.GfS
open Go.Proofs.YtbckdfoapmjilaaGreatDoor.Sg (BxN)
set_option linter.unusedVariables false
set_option linter.unusedSimpArgs false

set_option maxRecDepth 100000 in
set_option maxHeartbeats 4000000 in
theorem implStateOk (d : DPgState) {a6 a7 a8 a11 : Option Addr} {c6 c7 c8 c11 : Nat} (w : World) (l6 : d.base.length ≤ 2097152) (l7 : d.clients.length ≤ 2097152) (l8 : d.log.length ≤ 2097152) (l11 : d.chunks.length ≤ 2097152) (g8 : d.log.length ≤ c8) {fr : Bool} {lo : Nat} (r6 : Rows fr lo w a6 d.base) (r7 : Rows fr lo w a7 d.clients) (r8 : Rows fr lo w a8 d.log) (r11 : Rows fr lo w a11 d.chunks) (hT : Nam.Tabs w) : Calls Tryz.prog 10 #[.agg #[.int .i64 d.pg.pool, .int .i64 d.pg.no, .int .i64 d.seen, .int .i64 d.started, .int .i64 d.tail.epoch, .int .i64 d.tail.seq, .slice a6 d.base.length c6, .slice a7 d.clients.length c7, .slice a8 d.log.length c8, .int .i64 d.firm.epoch, .int .i64 d.firm.seq, .slice a11 d.chunks.length c11]] w (IffB (StP d) w) := by
  have LY := Lib.hid (lay w (.cells #[.int .i64 d.pg.pool, .int .i64 d.pg.no, .int .i64 d.seen, .int .i64 d.started, .int .i64 d.tail.epoch, .int .i64 d.tail.seq, .slice a6 d.base.length c6, .slice a7 d.clients.length c7, .slice a8 d.log.length c8, .int .i64 d.firm.epoch, .int .i64 d.firm.seq, .slice a11 d.chunks.length c11] 41))
  have X0 := BxN.new w #[.int .i64 d.pg.pool, .int .i64 d.pg.no, .int .i64 d.seen, .int .i64 d.started, .int .i64 d.tail.epoch, .int .i64 d.tail.seq, .slice a6 d.base.length c6, .slice a7 d.clients.length c7, .slice a8 d.log.length c8, .int .i64 d.firm.epoch, .int .i64 d.firm.seq, .slice a11 d.chunks.length c11] 41
  have XH := Lib.hid X0
  have BH := Lib.hid (Below.refl (w.alloc (.cells #[.int .i64 d.pg.pool, .int .i64 d.pg.no, .int .i64 d.seen, .int .i64 d.started, .int .i64 d.tail.epoch, .int .i64 d.tail.seq, .slice a6 d.base.length c6, .slice a7 d.clients.length c7, .slice a8 d.log.length c8, .int .i64 d.firm.epoch, .int .i64 d.firm.seq, .slice a11 d.chunks.length c11] 41)).heap.size (w.alloc (.cells #[.int .i64 d.pg.pool, .int .i64 d.pg.no, .int .i64 d.seen, .int .i64 d.started, .int .i64 d.tail.epoch, .int .i64 d.tail.seq, .slice a6 d.base.length c6, .slice a7 d.clients.length c7, .slice a8 d.log.length c8, .int .i64 d.firm.epoch, .int .i64 d.firm.seq, .slice a11 d.chunks.length c11] 41)))
  clear X0
  obtain ⟨pT, eT⟩ := bool_of (TailP d)
  obtain ⟨pL, eL⟩ := bool_of (LogP d.tail d.base d.log)
  obtain ⟨pC, eC⟩ := bool_of (SeqP 160 cLt chunkB d.chunks)
  have CP := Lib.hid (fun w' (b : Below ((w.alloc (.cells #[.int .i64 d.pg.pool, .int .i64 d.pg.no, .int .i64 d.seen, .int .i64 d.started, .int .i64 d.tail.epoch, .int .i64 d.tail.seq, .slice a6 d.base.length c6, .slice a7 d.clients.length c7, .slice a8 d.log.length c8, .int .i64 d.firm.epoch, .int .i64 d.firm.seq, .slice a11 d.chunks.length c11] 41))).heap.size ((w.alloc (.cells #[.int .i64 d.pg.pool, .int .i64 d.pg.no, .int .i64 d.seen, .int .i64 d.started, .int .i64 d.tail.epoch, .int .i64 d.tail.seq, .slice a6 d.base.length c6, .slice a7 d.clients.length c7, .slice a8 d.log.length c8, .int .i64 d.firm.epoch, .int .i64 d.firm.seq, .slice a11 d.chunks.length c11] 41))) w') => implPg d.pg.pool d.pg.no w')
  have CS := Lib.hid (fun w' (b : Below ((w.alloc (.cells #[.int .i64 d.pg.pool, .int .i64 d.pg.no, .int .i64 d.seen, .int .i64 d.started, .int .i64 d.tail.epoch, .int .i64 d.tail.seq, .slice a6 d.base.length c6, .slice a7 d.clients.length c7, .slice a8 d.log.length c8, .int .i64 d.firm.epoch, .int .i64 d.firm.seq, .slice a11 d.chunks.length c11] 41))).heap.size ((w.alloc (.cells #[.int .i64 d.pg.pool, .int .i64 d.pg.no, .int .i64 d.seen, .int .i64 d.started, .int .i64 d.tail.epoch, .int .i64 d.tail.seq, .slice a6 d.base.length c6, .slice a7 d.clients.length c7, .slice a8 d.log.length c8, .int .i64 d.firm.epoch, .int .i64 d.firm.seq, .slice a11 d.chunks.length c11] 41))) w') => same_ret (Wi.isWithin d.seen 0 60 (by omega) w'))
  have CT := Lib.hid (fun w' (b : Below ((w.alloc (.cells #[.int .i64 d.pg.pool, .int .i64 d.pg.no, .int .i64 d.seen, .int .i64 d.started, .int .i64 d.tail.epoch, .int .i64 d.tail.seq, .slice a6 d.base.length c6, .slice a7 d.clients.length c7, .slice a8 d.log.length c8, .int .i64 d.firm.epoch, .int .i64 d.firm.seq, .slice a11 d.chunks.length c11] 41))).heap.size ((w.alloc (.cells #[.int .i64 d.pg.pool, .int .i64 d.pg.no, .int .i64 d.seen, .int .i64 d.started, .int .i64 d.tail.epoch, .int .i64 d.tail.seq, .slice a6 d.base.length c6, .slice a7 d.clients.length c7, .slice a8 d.log.length c8, .int .i64 d.firm.epoch, .int .i64 d.firm.seq, .slice a11 d.chunks.length c11] 41))) w') => (implTailOk d (a6 := a6) (a7 := a7) (a8 := a8) (a11 := a11) (c6 := c6) (c7 := c7) (c8 := c8) (c11 := c11) w' l6 l7 ((r6.below LY.out).below b) ((r7.below LY.out).below b) (tabs_later (tabs_later hT LY.out) b)).mono (fun _ _ q => iff_ret eT q))
  have CF := Lib.hid (fun w' (b : Below ((w.alloc (.cells #[.int .i64 d.pg.pool, .int .i64 d.pg.no, .int .i64 d.seen, .int .i64 d.started, .int .i64 d.tail.epoch, .int .i64 d.tail.seq, .slice a6 d.base.length c6, .slice a7 d.clients.length c7, .slice a8 d.log.length c8, .int .i64 d.firm.epoch, .int .i64 d.firm.seq, .slice a11 d.chunks.length c11] 41))).heap.size ((w.alloc (.cells #[.int .i64 d.pg.pool, .int .i64 d.pg.no, .int .i64 d.seen, .int .i64 d.started, .int .i64 d.tail.epoch, .int .i64 d.tail.seq, .slice a6 d.base.length c6, .slice a7 d.clients.length c7, .slice a8 d.log.length c8, .int .i64 d.firm.epoch, .int .i64 d.firm.seq, .slice a11 d.chunks.length c11] 41))) w') => implVerOk d.firm w')
  have CLa := Lib.hid (fun w' (b : Below ((w.alloc (.cells #[.int .i64 d.pg.pool, .int .i64 d.pg.no, .int .i64 d.seen, .int .i64 d.started, .int .i64 d.tail.epoch, .int .i64 d.tail.seq, .slice a6 d.base.length c6, .slice a7 d.clients.length c7, .slice a8 d.log.length c8, .int .i64 d.firm.epoch, .int .i64 d.firm.seq, .slice a11 d.chunks.length c11] 41))).heap.size ((w.alloc (.cells #[.int .i64 d.pg.pool, .int .i64 d.pg.no, .int .i64 d.seen, .int .i64 d.started, .int .i64 d.tail.epoch, .int .i64 d.tail.seq, .slice a6 d.base.length c6, .slice a7 d.clients.length c7, .slice a8 d.log.length c8, .int .i64 d.firm.epoch, .int .i64 d.firm.seq, .slice a11 d.chunks.length c11] 41))) w') => implLast d (a6 := a6) (a7 := a7) (a8 := a8) (a11 := a11) (c6 := c6) (c7 := c7) (c8 := c8) (c11 := c11) w' l8 ((r8.below LY.out).below b))
  have CVL := Lib.hid (fun w' (b : Below ((w.alloc (.cells #[.int .i64 d.pg.pool, .int .i64 d.pg.no, .int .i64 d.seen, .int .i64 d.started, .int .i64 d.tail.epoch, .int .i64 d.tail.seq, .slice a6 d.base.length c6, .slice a7 d.clients.length c7, .slice a8 d.log.length c8, .int .i64 d.firm.epoch, .int .i64 d.firm.seq, .slice a11 d.chunks.length c11] 41))).heap.size ((w.alloc (.cells #[.int .i64 d.pg.pool, .int .i64 d.pg.no, .int .i64 d.seen, .int .i64 d.started, .int .i64 d.tail.epoch, .int .i64 d.tail.seq, .slice a6 d.base.length c6, .slice a7 d.clients.length c7, .slice a8 d.log.length c8, .int .i64 d.firm.epoch, .int .i64 d.firm.seq, .slice a11 d.chunks.length c11] 41))) w') => implVerLess (lastV d) d.firm w')
  have CC := Lib.hid (fun w' (b : Below ((w.alloc (.cells #[.int .i64 d.pg.pool, .int .i64 d.pg.no, .int .i64 d.seen, .int .i64 d.started, .int .i64 d.tail.epoch, .int .i64 d.tail.seq, .slice a6 d.base.length c6, .slice a7 d.clients.length c7, .slice a8 d.log.length c8, .int .i64 d.firm.epoch, .int .i64 d.firm.seq, .slice a11 d.chunks.length c11] 41))).heap.size ((w.alloc (.cells #[.int .i64 d.pg.pool, .int .i64 d.pg.no, .int .i64 d.seen, .int .i64 d.started, .int .i64 d.tail.epoch, .int .i64 d.tail.seq, .slice a6 d.base.length c6, .slice a7 d.clients.length c7, .slice a8 d.log.length c8, .int .i64 d.firm.epoch, .int .i64 d.firm.seq, .slice a11 d.chunks.length c11] 41))) w') => (implChunksOk d (a6 := a6) (a7 := a7) (a8 := a8) (a11 := a11) (c6 := c6) (c7 := c7) (c8 := c8) (c11 := c11) w' l11 ((r11.below LY.out).below b) (tabs_later (tabs_later hT LY.out) b)).mono (fun _ _ q => iff_ret eC q))
  have CLG := Lib.hid (fun (h : TailP d) w' (b : Below (w.alloc (.cells #[.int .i64 d.pg.pool, .int .i64 d.pg.no, .int .i64 d.seen, .int .i64 d.started, .int .i64 d.tail.epoch, .int .i64 d.tail.seq, .slice a6 d.base.length c6, .slice a7 d.clients.length c7, .slice a8 d.log.length c8, .int .i64 d.firm.epoch, .int .i64 d.firm.seq, .slice a11 d.chunks.length c11] 41)).heap.size (w.alloc (.cells #[.int .i64 d.pg.pool, .int .i64 d.pg.no, .int .i64 d.seen, .int .i64 d.started, .int .i64 d.tail.epoch, .int .i64 d.tail.seq, .slice a6 d.base.length c6, .slice a7 d.clients.length c7, .slice a8 d.log.length c8, .int .i64 d.firm.epoch, .int .i64 d.firm.seq, .slice a11 d.chunks.length c11] 41)) w') => (implLogOk d (a6 := a6) (a7 := a7) (a8 := a8) (a11 := a11) (c6 := c6) (c7 := c7) (c8 := c8) (c11 := c11) w' l6 l8 g8 ((r6.below LY.out).below b) ((r8.below LY.out).below b) h.2.1.risH (tabs_later (tabs_later hT LY.out) b)).mono (fun _ _ q => iff_ret eL q))
  have HV : (pgB d.pg.pool d.pg.no && (inB d.seen 0 60 && (inB d.started 0 d.seen && (pT && (pL && (verB d.firm && (!verL (lastV d) d.firm && pC))))))) = true ↔ StP d := by
    unfold StP pgB
    rw [← eT, ← eL, ← eC]
    cases verL (lastV d) d.firm <;> simp only [Bool.and_eq_true, and_assoc, Bool.not_false, Bool.not_true, true_and, false_and, and_false, Bool.false_eq_true, Bool.true_eq_false]
  refine Calls.mono ?_ (fun e w' q => iff_of HV q)
  have ET := Lib.hid eT
  clear HV eT eL eC r6 r7 r8 r11 hT
  obtain ⟨v, hv⟩ : ∃ v, (pgB d.pg.pool d.pg.no && (inB d.seen 0 60 && (inB d.started 0 d.seen && (pT && (pL && (verB d.firm && (!verL (lastV d) d.firm && pC))))))) = v := ⟨_, rfl⟩
  rw [hv]
  have HS := Lib.hid (show inB d.seen 0 60 = true → 0 ≤ d.seen from fun h => (of_decide_eq_true h).1)
  generalize pgB d.pg.pool d.pg.no = bp at *
  generalize inB d.seen 0 60 = bs at *
  generalize verB d.firm = bf at *
  generalize verL (lastV d) d.firm = bl at *
  generalize (lastV d).epoch = le at *
  generalize (lastV d).seq = ls at *
  have X_0 := XH.out.cells 0 _ rfl
  have X_1 := XH.out.cells 1 _ rfl
  have X_2 := XH.out.cells 2 _ rfl
  have X_3 := XH.out.cells 3 _ rfl
  have X_4 := XH.out.cells 4 _ rfl
  have X_5 := XH.out.cells 5 _ rfl
  have X_6 := XH.out.cells 6 _ rfl
  have X_7 := XH.out.cells 7 _ rfl
  have X_8 := XH.out.cells 8 _ rfl
  have X_9 := XH.out.cells 9 _ rfl
  have X_10 := XH.out.cells 10 _ rfl
  have X_11 := XH.out.cells 11 _ rfl
  cases bp
  · skip
    simp only [Bool.false_and, Bool.and_false, Bool.true_and, Bool.and_true, Bool.false_or, Bool.or_false, Bool.true_or, Bool.or_true, Bool.not_true, Bool.not_false, if_true, if_false, Bool.false_eq_true, reduceIte] at hv
    subst hv
    go_enter Tryz.func10, Tryz.ntmps10
    go_wp2
    refine wp_region_noPanic ?_
    refine wp_region_held_drew (S := (fun w' => w'.cell? ⟨w.heap.size, 0, none⟩ = some (.int .i64 d.pg.pool) ∧ w'.cell? ⟨w.heap.size, 1, none⟩ = some (.int .i64 d.pg.no) ∧ w'.cell? ⟨w.heap.size, 2, none⟩ = some (.int .i64 d.seen) ∧ w'.cell? ⟨w.heap.size, 3, none⟩ = some (.int .i64 d.started) ∧ w'.cell? ⟨w.heap.size, 4, none⟩ = some (.int .i64 d.tail.epoch) ∧ w'.cell? ⟨w.heap.size, 5, none⟩ = some (.int .i64 d.tail.seq) ∧ w'.cell? ⟨w.heap.size, 6, none⟩ = some (.slice a6 d.base.length c6) ∧ w'.cell? ⟨w.heap.size, 7, none⟩ = some (.slice a7 d.clients.length c7) ∧ w'.cell? ⟨w.heap.size, 8, none⟩ = some (.slice a8 d.log.length c8) ∧ w'.cell? ⟨w.heap.size, 9, none⟩ = some (.int .i64 d.firm.epoch) ∧ w'.cell? ⟨w.heap.size, 10, none⟩ = some (.int .i64 d.firm.seq) ∧ w'.cell? ⟨w.heap.size, 11, none⟩ = some (.slice a11 d.chunks.length c11))) (by kernel_rfl) ?_ (fun hHeld => ?_)
    · go_keep
    refine tj 0 rfl ?_
    try simp only [Act.put, ya, yb, yc, yd, ye, yf]
    refine tj 1 rfl ?_
    try simp only [Act.put, ya, yb, yc, yd, ye, yf]
    refine wpAnyH_ready (rs := [2]) (by kernel_rfl) (by simp) ?_
    refine AllReadyH.cons rfl (fun K hK => ?_) AllReadyH.nil
    go_simp
    (go_at_call 42; refine (CP.out _ (by first | exact BH.out | exact BH.out.drew)).mono ?_; rintro e9 w9 ⟨rfl, b9⟩; (try replace b9 := undrewX b9); have XH := Lib.hid (XH.out.later b9); obtain ⟨X_0, X_1, X_2, X_3, X_4, X_5, X_6, X_7, X_8, X_9, X_10, X_11⟩ := c12 XH.out; have BH := Lib.hid (chainX _ BH.out b9); clear b9)
    (try go_wp2_with fail)
    refine hK.out _ _ ?_ (fun hHeld2 => ?_)
    · (try dsimp only); go_keep
    clear hK K
    try simp only [Act.put, ya, yb, yc, yd, ye, yf]
    refine tj 3 rfl ?_
    try simp only [Act.put, ya, yb, yc, yd, ye, yf]
    refine tk 4 (v := undef) rfl (Or.inr ⟨by kernel_rfl, rfl⟩) (by assumption) ?_
    try simp only [Act.put, ya, yb, yc, yd, ye, yf]
    refine tk 5 (v := undef) rfl (Or.inr ⟨by kernel_rfl, rfl⟩) (by assumption) ?_
    try simp only [Act.put, ya, yb, yc, yd, ye, yf]
    refine tk 6 (v := undef) rfl (Or.inr ⟨by kernel_rfl, rfl⟩) (by assumption) ?_
    try simp only [Act.put, ya, yb, yc, yd, ye, yf]
    refine tj 7 rfl ?_
    try simp only [Act.put, ya, yb, yc, yd, ye, yf]
    refine tj 8 rfl ?_
    try simp only [Act.put, ya, yb, yc, yd, ye, yf]
    refine tk 9 (v := undef) rfl (Or.inr ⟨by kernel_rfl, rfl⟩) (by assumption) ?_
    try simp only [Act.put, ya, yb, yc, yd, ye, yf]
    refine tk 10 (v := undef) rfl (Or.inr ⟨by kernel_rfl, rfl⟩) (by assumption) ?_
    try simp only [Act.put, ya, yb, yc, yd, ye, yf]
    refine tk 11 (v := undef) rfl (Or.inr ⟨by kernel_rfl, rfl⟩) (by assumption) ?_
    try simp only [Act.put, ya, yb, yc, yd, ye, yf]
    refine tk 12 (v := undef) rfl (Or.inr ⟨by kernel_rfl, rfl⟩) (by assumption) ?_
    try simp only [Act.put, ya, yb, yc, yd, ye, yf]
    refine tk 13 (v := undef) rfl (Or.inr ⟨by kernel_rfl, rfl⟩) (by assumption) ?_
    try simp only [Act.put, ya, yb, yc, yd, ye, yf]
    refine tj 14 rfl ?_
    try simp only [Act.put, ya, yb, yc, yd, ye, yf]
    refine tj 15 rfl ?_
    try simp only [Act.put, ya, yb, yc, yd, ye, yf]
    refine tk 16 (v := undef) rfl (Or.inr ⟨by kernel_rfl, rfl⟩) (by assumption) ?_
    try simp only [Act.put, ya, yb, yc, yd, ye, yf]
    refine tk 17 (v := undef) rfl (Or.inr ⟨by kernel_rfl, rfl⟩) (by assumption) ?_
    try simp only [Act.put, ya, yb, yc, yd, ye, yf]
    refine tj 18 rfl ?_
    try simp only [Act.put, ya, yb, yc, yd, ye, yf]
    refine tj 19 rfl ?_
    try simp only [Act.put, ya, yb, yc, yd, ye, yf]
    refine tk 20 (v := undef) rfl (Or.inr ⟨by kernel_rfl, rfl⟩) (by assumption) ?_
    try simp only [Act.put, ya, yb, yc, yd, ye, yf]
    refine tk 21 (v := undef) rfl (Or.inr ⟨by kernel_rfl, rfl⟩) (by assumption) ?_
    try simp only [Act.put, ya, yb, yc, yd, ye, yf]
    refine tj 22 rfl ?_
    try simp only [Act.put, ya, yb, yc, yd, ye, yf]
    refine tj 23 rfl ?_
    try simp only [Act.put, ya, yb, yc, yd, ye, yf]
    refine tk 24 (v := undef) rfl (Or.inr ⟨by kernel_rfl, rfl⟩) (by assumption) ?_
    try simp only [Act.put, ya, yb, yc, yd, ye, yf]
    refine tk 25 (v := undef) rfl (Or.inr ⟨by kernel_rfl, rfl⟩) (by assumption) ?_
    try simp only [Act.put, ya, yb, yc, yd, ye, yf]
    refine tk 26 (v := undef) rfl (Or.inr ⟨by kernel_rfl, rfl⟩) (by assumption) ?_
    try simp only [Act.put, ya, yb, yc, yd, ye, yf]
    refine tj 27 rfl ?_
    try simp only [Act.put, ya, yb, yc, yd, ye, yf]
    refine tj 28 rfl ?_
    try simp only [Act.put, ya, yb, yc, yd, ye, yf]
    refine tk 29 (v := undef) rfl (Or.inr ⟨by kernel_rfl, rfl⟩) (by assumption) ?_
    try simp only [Act.put, ya, yb, yc, yd, ye, yf]
    refine tk 31 (v := undef) rfl (Or.inr ⟨by kernel_rfl, rfl⟩) (by assumption) ?_
    try simp only [Act.put, ya, yb, yc, yd, ye, yf]
    refine tk 32 (v := undef) rfl (Or.inr ⟨by kernel_rfl, rfl⟩) (by assumption) ?_
    try simp only [Act.put, ya, yb, yc, yd, ye, yf]
    refine tk 30 (v := undef) rfl (Or.inr ⟨by kernel_rfl, rfl⟩) (by assumption) ?_
    try simp only [Act.put, ya, yb, yc, yd, ye, yf]
    refine tk 33 (v := undef) rfl (Or.inr ⟨by kernel_rfl, rfl⟩) (by assumption) ?_
    try simp only [Act.put, ya, yb, yc, yd, ye, yf]
    refine tk 34 (v := undef) rfl (Or.inr ⟨by kernel_rfl, rfl⟩) (by assumption) ?_
    try simp only [Act.put, ya, yb, yc, yd, ye, yf]
    refine tj 35 rfl ?_
    try simp only [Act.put, ya, yb, yc, yd, ye, yf]
    refine tj 36 rfl ?_
    try simp only [Act.put, ya, yb, yc, yd, ye, yf]
    refine tk 37 (v := undef) rfl (Or.inr ⟨by kernel_rfl, rfl⟩) (by assumption) ?_
    try simp only [Act.put, ya, yb, yc, yd, ye, yf]
    refine tk 38 (v := undef) rfl (Or.inr ⟨by kernel_rfl, rfl⟩) (by assumption) ?_
    try simp only [Act.put, ya, yb, yc, yd, ye, yf]
    refine tj 39 rfl ?_
    try simp only [Act.put, ya, yb, yc, yd, ye, yf]
    refine tj 40 rfl ?_
    try simp only [Act.put, ya, yb, yc, yd, ye, yf]
    refine wpAnyH_done (by kernel_rfl) ?_ _
    refine NoPanic.normal ?_
    go_wp2
    go_ret
    exact ⟨rfl, chainX w LY.out BH.out⟩
  · skip
    cases bs
    · skip
      simp only [Bool.false_and, Bool.and_false, Bool.true_and, Bool.and_true, Bool.false_or, Bool.or_false, Bool.true_or, Bool.or_true, Bool.not_true, Bool.not_false, if_true, if_false, Bool.false_eq_true, reduceIte] at hv
      subst hv
      go_enter Tryz.func10, Tryz.ntmps10
      go_wp2
      refine wp_region_noPanic ?_
      refine wp_region_held_drew (S := (fun w' => w'.cell? ⟨w.heap.size, 0, none⟩ = some (.int .i64 d.pg.pool) ∧ w'.cell? ⟨w.heap.size, 1, none⟩ = some (.int .i64 d.pg.no) ∧ w'.cell? ⟨w.heap.size, 2, none⟩ = some (.int .i64 d.seen) ∧ w'.cell? ⟨w.heap.size, 3, none⟩ = some (.int .i64 d.started) ∧ w'.cell? ⟨w.heap.size, 4, none⟩ = some (.int .i64 d.tail.epoch) ∧ w'.cell? ⟨w.heap.size, 5, none⟩ = some (.int .i64 d.tail.seq) ∧ w'.cell? ⟨w.heap.size, 6, none⟩ = some (.slice a6 d.base.length c6) ∧ w'.cell? ⟨w.heap.size, 7, none⟩ = some (.slice a7 d.clients.length c7) ∧ w'.cell? ⟨w.heap.size, 8, none⟩ = some (.slice a8 d.log.length c8) ∧ w'.cell? ⟨w.heap.size, 9, none⟩ = some (.int .i64 d.firm.epoch) ∧ w'.cell? ⟨w.heap.size, 10, none⟩ = some (.int .i64 d.firm.seq) ∧ w'.cell? ⟨w.heap.size, 11, none⟩ = some (.slice a11 d.chunks.length c11))) (by kernel_rfl) ?_ (fun hHeld => ?_)
      · go_keep
      refine tj 0 rfl ?_
      try simp only [Act.put, ya, yb, yc, yd, ye, yf]
      refine tj 1 rfl ?_
      try simp only [Act.put, ya, yb, yc, yd, ye, yf]
      refine wpAnyH_ready (rs := [2]) (by kernel_rfl) (by simp) ?_
      refine AllReadyH.cons rfl (fun K hK => ?_) AllReadyH.nil
      go_simp
      (go_at_call 42; refine (CP.out _ (by first | exact BH.out | exact BH.out.drew)).mono ?_; rintro e9 w9 ⟨rfl, b9⟩; (try replace b9 := undrewX b9); have XH := Lib.hid (XH.out.later b9); obtain ⟨X_0, X_1, X_2, X_3, X_4, X_5, X_6, X_7, X_8, X_9, X_10, X_11⟩ := c12 XH.out; have BH := Lib.hid (chainX _ BH.out b9); clear b9)
      (try go_wp2_with fail)
      refine hK.out _ _ ?_ (fun hHeld2 => ?_)
      · (try dsimp only); go_keep
      clear hK K
      try simp only [Act.put, ya, yb, yc, yd, ye, yf]
      refine tj 3 rfl ?_
      try simp only [Act.put, ya, yb, yc, yd, ye, yf]
      refine tj 4 rfl ?_
      try simp only [Act.put, ya, yb, yc, yd, ye, yf]
      refine tj 5 rfl ?_
      try simp only [Act.put, ya, yb, yc, yd, ye, yf]
      refine wpAnyH_ready (rs := [6]) (by kernel_rfl) (by simp) ?_
      refine AllReadyH.cons rfl (fun K hK => ?_) AllReadyH.nil
      go_simp
      (go_at_call 43; refine (CS.out _ (by first | exact BH.out | exact BH.out.drew)).mono ?_; rintro e9 w9 ⟨rfl, b9⟩; (try replace b9 := undrewX b9); have XH := Lib.hid (XH.out.later b9); obtain ⟨X_0, X_1, X_2, X_3, X_4, X_5, X_6, X_7, X_8, X_9, X_10, X_11⟩ := c12 XH.out; have BH := Lib.hid (chainX _ BH.out b9); clear b9)
      (try go_wp2_with fail)
      refine hK.out _ _ ?_ (fun hHeld6 => ?_)
      · (try dsimp only); go_keep
      clear hK K
      try simp only [Act.put, ya, yb, yc, yd, ye, yf]
      refine tj 7 rfl ?_
      try simp only [Act.put, ya, yb, yc, yd, ye, yf]
      refine tj 8 rfl ?_
      try simp only [Act.put, ya, yb, yc, yd, ye, yf]
      refine tk 9 (v := undef) rfl (Or.inr ⟨by kernel_rfl, rfl⟩) (by assumption) ?_
      try simp only [Act.put, ya, yb, yc, yd, ye, yf]
      refine tk 10 (v := undef) rfl (Or.inr ⟨by kernel_rfl, rfl⟩) (by assumption) ?_
      try simp only [Act.put, ya, yb, yc, yd, ye, yf]
      refine tk 11 (v := undef) rfl (Or.inr ⟨by kernel_rfl, rfl⟩) (by assumption) ?_
      try simp only [Act.put, ya, yb, yc, yd, ye, yf]
      refine tk 12 (v := undef) rfl (Or.inr ⟨by kernel_rfl, rfl⟩) (by assumption) ?_
      try simp only [Act.put, ya, yb, yc, yd, ye, yf]
      refine tk 13 (v := undef) rfl (Or.inr ⟨by kernel_rfl, rfl⟩) (by assumption) ?_
      try simp only [Act.put, ya, yb, yc, yd, ye, yf]
      refine tj 14 rfl ?_
      try simp only [Act.put, ya, yb, yc, yd, ye, yf]
      refine tj 15 rfl ?_
      try simp only [Act.put, ya, yb, yc, yd, ye, yf]
      refine tk 16 (v := undef) rfl (Or.inr ⟨by kernel_rfl, rfl⟩) (by assumption) ?_
      try simp only [Act.put, ya, yb, yc, yd, ye, yf]
      refine tk 17 (v := undef) rfl (Or.inr ⟨by kernel_rfl, rfl⟩) (by assumption) ?_
      try simp only [Act.put, ya, yb, yc, yd, ye, yf]
      refine tj 18 rfl ?_
      try simp only [Act.put, ya, yb, yc, yd, ye, yf]
      refine tj 19 rfl ?_
      try simp only [Act.put, ya, yb, yc, yd, ye, yf]
      refine tk 20 (v := undef) rfl (Or.inr ⟨by kernel_rfl, rfl⟩) (by assumption) ?_
      try simp only [Act.put, ya, yb, yc, yd, ye, yf]
      refine tk 21 (v := undef) rfl (Or.inr ⟨by kernel_rfl, rfl⟩) (by assumption) ?_
      try simp only [Act.put, ya, yb, yc, yd, ye, yf]
      refine tj 22 rfl ?_
      try simp only [Act.put, ya, yb, yc, yd, ye, yf]
      refine tj 23 rfl ?_
      try simp only [Act.put, ya, yb, yc, yd, ye, yf]
      refine tk 24 (v := undef) rfl (Or.inr ⟨by kernel_rfl, rfl⟩) (by assumption) ?_
      try simp only [Act.put, ya, yb, yc, yd, ye, yf]
      refine tk 25 (v := undef) rfl (Or.inr ⟨by kernel_rfl, rfl⟩) (by assumption) ?_
      try simp only [Act.put, ya, yb, yc, yd, ye, yf]
      refine tk 26 (v := undef) rfl (Or.inr ⟨by kernel_rfl, rfl⟩) (by assumption) ?_
      try simp only [Act.put, ya, yb, yc, yd, ye, yf]
      refine tj 27 rfl ?_
      try simp only [Act.put, ya, yb, yc, yd, ye, yf]
      refine tj 28 rfl ?_
      try simp only [Act.put, ya, yb, yc, yd, ye, yf]
      refine tk 29 (v := undef) rfl (Or.inr ⟨by kernel_rfl, rfl⟩) (by assumption) ?_
      try simp only [Act.put, ya, yb, yc, yd, ye, yf]
      refine tk 31 (v := undef) rfl (Or.inr ⟨by kernel_rfl, rfl⟩) (by assumption) ?_
      try simp only [Act.put, ya, yb, yc, yd, ye, yf]
      refine tk 32 (v := undef) rfl (Or.inr ⟨by kernel_rfl, rfl⟩) (by assumption) ?_
      try simp only [Act.put, ya, yb, yc, yd, ye, yf]
      refine tk 30 (v := undef) rfl (Or.inr ⟨by kernel_rfl, rfl⟩) (by assumption) ?_
      try simp only [Act.put, ya, yb, yc, yd, ye, yf]
      refine tk 33 (v := undef) rfl (Or.inr ⟨by kernel_rfl, rfl⟩) (by assumption) ?_
      try simp only [Act.put, ya, yb, yc, yd, ye, yf]
      refine tk 34 (v := undef) rfl (Or.inr ⟨by kernel_rfl, rfl⟩) (by assumption) ?_
      try simp only [Act.put, ya, yb, yc, yd, ye, yf]
      refine tj 35 rfl ?_
      try simp only [Act.put, ya, yb, yc, yd, ye, yf]
      refine tj 36 rfl ?_
      try simp only [Act.put, ya, yb, yc, yd, ye, yf]
      refine tk 37 (v := undef) rfl (Or.inr ⟨by kernel_rfl, rfl⟩) (by assumption) ?_
      try simp only [Act.put, ya, yb, yc, yd, ye, yf]
      refine tk 38 (v := undef) rfl (Or.inr ⟨by kernel_rfl, rfl⟩) (by assumption) ?_
      try simp only [Act.put, ya, yb, yc, yd, ye, yf]
      refine tj 39 rfl ?_
      try simp only [Act.put, ya, yb, yc, yd, ye, yf]
      refine tj 40 rfl ?_
      try simp only [Act.put, ya, yb, yc, yd, ye, yf]
      refine wpAnyH_done (by kernel_rfl) ?_ _
      refine NoPanic.normal ?_
      go_wp2
      go_ret
      exact ⟨rfl, chainX w LY.out BH.out⟩
    · skip
      have CB := Lib.hid (fun w' (b : Below (w.alloc (.cells #[.int .i64 d.pg.pool, .int .i64 d.pg.no, .int .i64 d.seen, .int .i64 d.started, .int .i64 d.tail.epoch, .int .i64 d.tail.seq, .slice a6 d.base.length c6, .slice a7 d.clients.length c7, .slice a8 d.log.length c8, .int .i64 d.firm.epoch, .int .i64 d.firm.seq, .slice a11 d.chunks.length c11] 41)).heap.size (w.alloc (.cells #[.int .i64 d.pg.pool, .int .i64 d.pg.no, .int .i64 d.seen, .int .i64 d.started, .int .i64 d.tail.epoch, .int .i64 d.tail.seq, .slice a6 d.base.length c6, .slice a7 d.clients.length c7, .slice a8 d.log.length c8, .int .i64 d.firm.epoch, .int .i64 d.firm.seq, .slice a11 d.chunks.length c11] 41)) w') => same_ret (Wi.isWithin d.started 0 d.seen (HS.out rfl) w'))
      clear HS
      generalize inB d.started 0 d.seen = bt at *
      cases bt
      · skip
        simp only [Bool.false_and, Bool.and_false, Bool.true_and, Bool.and_true, Bool.false_or, Bool.or_false, Bool.true_or, Bool.or_true, Bool.not_true, Bool.not_false, if_true, if_false, Bool.false_eq_true, reduceIte] at hv
        subst hv
        go_enter Tryz.func10, Tryz.ntmps10
        go_wp2
        refine wp_region_noPanic ?_
        refine wp_region_held_drew (S := (fun w' => w'.cell? ⟨w.heap.size, 0, none⟩ = some (.int .i64 d.pg.pool) ∧ w'.cell? ⟨w.heap.size, 1, none⟩ = some (.int .i64 d.pg.no) ∧ w'.cell? ⟨w.heap.size, 2, none⟩ = some (.int .i64 d.seen) ∧ w'.cell? ⟨w.heap.size, 3, none⟩ = some (.int .i64 d.started) ∧ w'.cell? ⟨w.heap.size, 4, none⟩ = some (.int .i64 d.tail.epoch) ∧ w'.cell? ⟨w.heap.size, 5, none⟩ = some (.int .i64 d.tail.seq) ∧ w'.cell? ⟨w.heap.size, 6, none⟩ = some (.slice a6 d.base.length c6) ∧ w'.cell? ⟨w.heap.size, 7, none⟩ = some (.slice a7 d.clients.length c7) ∧ w'.cell? ⟨w.heap.size, 8, none⟩ = some (.slice a8 d.log.length c8) ∧ w'.cell? ⟨w.heap.size, 9, none⟩ = some (.int .i64 d.firm.epoch) ∧ w'.cell? ⟨w.heap.size, 10, none⟩ = some (.int .i64 d.firm.seq) ∧ w'.cell? ⟨w.heap.size, 11, none⟩ = some (.slice a11 d.chunks.length c11))) (by kernel_rfl) ?_ (fun hHeld => ?_)
        · go_keep
        refine tj 0 rfl ?_
        try simp only [Act.put, ya, yb, yc, yd, ye, yf]
        refine tj 1 rfl ?_
        try simp only [Act.put, ya, yb, yc, yd, ye, yf]
        refine wpAnyH_ready (rs := [2]) (by kernel_rfl) (by simp) ?_
        refine AllReadyH.cons rfl (fun K hK => ?_) AllReadyH.nil
        go_simp
        (go_at_call 42; refine (CP.out _ (by first | exact BH.out | exact BH.out.drew)).mono ?_; rintro e9 w9 ⟨rfl, b9⟩; (try replace b9 := undrewX b9); have XH := Lib.hid (XH.out.later b9); obtain ⟨X_0, X_1, X_2, X_3, X_4, X_5, X_6, X_7, X_8, X_9, X_10, X_11⟩ := c12 XH.out; have BH := Lib.hid (chainX _ BH.out b9); clear b9)
        (try go_wp2_with fail)
        refine hK.out _ _ ?_ (fun hHeld2 => ?_)
        · (try dsimp only); go_keep
        clear hK K
        try simp only [Act.put, ya, yb, yc, yd, ye, yf]
        refine tj 3 rfl ?_
        try simp only [Act.put, ya, yb, yc, yd, ye, yf]
        refine tj 4 rfl ?_
        try simp only [Act.put, ya, yb, yc, yd, ye, yf]
        refine tj 5 rfl ?_
        try simp only [Act.put, ya, yb, yc, yd, ye, yf]
        refine wpAnyH_ready (rs := [6]) (by kernel_rfl) (by simp) ?_
        refine AllReadyH.cons rfl (fun K hK => ?_) AllReadyH.nil
        go_simp
        (go_at_call 43; refine (CS.out _ (by first | exact BH.out | exact BH.out.drew)).mono ?_; rintro e9 w9 ⟨rfl, b9⟩; (try replace b9 := undrewX b9); have XH := Lib.hid (XH.out.later b9); obtain ⟨X_0, X_1, X_2, X_3, X_4, X_5, X_6, X_7, X_8, X_9, X_10, X_11⟩ := c12 XH.out; have BH := Lib.hid (chainX _ BH.out b9); clear b9)
        (try go_wp2_with fail)
        refine hK.out _ _ ?_ (fun hHeld6 => ?_)
        · (try dsimp only); go_keep
        clear hK K
        try simp only [Act.put, ya, yb, yc, yd, ye, yf]
        refine tj 7 rfl ?_
        try simp only [Act.put, ya, yb, yc, yd, ye, yf]
        refine tj 8 rfl ?_
        try simp only [Act.put, ya, yb, yc, yd, ye, yf]
        refine tj 9 rfl ?_
        try simp only [Act.put, ya, yb, yc, yd, ye, yf]
        refine tj 10 rfl ?_
        try simp only [Act.put, ya, yb, yc, yd, ye, yf]
        refine tj 11 rfl ?_
        try simp only [Act.put, ya, yb, yc, yd, ye, yf]
        refine tj 12 rfl ?_
        try simp only [Act.put, ya, yb, yc, yd, ye, yf]
        refine wpAnyH_ready (rs := [13]) (by kernel_rfl) (by simp) ?_
        refine AllReadyH.cons rfl (fun K hK => ?_) AllReadyH.nil
        go_simp
        (go_at_call 43; refine (CB.out _ (by first | exact BH.out | exact BH.out.drew)).mono ?_; rintro e9 w9 ⟨rfl, b9⟩; (try replace b9 := undrewX b9); have XH := Lib.hid (XH.out.later b9); obtain ⟨X_0, X_1, X_2, X_3, X_4, X_5, X_6, X_7, X_8, X_9, X_10, X_11⟩ := c12 XH.out; have BH := Lib.hid (chainX _ BH.out b9); clear b9)
        (try go_wp2_with fail)
        refine hK.out _ _ ?_ (fun hHeld13 => ?_)
        · (try dsimp only); go_keep
        clear hK K
        try simp only [Act.put, ya, yb, yc, yd, ye, yf]
        refine tj 14 rfl ?_
        try simp only [Act.put, ya, yb, yc, yd, ye, yf]
        refine tj 15 rfl ?_
        try simp only [Act.put, ya, yb, yc, yd, ye, yf]
        refine tk 16 (v := undef) rfl (Or.inr ⟨by kernel_rfl, rfl⟩) (by assumption) ?_
        try simp only [Act.put, ya, yb, yc, yd, ye, yf]
        refine tk 17 (v := undef) rfl (Or.inr ⟨by kernel_rfl, rfl⟩) (by assumption) ?_
        try simp only [Act.put, ya, yb, yc, yd, ye, yf]
        refine tj 18 rfl ?_
        try simp only [Act.put, ya, yb, yc, yd, ye, yf]
        refine tj 19 rfl ?_
        try simp only [Act.put, ya, yb, yc, yd, ye, yf]
        refine tk 20 (v := undef) rfl (Or.inr ⟨by kernel_rfl, rfl⟩) (by assumption) ?_
        try simp only [Act.put, ya, yb, yc, yd, ye, yf]
        refine tk 21 (v := undef) rfl (Or.inr ⟨by kernel_rfl, rfl⟩) (by assumption) ?_
        try simp only [Act.put, ya, yb, yc, yd, ye, yf]
        refine tj 22 rfl ?_
        try simp only [Act.put, ya, yb, yc, yd, ye, yf]
        refine tj 23 rfl ?_
        try simp only [Act.put, ya, yb, yc, yd, ye, yf]
        refine tk 24 (v := undef) rfl (Or.inr ⟨by kernel_rfl, rfl⟩) (by assumption) ?_
        try simp only [Act.put, ya, yb, yc, yd, ye, yf]
        refine tk 25 (v := undef) rfl (Or.inr ⟨by kernel_rfl, rfl⟩) (by assumption) ?_
        try simp only [Act.put, ya, yb, yc, yd, ye, yf]
        refine tk 26 (v := undef) rfl (Or.inr ⟨by kernel_rfl, rfl⟩) (by assumption) ?_
        try simp only [Act.put, ya, yb, yc, yd, ye, yf]
        refine tj 27 rfl ?_
        try simp only [Act.put, ya, yb, yc, yd, ye, yf]
        refine tj 28 rfl ?_
        try simp only [Act.put, ya, yb, yc, yd, ye, yf]
        refine tk 29 (v := undef) rfl (Or.inr ⟨by kernel_rfl, rfl⟩) (by assumption) ?_
        try simp only [Act.put, ya, yb, yc, yd, ye, yf]
        refine tk 31 (v := undef) rfl (Or.inr ⟨by kernel_rfl, rfl⟩) (by assumption) ?_
        try simp only [Act.put, ya, yb, yc, yd, ye, yf]
        refine tk 32 (v := undef) rfl (Or.inr ⟨by kernel_rfl, rfl⟩) (by assumption) ?_
        try simp only [Act.put, ya, yb, yc, yd, ye, yf]
        refine tk 30 (v := undef) rfl (Or.inr ⟨by kernel_rfl, rfl⟩) (by assumption) ?_
        try simp only [Act.put, ya, yb, yc, yd, ye, yf]
        refine tk 33 (v := undef) rfl (Or.inr ⟨by kernel_rfl, rfl⟩) (by assumption) ?_
        try simp only [Act.put, ya, yb, yc, yd, ye, yf]
        refine tk 34 (v := undef) rfl (Or.inr ⟨by kernel_rfl, rfl⟩) (by assumption) ?_
        try simp only [Act.put, ya, yb, yc, yd, ye, yf]
        refine tj 35 rfl ?_
        try simp only [Act.put, ya, yb, yc, yd, ye, yf]
        refine tj 36 rfl ?_
        try simp only [Act.put, ya, yb, yc, yd, ye, yf]
        refine tk 37 (v := undef) rfl (Or.inr ⟨by kernel_rfl, rfl⟩) (by assumption) ?_
        try simp only [Act.put, ya, yb, yc, yd, ye, yf]
        refine tk 38 (v := undef) rfl (Or.inr ⟨by kernel_rfl, rfl⟩) (by assumption) ?_
        try simp only [Act.put, ya, yb, yc, yd, ye, yf]
        refine tj 39 rfl ?_
        try simp only [Act.put, ya, yb, yc, yd, ye, yf]
        refine tj 40 rfl ?_
        try simp only [Act.put, ya, yb, yc, yd, ye, yf]
        refine wpAnyH_done (by kernel_rfl) ?_ _
        refine NoPanic.normal ?_
        go_wp2
        go_ret
        exact ⟨rfl, chainX w LY.out BH.out⟩
      · skip
        cases pT
        · skip
          simp only [Bool.false_and, Bool.and_false, Bool.true_and, Bool.and_true, Bool.false_or, Bool.or_false, Bool.true_or, Bool.or_true, Bool.not_true, Bool.not_false, if_true, if_false, Bool.false_eq_true, reduceIte] at hv
          subst hv
          go_enter Tryz.func10, Tryz.ntmps10
          go_wp2
          refine wp_region_noPanic ?_
          refine wp_region_held_drew (S := (fun w' => w'.cell? ⟨w.heap.size, 0, none⟩ = some (.int .i64 d.pg.pool) ∧ w'.cell? ⟨w.heap.size, 1, none⟩ = some (.int .i64 d.pg.no) ∧ w'.cell? ⟨w.heap.size, 2, none⟩ = some (.int .i64 d.seen) ∧ w'.cell? ⟨w.heap.size, 3, none⟩ = some (.int .i64 d.started) ∧ w'.cell? ⟨w.heap.size, 4, none⟩ = some (.int .i64 d.tail.epoch) ∧ w'.cell? ⟨w.heap.size, 5, none⟩ = some (.int .i64 d.tail.seq) ∧ w'.cell? ⟨w.heap.size, 6, none⟩ = some (.slice a6 d.base.length c6) ∧ w'.cell? ⟨w.heap.size, 7, none⟩ = some (.slice a7 d.clients.length c7) ∧ w'.cell? ⟨w.heap.size, 8, none⟩ = some (.slice a8 d.log.length c8) ∧ w'.cell? ⟨w.heap.size, 9, none⟩ = some (.int .i64 d.firm.epoch) ∧ w'.cell? ⟨w.heap.size, 10, none⟩ = some (.int .i64 d.firm.seq) ∧ w'.cell? ⟨w.heap.size, 11, none⟩ = some (.slice a11 d.chunks.length c11))) (by kernel_rfl) ?_ (fun hHeld => ?_)
          · go_keep
          refine tj 0 rfl ?_
          try simp only [Act.put, ya, yb, yc, yd, ye, yf]
          refine tj 1 rfl ?_
          try simp only [Act.put, ya, yb, yc, yd, ye, yf]
          refine wpAnyH_ready (rs := [2]) (by kernel_rfl) (by simp) ?_
          refine AllReadyH.cons rfl (fun K hK => ?_) AllReadyH.nil
          go_simp
          (go_at_call 42; refine (CP.out _ (by first | exact BH.out | exact BH.out.drew)).mono ?_; rintro e9 w9 ⟨rfl, b9⟩; (try replace b9 := undrewX b9); have XH := Lib.hid (XH.out.later b9); obtain ⟨X_0, X_1, X_2, X_3, X_4, X_5, X_6, X_7, X_8, X_9, X_10, X_11⟩ := c12 XH.out; have BH := Lib.hid (chainX _ BH.out b9); clear b9)
          (try go_wp2_with fail)
          refine hK.out _ _ ?_ (fun hHeld2 => ?_)
          · (try dsimp only); go_keep
          clear hK K
          try simp only [Act.put, ya, yb, yc, yd, ye, yf]
          refine tj 3 rfl ?_
          try simp only [Act.put, ya, yb, yc, yd, ye, yf]
          refine tj 4 rfl ?_
          try simp only [Act.put, ya, yb, yc, yd, ye, yf]
          refine tj 5 rfl ?_
          try simp only [Act.put, ya, yb, yc, yd, ye, yf]
          refine wpAnyH_ready (rs := [6]) (by kernel_rfl) (by simp) ?_
          refine AllReadyH.cons rfl (fun K hK => ?_) AllReadyH.nil
          go_simp
          (go_at_call 43; refine (CS.out _ (by first | exact BH.out | exact BH.out.drew)).mono ?_; rintro e9 w9 ⟨rfl, b9⟩; (try replace b9 := undrewX b9); have XH := Lib.hid (XH.out.later b9); obtain ⟨X_0, X_1, X_2, X_3, X_4, X_5, X_6, X_7, X_8, X_9, X_10, X_11⟩ := c12 XH.out; have BH := Lib.hid (chainX _ BH.out b9); clear b9)
          (try go_wp2_with fail)
          refine hK.out _ _ ?_ (fun hHeld6 => ?_)
          · (try dsimp only); go_keep
          clear hK K
          try simp only [Act.put, ya, yb, yc, yd, ye, yf]
          refine tj 7 rfl ?_
          try simp only [Act.put, ya, yb, yc, yd, ye, yf]
          refine tj 8 rfl ?_
          try simp only [Act.put, ya, yb, yc, yd, ye, yf]
          refine tj 9 rfl ?_
          try simp only [Act.put, ya, yb, yc, yd, ye, yf]
          refine tj 10 rfl ?_
          try simp only [Act.put, ya, yb, yc, yd, ye, yf]
          refine tj 11 rfl ?_
          try simp only [Act.put, ya, yb, yc, yd, ye, yf]
          refine tj 12 rfl ?_
          try simp only [Act.put, ya, yb, yc, yd, ye, yf]
          refine wpAnyH_ready (rs := [13]) (by kernel_rfl) (by simp) ?_
          refine AllReadyH.cons rfl (fun K hK => ?_) AllReadyH.nil
          go_simp
          (go_at_call 43; refine (CB.out _ (by first | exact BH.out | exact BH.out.drew)).mono ?_; rintro e9 w9 ⟨rfl, b9⟩; (try replace b9 := undrewX b9); have XH := Lib.hid (XH.out.later b9); obtain ⟨X_0, X_1, X_2, X_3, X_4, X_5, X_6, X_7, X_8, X_9, X_10, X_11⟩ := c12 XH.out; have BH := Lib.hid (chainX _ BH.out b9); clear b9)
          (try go_wp2_with fail)
          refine hK.out _ _ ?_ (fun hHeld13 => ?_)
          · (try dsimp only); go_keep
          clear hK K
          try simp only [Act.put, ya, yb, yc, yd, ye, yf]
          refine tj 14 rfl ?_
          try simp only [Act.put, ya, yb, yc, yd, ye, yf]
          refine tj 15 rfl ?_
          try simp only [Act.put, ya, yb, yc, yd, ye, yf]
          refine tj 16 rfl ?_
          try simp only [Act.put, ya, yb, yc, yd, ye, yf]
          refine wpAnyH_ready (rs := [17]) (by kernel_rfl) (by simp) ?_
          refine AllReadyH.cons rfl (fun K hK => ?_) AllReadyH.nil
          go_simp
          (go_at_call 44; refine (CT.out _ (by first | exact BH.out | exact BH.out.drew)).mono ?_; rintro e9 w9 ⟨rfl, b9⟩; (try replace b9 := undrewX b9); have XH := Lib.hid (XH.out.later b9); obtain ⟨X_0, X_1, X_2, X_3, X_4, X_5, X_6, X_7, X_8, X_9, X_10, X_11⟩ := c12 XH.out; have BH := Lib.hid (chainX _ BH.out b9); clear b9)
          (try go_wp2_with fail)
          refine hK.out _ _ ?_ (fun hHeld17 => ?_)
          · (try dsimp only); go_keep
          clear hK K
          try simp only [Act.put, ya, yb, yc, yd, ye, yf]
          refine tj 18 rfl ?_
          try simp only [Act.put, ya, yb, yc, yd, ye, yf]
          refine tj 19 rfl ?_
          try simp only [Act.put, ya, yb, yc, yd, ye, yf]
          refine tk 20 (v := undef) rfl (Or.inr ⟨by kernel_rfl, rfl⟩) (by assumption) ?_
          try simp only [Act.put, ya, yb, yc, yd, ye, yf]
          refine tk 21 (v := undef) rfl (Or.inr ⟨by kernel_rfl, rfl⟩) (by assumption) ?_
          try simp only [Act.put, ya, yb, yc, yd, ye, yf]
          refine tj 22 rfl ?_
          try simp only [Act.put, ya, yb, yc, yd, ye, yf]
          refine tj 23 rfl ?_
          try simp only [Act.put, ya, yb, yc, yd, ye, yf]
          refine tk 24 (v := undef) rfl (Or.inr ⟨by kernel_rfl, rfl⟩) (by assumption) ?_
          try simp only [Act.put, ya, yb, yc, yd, ye, yf]
          refine tk 25 (v := undef) rfl (Or.inr ⟨by kernel_rfl, rfl⟩) (by assumption) ?_
          try simp only [Act.put, ya, yb, yc, yd, ye, yf]
          refine tk 26 (v := undef) rfl (Or.inr ⟨by kernel_rfl, rfl⟩) (by assumption) ?_
          try simp only [Act.put, ya, yb, yc, yd, ye, yf]
          refine tj 27 rfl ?_
          try simp only [Act.put, ya, yb, yc, yd, ye, yf]
          refine tj 28 rfl ?_
          try simp only [Act.put, ya, yb, yc, yd, ye, yf]
          refine tk 29 (v := undef) rfl (Or.inr ⟨by kernel_rfl, rfl⟩) (by assumption) ?_
          try simp only [Act.put, ya, yb, yc, yd, ye, yf]
          refine tk 31 (v := undef) rfl (Or.inr ⟨by kernel_rfl, rfl⟩) (by assumption) ?_
          try simp only [Act.put, ya, yb, yc, yd, ye, yf]
          refine tk 32 (v := undef) rfl (Or.inr ⟨by kernel_rfl, rfl⟩) (by assumption) ?_
          try simp only [Act.put, ya, yb, yc, yd, ye, yf]
          refine tk 30 (v := undef) rfl (Or.inr ⟨by kernel_rfl, rfl⟩) (by assumption) ?_
          try simp only [Act.put, ya, yb, yc, yd, ye, yf]
          refine tk 33 (v := undef) rfl (Or.inr ⟨by kernel_rfl, rfl⟩) (by assumption) ?_
          try simp only [Act.put, ya, yb, yc, yd, ye, yf]
          refine tk 34 (v := undef) rfl (Or.inr ⟨by kernel_rfl, rfl⟩) (by assumption) ?_
          try simp only [Act.put, ya, yb, yc, yd, ye, yf]
          refine tj 35 rfl ?_
          try simp only [Act.put, ya, yb, yc, yd, ye, yf]
          refine tj 36 rfl ?_
          try simp only [Act.put, ya, yb, yc, yd, ye, yf]
          refine tk 37 (v := undef) rfl (Or.inr ⟨by kernel_rfl, rfl⟩) (by assumption) ?_
          try simp only [Act.put, ya, yb, yc, yd, ye, yf]
          refine tk 38 (v := undef) rfl (Or.inr ⟨by kernel_rfl, rfl⟩) (by assumption) ?_
          try simp only [Act.put, ya, yb, yc, yd, ye, yf]
          refine tj 39 rfl ?_
          try simp only [Act.put, ya, yb, yc, yd, ye, yf]
          refine tj 40 rfl ?_
          try simp only [Act.put, ya, yb, yc, yd, ye, yf]
          refine wpAnyH_done (by kernel_rfl) ?_ _
          refine NoPanic.normal ?_
          go_wp2
          go_ret
          exact ⟨rfl, chainX w LY.out BH.out⟩
        · skip
          have CL := Lib.hid (CLG.out (ET.out.1 rfl))
          clear CLG ET
          cases pL
          · skip
            simp only [Bool.false_and, Bool.and_false, Bool.true_and, Bool.and_true, Bool.false_or, Bool.or_false, Bool.true_or, Bool.or_true, Bool.not_true, Bool.not_false, if_true, if_false, Bool.false_eq_true, reduceIte] at hv
            subst hv
            go_enter Tryz.func10, Tryz.ntmps10
            go_wp2
            refine wp_region_noPanic ?_
            refine wp_region_held_drew (S := (fun w' => w'.cell? ⟨w.heap.size, 0, none⟩ = some (.int .i64 d.pg.pool) ∧ w'.cell? ⟨w.heap.size, 1, none⟩ = some (.int .i64 d.pg.no) ∧ w'.cell? ⟨w.heap.size, 2, none⟩ = some (.int .i64 d.seen) ∧ w'.cell? ⟨w.heap.size, 3, none⟩ = some (.int .i64 d.started) ∧ w'.cell? ⟨w.heap.size, 4, none⟩ = some (.int .i64 d.tail.epoch) ∧ w'.cell? ⟨w.heap.size, 5, none⟩ = some (.int .i64 d.tail.seq) ∧ w'.cell? ⟨w.heap.size, 6, none⟩ = some (.slice a6 d.base.length c6) ∧ w'.cell? ⟨w.heap.size, 7, none⟩ = some (.slice a7 d.clients.length c7) ∧ w'.cell? ⟨w.heap.size, 8, none⟩ = some (.slice a8 d.log.length c8) ∧ w'.cell? ⟨w.heap.size, 9, none⟩ = some (.int .i64 d.firm.epoch) ∧ w'.cell? ⟨w.heap.size, 10, none⟩ = some (.int .i64 d.firm.seq) ∧ w'.cell? ⟨w.heap.size, 11, none⟩ = some (.slice a11 d.chunks.length c11))) (by kernel_rfl) ?_ (fun hHeld => ?_)
            · go_keep
            refine tj 0 rfl ?_
            try simp only [Act.put, ya, yb, yc, yd, ye, yf]
            refine tj 1 rfl ?_
            try simp only [Act.put, ya, yb, yc, yd, ye, yf]
            refine wpAnyH_ready (rs := [2]) (by kernel_rfl) (by simp) ?_
            refine AllReadyH.cons rfl (fun K hK => ?_) AllReadyH.nil
            go_simp
            (go_at_call 42; refine (CP.out _ (by first | exact BH.out | exact BH.out.drew)).mono ?_; rintro e9 w9 ⟨rfl, b9⟩; (try replace b9 := undrewX b9); have XH := Lib.hid (XH.out.later b9); obtain ⟨X_0, X_1, X_2, X_3, X_4, X_5, X_6, X_7, X_8, X_9, X_10, X_11⟩ := c12 XH.out; have BH := Lib.hid (chainX _ BH.out b9); clear b9)
            (try go_wp2_with fail)
            refine hK.out _ _ ?_ (fun hHeld2 => ?_)
            · (try dsimp only); go_keep
            clear hK K
            try simp only [Act.put, ya, yb, yc, yd, ye, yf]
            refine tj 3 rfl ?_
            try simp only [Act.put, ya, yb, yc, yd, ye, yf]
            refine tj 4 rfl ?_
            try simp only [Act.put, ya, yb, yc, yd, ye, yf]
            refine tj 5 rfl ?_
            try simp only [Act.put, ya, yb, yc, yd, ye, yf]
            refine wpAnyH_ready (rs := [6]) (by kernel_rfl) (by simp) ?_
            refine AllReadyH.cons rfl (fun K hK => ?_) AllReadyH.nil
            go_simp
            (go_at_call 43; refine (CS.out _ (by first | exact BH.out | exact BH.out.drew)).mono ?_; rintro e9 w9 ⟨rfl, b9⟩; (try replace b9 := undrewX b9); have XH := Lib.hid (XH.out.later b9); obtain ⟨X_0, X_1, X_2, X_3, X_4, X_5, X_6, X_7, X_8, X_9, X_10, X_11⟩ := c12 XH.out; have BH := Lib.hid (chainX _ BH.out b9); clear b9)
            (try go_wp2_with fail)
            refine hK.out _ _ ?_ (fun hHeld6 => ?_)
            · (try dsimp only); go_keep
            clear hK K
            try simp only [Act.put, ya, yb, yc, yd, ye, yf]
            refine tj 7 rfl ?_
            try simp only [Act.put, ya, yb, yc, yd, ye, yf]
            refine tj 8 rfl ?_
            try simp only [Act.put, ya, yb, yc, yd, ye, yf]
            refine tj 9 rfl ?_
            try simp only [Act.put, ya, yb, yc, yd, ye, yf]
            refine tj 10 rfl ?_
            try simp only [Act.put, ya, yb, yc, yd, ye, yf]
            refine tj 11 rfl ?_
            try simp only [Act.put, ya, yb, yc, yd, ye, yf]
            refine tj 12 rfl ?_
            try simp only [Act.put, ya, yb, yc, yd, ye, yf]
            refine wpAnyH_ready (rs := [13]) (by kernel_rfl) (by simp) ?_
            refine AllReadyH.cons rfl (fun K hK => ?_) AllReadyH.nil
            go_simp
            (go_at_call 43; refine (CB.out _ (by first | exact BH.out | exact BH.out.drew)).mono ?_; rintro e9 w9 ⟨rfl, b9⟩; (try replace b9 := undrewX b9); have XH := Lib.hid (XH.out.later b9); obtain ⟨X_0, X_1, X_2, X_3, X_4, X_5, X_6, X_7, X_8, X_9, X_10, X_11⟩ := c12 XH.out; have BH := Lib.hid (chainX _ BH.out b9); clear b9)
            (try go_wp2_with fail)
            refine hK.out _ _ ?_ (fun hHeld13 => ?_)
            · (try dsimp only); go_keep
            clear hK K
            try simp only [Act.put, ya, yb, yc, yd, ye, yf]
            refine tj 14 rfl ?_
            try simp only [Act.put, ya, yb, yc, yd, ye, yf]
            refine tj 15 rfl ?_
            try simp only [Act.put, ya, yb, yc, yd, ye, yf]
            refine tj 16 rfl ?_
            try simp only [Act.put, ya, yb, yc, yd, ye, yf]
            refine wpAnyH_ready (rs := [17]) (by kernel_rfl) (by simp) ?_
            refine AllReadyH.cons rfl (fun K hK => ?_) AllReadyH.nil
            go_simp
            (go_at_call 44; refine (CT.out _ (by first | exact BH.out | exact BH.out.drew)).mono ?_; rintro e9 w9 ⟨rfl, b9⟩; (try replace b9 := undrewX b9); have XH := Lib.hid (XH.out.later b9); obtain ⟨X_0, X_1, X_2, X_3, X_4, X_5, X_6, X_7, X_8, X_9, X_10, X_11⟩ := c12 XH.out; have BH := Lib.hid (chainX _ BH.out b9); clear b9)
            (try go_wp2_with fail)
            refine hK.out _ _ ?_ (fun hHeld17 => ?_)
            · (try dsimp only); go_keep
            clear hK K
            try simp only [Act.put, ya, yb, yc, yd, ye, yf]
            refine tj 18 rfl ?_
            try simp only [Act.put, ya, yb, yc, yd, ye, yf]
            refine tj 19 rfl ?_
            try simp only [Act.put, ya, yb, yc, yd, ye, yf]
            refine tj 20 rfl ?_
            try simp only [Act.put, ya, yb, yc, yd, ye, yf]
            refine wpAnyH_ready (rs := [21]) (by kernel_rfl) (by simp) ?_
            refine AllReadyH.cons rfl (fun K hK => ?_) AllReadyH.nil
            go_simp
            (go_at_call 45; refine (CL.out _ (by first | exact BH.out | exact BH.out.drew)).mono ?_; rintro e9 w9 ⟨rfl, b9⟩; (try replace b9 := undrewX b9); have XH := Lib.hid (XH.out.later b9); obtain ⟨X_0, X_1, X_2, X_3, X_4, X_5, X_6, X_7, X_8, X_9, X_10, X_11⟩ := c12 XH.out; have BH := Lib.hid (chainX _ BH.out b9); clear b9)
            (try go_wp2_with fail)
            refine hK.out _ _ ?_ (fun hHeld21 => ?_)
            · (try dsimp only); go_keep
            clear hK K
            try simp only [Act.put, ya, yb, yc, yd, ye, yf]
            refine tj 22 rfl ?_
            try simp only [Act.put, ya, yb, yc, yd, ye, yf]
            refine tj 23 rfl ?_
            try simp only [Act.put, ya, yb, yc, yd, ye, yf]
            refine tk 24 (v := undef) rfl (Or.inr ⟨by kernel_rfl, rfl⟩) (by assumption) ?_
            try simp only [Act.put, ya, yb, yc, yd, ye, yf]
            refine tk 25 (v := undef) rfl (Or.inr ⟨by kernel_rfl, rfl⟩) (by assumption) ?_
            try simp only [Act.put, ya, yb, yc, yd, ye, yf]
            refine tk 26 (v := undef) rfl (Or.inr ⟨by kernel_rfl, rfl⟩) (by assumption) ?_
            try simp only [Act.put, ya, yb, yc, yd, ye, yf]
            refine tj 27 rfl ?_
            try simp only [Act.put, ya, yb, yc, yd, ye, yf]
            refine tj 28 rfl ?_
            try simp only [Act.put, ya, yb, yc, yd, ye, yf]
            refine tk 29 (v := undef) rfl (Or.inr ⟨by kernel_rfl, rfl⟩) (by assumption) ?_
            try simp only [Act.put, ya, yb, yc, yd, ye, yf]
            refine tk 31 (v := undef) rfl (Or.inr ⟨by kernel_rfl, rfl⟩) (by assumption) ?_
            try simp only [Act.put, ya, yb, yc, yd, ye, yf]
            refine tk 32 (v := undef) rfl (Or.inr ⟨by kernel_rfl, rfl⟩) (by assumption) ?_
            try simp only [Act.put, ya, yb, yc, yd, ye, yf]
            refine tk 30 (v := undef) rfl (Or.inr ⟨by kernel_rfl, rfl⟩) (by assumption) ?_
            try simp only [Act.put, ya, yb, yc, yd, ye, yf]
            refine tk 33 (v := undef) rfl (Or.inr ⟨by kernel_rfl, rfl⟩) (by assumption) ?_
            try simp only [Act.put, ya, yb, yc, yd, ye, yf]
            refine tk 34 (v := undef) rfl (Or.inr ⟨by kernel_rfl, rfl⟩) (by assumption) ?_
            try simp only [Act.put, ya, yb, yc, yd, ye, yf]
            refine tj 35 rfl ?_
            try simp only [Act.put, ya, yb, yc, yd, ye, yf]
            refine tj 36 rfl ?_
            try simp only [Act.put, ya, yb, yc, yd, ye, yf]
            refine tk 37 (v := undef) rfl (Or.inr ⟨by kernel_rfl, rfl⟩) (by assumption) ?_
            try simp only [Act.put, ya, yb, yc, yd, ye, yf]
            refine tk 38 (v := undef) rfl (Or.inr ⟨by kernel_rfl, rfl⟩) (by assumption) ?_
            try simp only [Act.put, ya, yb, yc, yd, ye, yf]
            refine tj 39 rfl ?_
            try simp only [Act.put, ya, yb, yc, yd, ye, yf]
            refine tj 40 rfl ?_
            try simp only [Act.put, ya, yb, yc, yd, ye, yf]
            refine wpAnyH_done (by kernel_rfl) ?_ _
            refine NoPanic.normal ?_
            go_wp2
            go_ret
            exact ⟨rfl, chainX w LY.out BH.out⟩
          · skip
            cases bf
            · skip
              simp only [Bool.false_and, Bool.and_false, Bool.true_and, Bool.and_true, Bool.false_or, Bool.or_false, Bool.true_or, Bool.or_true, Bool.not_true, Bool.not_false, if_true, if_false, Bool.false_eq_true, reduceIte] at hv
              subst hv
              go_enter Tryz.func10, Tryz.ntmps10
              go_wp2
              refine wp_region_noPanic ?_
              refine wp_region_held_drew (S := (fun w' => w'.cell? ⟨w.heap.size, 0, none⟩ = some (.int .i64 d.pg.pool) ∧ w'.cell? ⟨w.heap.size, 1, none⟩ = some (.int .i64 d.pg.no) ∧ w'.cell? ⟨w.heap.size, 2, none⟩ = some (.int .i64 d.seen) ∧ w'.cell? ⟨w.heap.size, 3, none⟩ = some (.int .i64 d.started) ∧ w'.cell? ⟨w.heap.size, 4, none⟩ = some (.int .i64 d.tail.epoch) ∧ w'.cell? ⟨w.heap.size, 5, none⟩ = some (.int .i64 d.tail.seq) ∧ w'.cell? ⟨w.heap.size, 6, none⟩ = some (.slice a6 d.base.length c6) ∧ w'.cell? ⟨w.heap.size, 7, none⟩ = some (.slice a7 d.clients.length c7) ∧ w'.cell? ⟨w.heap.size, 8, none⟩ = some (.slice a8 d.log.length c8) ∧ w'.cell? ⟨w.heap.size, 9, none⟩ = some (.int .i64 d.firm.epoch) ∧ w'.cell? ⟨w.heap.size, 10, none⟩ = some (.int .i64 d.firm.seq) ∧ w'.cell? ⟨w.heap.size, 11, none⟩ = some (.slice a11 d.chunks.length c11))) (by kernel_rfl) ?_ (fun hHeld => ?_)
              · go_keep
              refine tj 0 rfl ?_
              try simp only [Act.put, ya, yb, yc, yd, ye, yf]
              refine tj 1 rfl ?_
              try simp only [Act.put, ya, yb, yc, yd, ye, yf]
              refine wpAnyH_ready (rs := [2]) (by kernel_rfl) (by simp) ?_
              refine AllReadyH.cons rfl (fun K hK => ?_) AllReadyH.nil
              go_simp
              (go_at_call 42; refine (CP.out _ (by first | exact BH.out | exact BH.out.drew)).mono ?_; rintro e9 w9 ⟨rfl, b9⟩; (try replace b9 := undrewX b9); have XH := Lib.hid (XH.out.later b9); obtain ⟨X_0, X_1, X_2, X_3, X_4, X_5, X_6, X_7, X_8, X_9, X_10, X_11⟩ := c12 XH.out; have BH := Lib.hid (chainX _ BH.out b9); clear b9)
              (try go_wp2_with fail)
              refine hK.out _ _ ?_ (fun hHeld2 => ?_)
              · (try dsimp only); go_keep
              clear hK K
              try simp only [Act.put, ya, yb, yc, yd, ye, yf]
              refine tj 3 rfl ?_
              try simp only [Act.put, ya, yb, yc, yd, ye, yf]
              refine tj 4 rfl ?_
              try simp only [Act.put, ya, yb, yc, yd, ye, yf]
              refine tj 5 rfl ?_
              try simp only [Act.put, ya, yb, yc, yd, ye, yf]
              refine wpAnyH_ready (rs := [6]) (by kernel_rfl) (by simp) ?_
              refine AllReadyH.cons rfl (fun K hK => ?_) AllReadyH.nil
              go_simp
              (go_at_call 43; refine (CS.out _ (by first | exact BH.out | exact BH.out.drew)).mono ?_; rintro e9 w9 ⟨rfl, b9⟩; (try replace b9 := undrewX b9); have XH := Lib.hid (XH.out.later b9); obtain ⟨X_0, X_1, X_2, X_3, X_4, X_5, X_6, X_7, X_8, X_9, X_10, X_11⟩ := c12 XH.out; have BH := Lib.hid (chainX _ BH.out b9); clear b9)
              (try go_wp2_with fail)
              refine hK.out _ _ ?_ (fun hHeld6 => ?_)
              · (try dsimp only); go_keep
              clear hK K
              try simp only [Act.put, ya, yb, yc, yd, ye, yf]
              refine tj 7 rfl ?_
              try simp only [Act.put, ya, yb, yc, yd, ye, yf]
              refine tj 8 rfl ?_
              try simp only [Act.put, ya, yb, yc, yd, ye, yf]
              refine tj 9 rfl ?_
              try simp only [Act.put, ya, yb, yc, yd, ye, yf]
              refine tj 10 rfl ?_
              try simp only [Act.put, ya, yb, yc, yd, ye, yf]
              refine tj 11 rfl ?_
              try simp only [Act.put, ya, yb, yc, yd, ye, yf]
              refine tj 12 rfl ?_
              try simp only [Act.put, ya, yb, yc, yd, ye, yf]
              refine wpAnyH_ready (rs := [13]) (by kernel_rfl) (by simp) ?_
              refine AllReadyH.cons rfl (fun K hK => ?_) AllReadyH.nil
              go_simp
              (go_at_call 43; refine (CB.out _ (by first | exact BH.out | exact BH.out.drew)).mono ?_; rintro e9 w9 ⟨rfl, b9⟩; (try replace b9 := undrewX b9); have XH := Lib.hid (XH.out.later b9); obtain ⟨X_0, X_1, X_2, X_3, X_4, X_5, X_6, X_7, X_8, X_9, X_10, X_11⟩ := c12 XH.out; have BH := Lib.hid (chainX _ BH.out b9); clear b9)
              (try go_wp2_with fail)
              refine hK.out _ _ ?_ (fun hHeld13 => ?_)
              · (try dsimp only); go_keep
              clear hK K
              try simp only [Act.put, ya, yb, yc, yd, ye, yf]
              refine tj 14 rfl ?_
              try simp only [Act.put, ya, yb, yc, yd, ye, yf]
              refine tj 15 rfl ?_
              try simp only [Act.put, ya, yb, yc, yd, ye, yf]
              refine tj 16 rfl ?_
              try simp only [Act.put, ya, yb, yc, yd, ye, yf]
              refine wpAnyH_ready (rs := [17]) (by kernel_rfl) (by simp) ?_
              refine AllReadyH.cons rfl (fun K hK => ?_) AllReadyH.nil
              go_simp
              (go_at_call 44; refine (CT.out _ (by first | exact BH.out | exact BH.out.drew)).mono ?_; rintro e9 w9 ⟨rfl, b9⟩; (try replace b9 := undrewX b9); have XH := Lib.hid (XH.out.later b9); obtain ⟨X_0, X_1, X_2, X_3, X_4, X_5, X_6, X_7, X_8, X_9, X_10, X_11⟩ := c12 XH.out; have BH := Lib.hid (chainX _ BH.out b9); clear b9)
              (try go_wp2_with fail)
              refine hK.out _ _ ?_ (fun hHeld17 => ?_)
              · (try dsimp only); go_keep
              clear hK K
              try simp only [Act.put, ya, yb, yc, yd, ye, yf]
              refine tj 18 rfl ?_
              try simp only [Act.put, ya, yb, yc, yd, ye, yf]
              refine tj 19 rfl ?_
              try simp only [Act.put, ya, yb, yc, yd, ye, yf]
              refine tj 20 rfl ?_
              try simp only [Act.put, ya, yb, yc, yd, ye, yf]
              refine wpAnyH_ready (rs := [21]) (by kernel_rfl) (by simp) ?_
              refine AllReadyH.cons rfl (fun K hK => ?_) AllReadyH.nil
              go_simp
              (go_at_call 45; refine (CL.out _ (by first | exact BH.out | exact BH.out.drew)).mono ?_; rintro e9 w9 ⟨rfl, b9⟩; (try replace b9 := undrewX b9); have XH := Lib.hid (XH.out.later b9); obtain ⟨X_0, X_1, X_2, X_3, X_4, X_5, X_6, X_7, X_8, X_9, X_10, X_11⟩ := c12 XH.out; have BH := Lib.hid (chainX _ BH.out b9); clear b9)
              (try go_wp2_with fail)
              refine hK.out _ _ ?_ (fun hHeld21 => ?_)
              · (try dsimp only); go_keep
              clear hK K
              try simp only [Act.put, ya, yb, yc, yd, ye, yf]
              refine tj 22 rfl ?_
              try simp only [Act.put, ya, yb, yc, yd, ye, yf]
              refine tj 23 rfl ?_
              try simp only [Act.put, ya, yb, yc, yd, ye, yf]
              refine tj 24 rfl ?_
              try simp only [Act.put, ya, yb, yc, yd, ye, yf]
              refine tj 25 rfl ?_
              try simp only [Act.put, ya, yb, yc, yd, ye, yf]
              refine wpAnyH_ready (rs := [26]) (by kernel_rfl) (by simp) ?_
              refine AllReadyH.cons rfl (fun K hK => ?_) AllReadyH.nil
              go_simp
              (go_at_call 46; refine (CF.out _ (by first | exact BH.out | exact BH.out.drew)).mono ?_; rintro e9 w9 ⟨rfl, b9⟩; (try replace b9 := undrewX b9); have XH := Lib.hid (XH.out.later b9); obtain ⟨X_0, X_1, X_2, X_3, X_4, X_5, X_6, X_7, X_8, X_9, X_10, X_11⟩ := c12 XH.out; have BH := Lib.hid (chainX _ BH.out b9); clear b9)
              (try go_wp2_with fail)
              refine hK.out _ _ ?_ (fun hHeld26 => ?_)
              · (try dsimp only); go_keep
              clear hK K
              try simp only [Act.put, ya, yb, yc, yd, ye, yf]
              refine tj 27 rfl ?_
              try simp only [Act.put, ya, yb, yc, yd, ye, yf]
              refine tj 28 rfl ?_
              try simp only [Act.put, ya, yb, yc, yd, ye, yf]
              refine tk 29 (v := undef) rfl (Or.inr ⟨by kernel_rfl, rfl⟩) (by assumption) ?_
              try simp only [Act.put, ya, yb, yc, yd, ye, yf]
              refine tk 31 (v := undef) rfl (Or.inr ⟨by kernel_rfl, rfl⟩) (by assumption) ?_
              try simp only [Act.put, ya, yb, yc, yd, ye, yf]
              refine tk 32 (v := undef) rfl (Or.inr ⟨by kernel_rfl, rfl⟩) (by assumption) ?_
              try simp only [Act.put, ya, yb, yc, yd, ye, yf]
              refine tk 30 (v := undef) rfl (Or.inr ⟨by kernel_rfl, rfl⟩) (by assumption) ?_
              try simp only [Act.put, ya, yb, yc, yd, ye, yf]
              refine tk 33 (v := undef) rfl (Or.inr ⟨by kernel_rfl, rfl⟩) (by assumption) ?_
              try simp only [Act.put, ya, yb, yc, yd, ye, yf]
              refine tk 34 (v := undef) rfl (Or.inr ⟨by kernel_rfl, rfl⟩) (by assumption) ?_
              try simp only [Act.put, ya, yb, yc, yd, ye, yf]
              refine tj 35 rfl ?_
              try simp only [Act.put, ya, yb, yc, yd, ye, yf]
              refine tj 36 rfl ?_
              try simp only [Act.put, ya, yb, yc, yd, ye, yf]
              refine tk 37 (v := undef) rfl (Or.inr ⟨by kernel_rfl, rfl⟩) (by assumption) ?_
              try simp only [Act.put, ya, yb, yc, yd, ye, yf]
              refine tk 38 (v := undef) rfl (Or.inr ⟨by kernel_rfl, rfl⟩) (by assumption) ?_
              try simp only [Act.put, ya, yb, yc, yd, ye, yf]
              refine tj 39 rfl ?_
              try simp only [Act.put, ya, yb, yc, yd, ye, yf]
              refine tj 40 rfl ?_
              try simp only [Act.put, ya, yb, yc, yd, ye, yf]
              refine wpAnyH_done (by kernel_rfl) ?_ _
              refine NoPanic.normal ?_
              go_wp2
              go_ret
              exact ⟨rfl, chainX w LY.out BH.out⟩
            · skip
              cases bl
              · skip
                cases pC
                · skip
                  simp only [Bool.false_and, Bool.and_false, Bool.true_and, Bool.and_true, Bool.false_or, Bool.or_false, Bool.true_or, Bool.or_true, Bool.not_true, Bool.not_false, if_true, if_false, Bool.false_eq_true, reduceIte] at hv
                  subst hv
                  go_enter Tryz.func10, Tryz.ntmps10
                  go_wp2
                  refine wp_region_noPanic ?_
                  refine wp_region_held_drew (S := (fun w' => w'.cell? ⟨w.heap.size, 0, none⟩ = some (.int .i64 d.pg.pool) ∧ w'.cell? ⟨w.heap.size, 1, none⟩ = some (.int .i64 d.pg.no) ∧ w'.cell? ⟨w.heap.size, 2, none⟩ = some (.int .i64 d.seen) ∧ w'.cell? ⟨w.heap.size, 3, none⟩ = some (.int .i64 d.started) ∧ w'.cell? ⟨w.heap.size, 4, none⟩ = some (.int .i64 d.tail.epoch) ∧ w'.cell? ⟨w.heap.size, 5, none⟩ = some (.int .i64 d.tail.seq) ∧ w'.cell? ⟨w.heap.size, 6, none⟩ = some (.slice a6 d.base.length c6) ∧ w'.cell? ⟨w.heap.size, 7, none⟩ = some (.slice a7 d.clients.length c7) ∧ w'.cell? ⟨w.heap.size, 8, none⟩ = some (.slice a8 d.log.length c8) ∧ w'.cell? ⟨w.heap.size, 9, none⟩ = some (.int .i64 d.firm.epoch) ∧ w'.cell? ⟨w.heap.size, 10, none⟩ = some (.int .i64 d.firm.seq) ∧ w'.cell? ⟨w.heap.size, 11, none⟩ = some (.slice a11 d.chunks.length c11))) (by kernel_rfl) ?_ (fun hHeld => ?_)
                  · go_keep
                  refine tj 0 rfl ?_
                  try simp only [Act.put, ya, yb, yc, yd, ye, yf]
                  refine tj 1 rfl ?_
                  try simp only [Act.put, ya, yb, yc, yd, ye, yf]
                  refine wpAnyH_ready (rs := [2]) (by kernel_rfl) (by simp) ?_
                  refine AllReadyH.cons rfl (fun K hK => ?_) AllReadyH.nil
                  go_simp
                  (go_at_call 42; refine (CP.out _ (by first | exact BH.out | exact BH.out.drew)).mono ?_; rintro e9 w9 ⟨rfl, b9⟩; (try replace b9 := undrewX b9); have XH := Lib.hid (XH.out.later b9); obtain ⟨X_0, X_1, X_2, X_3, X_4, X_5, X_6, X_7, X_8, X_9, X_10, X_11⟩ := c12 XH.out; have BH := Lib.hid (chainX _ BH.out b9); clear b9)
                  (try go_wp2_with fail)
                  refine hK.out _ _ ?_ (fun hHeld2 => ?_)
                  · (try dsimp only); go_keep
                  clear hK K
                  try simp only [Act.put, ya, yb, yc, yd, ye, yf]
                  refine tj 3 rfl ?_
                  try simp only [Act.put, ya, yb, yc, yd, ye, yf]
                  refine tj 4 rfl ?_
                  try simp only [Act.put, ya, yb, yc, yd, ye, yf]
                  refine tj 5 rfl ?_
                  try simp only [Act.put, ya, yb, yc, yd, ye, yf]
                  refine wpAnyH_ready (rs := [6]) (by kernel_rfl) (by simp) ?_
                  refine AllReadyH.cons rfl (fun K hK => ?_) AllReadyH.nil
                  go_simp
                  (go_at_call 43; refine (CS.out _ (by first | exact BH.out | exact BH.out.drew)).mono ?_; rintro e9 w9 ⟨rfl, b9⟩; (try replace b9 := undrewX b9); have XH := Lib.hid (XH.out.later b9); obtain ⟨X_0, X_1, X_2, X_3, X_4, X_5, X_6, X_7, X_8, X_9, X_10, X_11⟩ := c12 XH.out; have BH := Lib.hid (chainX _ BH.out b9); clear b9)
                  (try go_wp2_with fail)
                  refine hK.out _ _ ?_ (fun hHeld6 => ?_)
                  · (try dsimp only); go_keep
                  clear hK K
                  try simp only [Act.put, ya, yb, yc, yd, ye, yf]
                  refine tj 7 rfl ?_
                  try simp only [Act.put, ya, yb, yc, yd, ye, yf]
                  refine tj 8 rfl ?_
                  try simp only [Act.put, ya, yb, yc, yd, ye, yf]
                  refine tj 9 rfl ?_
                  try simp only [Act.put, ya, yb, yc, yd, ye, yf]
                  refine tj 10 rfl ?_
                  try simp only [Act.put, ya, yb, yc, yd, ye, yf]
                  refine tj 11 rfl ?_
                  try simp only [Act.put, ya, yb, yc, yd, ye, yf]
                  refine tj 12 rfl ?_
                  try simp only [Act.put, ya, yb, yc, yd, ye, yf]
                  refine wpAnyH_ready (rs := [13]) (by kernel_rfl) (by simp) ?_
                  refine AllReadyH.cons rfl (fun K hK => ?_) AllReadyH.nil
                  go_simp
                  (go_at_call 43; refine (CB.out _ (by first | exact BH.out | exact BH.out.drew)).mono ?_; rintro e9 w9 ⟨rfl, b9⟩; (try replace b9 := undrewX b9); have XH := Lib.hid (XH.out.later b9); obtain ⟨X_0, X_1, X_2, X_3, X_4, X_5, X_6, X_7, X_8, X_9, X_10, X_11⟩ := c12 XH.out; have BH := Lib.hid (chainX _ BH.out b9); clear b9)
                  (try go_wp2_with fail)
                  refine hK.out _ _ ?_ (fun hHeld13 => ?_)
                  · (try dsimp only); go_keep
                  clear hK K
                  try simp only [Act.put, ya, yb, yc, yd, ye, yf]
                  refine tj 14 rfl ?_
                  try simp only [Act.put, ya, yb, yc, yd, ye, yf]
                  refine tj 15 rfl ?_
                  try simp only [Act.put, ya, yb, yc, yd, ye, yf]
                  refine tj 16 rfl ?_
                  try simp only [Act.put, ya, yb, yc, yd, ye, yf]
                  refine wpAnyH_ready (rs := [17]) (by kernel_rfl) (by simp) ?_
                  refine AllReadyH.cons rfl (fun K hK => ?_) AllReadyH.nil
                  go_simp
                  (go_at_call 44; refine (CT.out _ (by first | exact BH.out | exact BH.out.drew)).mono ?_; rintro e9 w9 ⟨rfl, b9⟩; (try replace b9 := undrewX b9); have XH := Lib.hid (XH.out.later b9); obtain ⟨X_0, X_1, X_2, X_3, X_4, X_5, X_6, X_7, X_8, X_9, X_10, X_11⟩ := c12 XH.out; have BH := Lib.hid (chainX _ BH.out b9); clear b9)
                  (try go_wp2_with fail)
                  refine hK.out _ _ ?_ (fun hHeld17 => ?_)
                  · (try dsimp only); go_keep
                  clear hK K
                  try simp only [Act.put, ya, yb, yc, yd, ye, yf]
                  refine tj 18 rfl ?_
                  try simp only [Act.put, ya, yb, yc, yd, ye, yf]
                  refine tj 19 rfl ?_
                  try simp only [Act.put, ya, yb, yc, yd, ye, yf]
                  refine tj 20 rfl ?_
                  try simp only [Act.put, ya, yb, yc, yd, ye, yf]
                  refine wpAnyH_ready (rs := [21]) (by kernel_rfl) (by simp) ?_
                  refine AllReadyH.cons rfl (fun K hK => ?_) AllReadyH.nil
                  go_simp
                  (go_at_call 45; refine (CL.out _ (by first | exact BH.out | exact BH.out.drew)).mono ?_; rintro e9 w9 ⟨rfl, b9⟩; (try replace b9 := undrewX b9); have XH := Lib.hid (XH.out.later b9); obtain ⟨X_0, X_1, X_2, X_3, X_4, X_5, X_6, X_7, X_8, X_9, X_10, X_11⟩ := c12 XH.out; have BH := Lib.hid (chainX _ BH.out b9); clear b9)
                  (try go_wp2_with fail)
                  refine hK.out _ _ ?_ (fun hHeld21 => ?_)
                  · (try dsimp only); go_keep
                  clear hK K
                  try simp only [Act.put, ya, yb, yc, yd, ye, yf]
                  refine tj 22 rfl ?_
                  try simp only [Act.put, ya, yb, yc, yd, ye, yf]
                  refine tj 23 rfl ?_
                  try simp only [Act.put, ya, yb, yc, yd, ye, yf]
                  refine tj 24 rfl ?_
                  try simp only [Act.put, ya, yb, yc, yd, ye, yf]
                  refine tj 25 rfl ?_
                  try simp only [Act.put, ya, yb, yc, yd, ye, yf]
                  refine wpAnyH_ready (rs := [26]) (by kernel_rfl) (by simp) ?_
                  refine AllReadyH.cons rfl (fun K hK => ?_) AllReadyH.nil
                  go_simp
                  (go_at_call 46; refine (CF.out _ (by first | exact BH.out | exact BH.out.drew)).mono ?_; rintro e9 w9 ⟨rfl, b9⟩; (try replace b9 := undrewX b9); have XH := Lib.hid (XH.out.later b9); obtain ⟨X_0, X_1, X_2, X_3, X_4, X_5, X_6, X_7, X_8, X_9, X_10, X_11⟩ := c12 XH.out; have BH := Lib.hid (chainX _ BH.out b9); clear b9)
                  (try go_wp2_with fail)
                  refine hK.out _ _ ?_ (fun hHeld26 => ?_)
                  · (try dsimp only); go_keep
                  clear hK K
                  try simp only [Act.put, ya, yb, yc, yd, ye, yf]
                  refine tj 27 rfl ?_
                  try simp only [Act.put, ya, yb, yc, yd, ye, yf]
                  refine tj 28 rfl ?_
                  try simp only [Act.put, ya, yb, yc, yd, ye, yf]
                  refine tj 29 rfl ?_
                  try simp only [Act.put, ya, yb, yc, yd, ye, yf]
                  refine tj 31 rfl ?_
                  try simp only [Act.put, ya, yb, yc, yd, ye, yf]
                  refine tj 32 rfl ?_
                  try simp only [Act.put, ya, yb, yc, yd, ye, yf]
                  refine wpAnyH_ready (rs := [30]) (by kernel_rfl) (by simp) ?_
                  refine AllReadyH.cons rfl (fun K hK => ?_) AllReadyH.nil
                  go_simp
                  (go_at_call 48; refine (CLa.out _ (by first | exact BH.out | exact BH.out.drew)).mono ?_; rintro e9 w9 ⟨rfl, b9⟩; (try replace b9 := undrewX b9); have XH := Lib.hid (XH.out.later b9); obtain ⟨X_0, X_1, X_2, X_3, X_4, X_5, X_6, X_7, X_8, X_9, X_10, X_11⟩ := c12 XH.out; have BH := Lib.hid (chainX _ BH.out b9); clear b9)
                  (try go_wp2_with fail)
                  refine hK.out _ _ ?_ (fun hHeld30 => ?_)
                  · (try dsimp only); go_keep
                  clear hK K
                  try simp only [Act.put, ya, yb, yc, yd, ye, yf]
                  refine wpAnyH_ready (rs := [33]) (by kernel_rfl) (by simp) ?_
                  refine AllReadyH.cons rfl (fun K hK => ?_) AllReadyH.nil
                  go_simp
                  (go_at_call 47; refine (CVL.out _ (by first | exact BH.out | exact BH.out.drew)).mono ?_; rintro e9 w9 ⟨rfl, b9⟩; (try replace b9 := undrewX b9); have XH := Lib.hid (XH.out.later b9); obtain ⟨X_0, X_1, X_2, X_3, X_4, X_5, X_6, X_7, X_8, X_9, X_10, X_11⟩ := c12 XH.out; have BH := Lib.hid (chainX _ BH.out b9); clear b9)
                  (try go_wp2_with fail)
                  refine hK.out _ _ ?_ (fun hHeld33 => ?_)
                  · (try dsimp only); go_keep
                  clear hK K
                  try simp only [Act.put, ya, yb, yc, yd, ye, yf]
                  refine tj 34 rfl ?_
                  try simp only [Act.put, ya, yb, yc, yd, ye, yf]
                  refine tj 35 rfl ?_
                  try simp only [Act.put, ya, yb, yc, yd, ye, yf]
                  refine tj 36 rfl ?_
                  try simp only [Act.put, ya, yb, yc, yd, ye, yf]
                  refine tj 37 rfl ?_
                  try simp only [Act.put, ya, yb, yc, yd, ye, yf]
                  refine wpAnyH_ready (rs := [38]) (by kernel_rfl) (by simp) ?_
                  refine AllReadyH.cons rfl (fun K hK => ?_) AllReadyH.nil
                  go_simp
                  (go_at_call 49; refine (CC.out _ (by first | exact BH.out | exact BH.out.drew)).mono ?_; rintro e9 w9 ⟨rfl, b9⟩; (try replace b9 := undrewX b9); have XH := Lib.hid (XH.out.later b9); obtain ⟨X_0, X_1, X_2, X_3, X_4, X_5, X_6, X_7, X_8, X_9, X_10, X_11⟩ := c12 XH.out; have BH := Lib.hid (chainX _ BH.out b9); clear b9)
                  (try go_wp2_with fail)
                  refine hK.out _ _ ?_ (fun hHeld38 => ?_)
                  · (try dsimp only); go_keep
                  clear hK K
                  try simp only [Act.put, ya, yb, yc, yd, ye, yf]
                  refine tj 39 rfl ?_
                  try simp only [Act.put, ya, yb, yc, yd, ye, yf]
                  refine tj 40 rfl ?_
                  try simp only [Act.put, ya, yb, yc, yd, ye, yf]
                  refine wpAnyH_done (by kernel_rfl) ?_ _
                  refine NoPanic.normal ?_
                  go_wp2
                  go_ret
                  exact ⟨rfl, chainX w LY.out BH.out⟩
                · skip
                  simp only [Bool.false_and, Bool.and_false, Bool.true_and, Bool.and_true, Bool.false_or, Bool.or_false, Bool.true_or, Bool.or_true, Bool.not_true, Bool.not_false, if_true, if_false, Bool.false_eq_true, reduceIte] at hv
                  subst hv
                  go_enter Tryz.func10, Tryz.ntmps10
                  go_wp2
                  refine wp_region_noPanic ?_
                  refine wp_region_held_drew (S := (fun w' => w'.cell? ⟨w.heap.size, 0, none⟩ = some (.int .i64 d.pg.pool) ∧ w'.cell? ⟨w.heap.size, 1, none⟩ = some (.int .i64 d.pg.no) ∧ w'.cell? ⟨w.heap.size, 2, none⟩ = some (.int .i64 d.seen) ∧ w'.cell? ⟨w.heap.size, 3, none⟩ = some (.int .i64 d.started) ∧ w'.cell? ⟨w.heap.size, 4, none⟩ = some (.int .i64 d.tail.epoch) ∧ w'.cell? ⟨w.heap.size, 5, none⟩ = some (.int .i64 d.tail.seq) ∧ w'.cell? ⟨w.heap.size, 6, none⟩ = some (.slice a6 d.base.length c6) ∧ w'.cell? ⟨w.heap.size, 7, none⟩ = some (.slice a7 d.clients.length c7) ∧ w'.cell? ⟨w.heap.size, 8, none⟩ = some (.slice a8 d.log.length c8) ∧ w'.cell? ⟨w.heap.size, 9, none⟩ = some (.int .i64 d.firm.epoch) ∧ w'.cell? ⟨w.heap.size, 10, none⟩ = some (.int .i64 d.firm.seq) ∧ w'.cell? ⟨w.heap.size, 11, none⟩ = some (.slice a11 d.chunks.length c11))) (by kernel_rfl) ?_ (fun hHeld => ?_)
                  · go_keep
                  refine tj 0 rfl ?_
                  try simp only [Act.put, ya, yb, yc, yd, ye, yf]
                  refine tj 1 rfl ?_
                  try simp only [Act.put, ya, yb, yc, yd, ye, yf]
                  refine wpAnyH_ready (rs := [2]) (by kernel_rfl) (by simp) ?_
                  refine AllReadyH.cons rfl (fun K hK => ?_) AllReadyH.nil
                  go_simp
                  (go_at_call 42; refine (CP.out _ (by first | exact BH.out | exact BH.out.drew)).mono ?_; rintro e9 w9 ⟨rfl, b9⟩; (try replace b9 := undrewX b9); have XH := Lib.hid (XH.out.later b9); obtain ⟨X_0, X_1, X_2, X_3, X_4, X_5, X_6, X_7, X_8, X_9, X_10, X_11⟩ := c12 XH.out; have BH := Lib.hid (chainX _ BH.out b9); clear b9)
                  (try go_wp2_with fail)
                  refine hK.out _ _ ?_ (fun hHeld2 => ?_)
                  · (try dsimp only); go_keep
                  clear hK K
                  try simp only [Act.put, ya, yb, yc, yd, ye, yf]
                  refine tj 3 rfl ?_
                  try simp only [Act.put, ya, yb, yc, yd, ye, yf]
                  refine tj 4 rfl ?_
                  try simp only [Act.put, ya, yb, yc, yd, ye, yf]
                  refine tj 5 rfl ?_
                  try simp only [Act.put, ya, yb, yc, yd, ye, yf]
                  refine wpAnyH_ready (rs := [6]) (by kernel_rfl) (by simp) ?_
                  refine AllReadyH.cons rfl (fun K hK => ?_) AllReadyH.nil
                  go_simp
                  (go_at_call 43; refine (CS.out _ (by first | exact BH.out | exact BH.out.drew)).mono ?_; rintro e9 w9 ⟨rfl, b9⟩; (try replace b9 := undrewX b9); have XH := Lib.hid (XH.out.later b9); obtain ⟨X_0, X_1, X_2, X_3, X_4, X_5, X_6, X_7, X_8, X_9, X_10, X_11⟩ := c12 XH.out; have BH := Lib.hid (chainX _ BH.out b9); clear b9)
                  (try go_wp2_with fail)
                  refine hK.out _ _ ?_ (fun hHeld6 => ?_)
                  · (try dsimp only); go_keep
                  clear hK K
                  try simp only [Act.put, ya, yb, yc, yd, ye, yf]
                  refine tj 7 rfl ?_
                  try simp only [Act.put, ya, yb, yc, yd, ye, yf]
                  refine tj 8 rfl ?_
                  try simp only [Act.put, ya, yb, yc, yd, ye, yf]
                  refine tj 9 rfl ?_
                  try simp only [Act.put, ya, yb, yc, yd, ye, yf]
                  refine tj 10 rfl ?_
                  try simp only [Act.put, ya, yb, yc, yd, ye, yf]
                  refine tj 11 rfl ?_
                  try simp only [Act.put, ya, yb, yc, yd, ye, yf]
                  refine tj 12 rfl ?_
                  try simp only [Act.put, ya, yb, yc, yd, ye, yf]
                  refine wpAnyH_ready (rs := [13]) (by kernel_rfl) (by simp) ?_
                  refine AllReadyH.cons rfl (fun K hK => ?_) AllReadyH.nil
                  go_simp
                  (go_at_call 43; refine (CB.out _ (by first | exact BH.out | exact BH.out.drew)).mono ?_; rintro e9 w9 ⟨rfl, b9⟩; (try replace b9 := undrewX b9); have XH := Lib.hid (XH.out.later b9); obtain ⟨X_0, X_1, X_2, X_3, X_4, X_5, X_6, X_7, X_8, X_9, X_10, X_11⟩ := c12 XH.out; have BH := Lib.hid (chainX _ BH.out b9); clear b9)
                  (try go_wp2_with fail)
                  refine hK.out _ _ ?_ (fun hHeld13 => ?_)
                  · (try dsimp only); go_keep
                  clear hK K
                  try simp only [Act.put, ya, yb, yc, yd, ye, yf]
                  refine tj 14 rfl ?_
                  try simp only [Act.put, ya, yb, yc, yd, ye, yf]
                  refine tj 15 rfl ?_
                  try simp only [Act.put, ya, yb, yc, yd, ye, yf]
                  refine tj 16 rfl ?_
                  try simp only [Act.put, ya, yb, yc, yd, ye, yf]
                  refine wpAnyH_ready (rs := [17]) (by kernel_rfl) (by simp) ?_
                  refine AllReadyH.cons rfl (fun K hK => ?_) AllReadyH.nil
                  go_simp
                  (go_at_call 44; refine (CT.out _ (by first | exact BH.out | exact BH.out.drew)).mono ?_; rintro e9 w9 ⟨rfl, b9⟩; (try replace b9 := undrewX b9); have XH := Lib.hid (XH.out.later b9); obtain ⟨X_0, X_1, X_2, X_3, X_4, X_5, X_6, X_7, X_8, X_9, X_10, X_11⟩ := c12 XH.out; have BH := Lib.hid (chainX _ BH.out b9); clear b9)
                  (try go_wp2_with fail)
                  refine hK.out _ _ ?_ (fun hHeld17 => ?_)
                  · (try dsimp only); go_keep
                  clear hK K
                  try simp only [Act.put, ya, yb, yc, yd, ye, yf]
                  refine tj 18 rfl ?_
                  try simp only [Act.put, ya, yb, yc, yd, ye, yf]
                  refine tj 19 rfl ?_
                  try simp only [Act.put, ya, yb, yc, yd, ye, yf]
                  refine tj 20 rfl ?_
                  try simp only [Act.put, ya, yb, yc, yd, ye, yf]
                  refine wpAnyH_ready (rs := [21]) (by kernel_rfl) (by simp) ?_
                  refine AllReadyH.cons rfl (fun K hK => ?_) AllReadyH.nil
                  go_simp
                  (go_at_call 45; refine (CL.out _ (by first | exact BH.out | exact BH.out.drew)).mono ?_; rintro e9 w9 ⟨rfl, b9⟩; (try replace b9 := undrewX b9); have XH := Lib.hid (XH.out.later b9); obtain ⟨X_0, X_1, X_2, X_3, X_4, X_5, X_6, X_7, X_8, X_9, X_10, X_11⟩ := c12 XH.out; have BH := Lib.hid (chainX _ BH.out b9); clear b9)
                  (try go_wp2_with fail)
                  refine hK.out _ _ ?_ (fun hHeld21 => ?_)
                  · (try dsimp only); go_keep
                  clear hK K
                  try simp only [Act.put, ya, yb, yc, yd, ye, yf]
                  refine tj 22 rfl ?_
                  try simp only [Act.put, ya, yb, yc, yd, ye, yf]
                  refine tj 23 rfl ?_
                  try simp only [Act.put, ya, yb, yc, yd, ye, yf]
                  refine tj 24 rfl ?_
                  try simp only [Act.put, ya, yb, yc, yd, ye, yf]
                  refine tj 25 rfl ?_
                  try simp only [Act.put, ya, yb, yc, yd, ye, yf]
                  refine wpAnyH_ready (rs := [26]) (by kernel_rfl) (by simp) ?_
                  refine AllReadyH.cons rfl (fun K hK => ?_) AllReadyH.nil
                  go_simp
                  (go_at_call 46; refine (CF.out _ (by first | exact BH.out | exact BH.out.drew)).mono ?_; rintro e9 w9 ⟨rfl, b9⟩; (try replace b9 := undrewX b9); have XH := Lib.hid (XH.out.later b9); obtain ⟨X_0, X_1, X_2, X_3, X_4, X_5, X_6, X_7, X_8, X_9, X_10, X_11⟩ := c12 XH.out; have BH := Lib.hid (chainX _ BH.out b9); clear b9)
                  (try go_wp2_with fail)
                  refine hK.out _ _ ?_ (fun hHeld26 => ?_)
                  · (try dsimp only); go_keep
                  clear hK K
                  try simp only [Act.put, ya, yb, yc, yd, ye, yf]
                  refine tj 27 rfl ?_
                  try simp only [Act.put, ya, yb, yc, yd, ye, yf]
                  refine tj 28 rfl ?_
                  try simp only [Act.put, ya, yb, yc, yd, ye, yf]
                  refine tj 29 rfl ?_
                  try simp only [Act.put, ya, yb, yc, yd, ye, yf]
                  refine tj 31 rfl ?_
                  try simp only [Act.put, ya, yb, yc, yd, ye, yf]
                  refine tj 32 rfl ?_
                  try simp only [Act.put, ya, yb, yc, yd, ye, yf]
                  refine wpAnyH_ready (rs := [30]) (by kernel_rfl) (by simp) ?_
                  refine AllReadyH.cons rfl (fun K hK => ?_) AllReadyH.nil
                  go_simp
                  (go_at_call 48; refine (CLa.out _ (by first | exact BH.out | exact BH.out.drew)).mono ?_; rintro e9 w9 ⟨rfl, b9⟩; (try replace b9 := undrewX b9); have XH := Lib.hid (XH.out.later b9); obtain ⟨X_0, X_1, X_2, X_3, X_4, X_5, X_6, X_7, X_8, X_9, X_10, X_11⟩ := c12 XH.out; have BH := Lib.hid (chainX _ BH.out b9); clear b9)
                  (try go_wp2_with fail)
                  refine hK.out _ _ ?_ (fun hHeld30 => ?_)
                  · (try dsimp only); go_keep
                  clear hK K
                  try simp only [Act.put, ya, yb, yc, yd, ye, yf]
                  refine wpAnyH_ready (rs := [33]) (by kernel_rfl) (by simp) ?_
                  refine AllReadyH.cons rfl (fun K hK => ?_) AllReadyH.nil
                  go_simp
                  (go_at_call 47; refine (CVL.out _ (by first | exact BH.out | exact BH.out.drew)).mono ?_; rintro e9 w9 ⟨rfl, b9⟩; (try replace b9 := undrewX b9); have XH := Lib.hid (XH.out.later b9); obtain ⟨X_0, X_1, X_2, X_3, X_4, X_5, X_6, X_7, X_8, X_9, X_10, X_11⟩ := c12 XH.out; have BH := Lib.hid (chainX _ BH.out b9); clear b9)
                  (try go_wp2_with fail)
                  refine hK.out _ _ ?_ (fun hHeld33 => ?_)
                  · (try dsimp only); go_keep
                  clear hK K
                  try simp only [Act.put, ya, yb, yc, yd, ye, yf]
                  refine tj 34 rfl ?_
                  try simp only [Act.put, ya, yb, yc, yd, ye, yf]
                  refine tj 35 rfl ?_
                  try simp only [Act.put, ya, yb, yc, yd, ye, yf]
                  refine tj 36 rfl ?_
                  try simp only [Act.put, ya, yb, yc, yd, ye, yf]
                  refine tj 37 rfl ?_
                  try simp only [Act.put, ya, yb, yc, yd, ye, yf]
                  refine wpAnyH_ready (rs := [38]) (by kernel_rfl) (by simp) ?_
                  refine AllReadyH.cons rfl (fun K hK => ?_) AllReadyH.nil
                  go_simp
                  (go_at_call 49; refine (CC.out _ (by first | exact BH.out | exact BH.out.drew)).mono ?_; rintro e9 w9 ⟨rfl, b9⟩; (try replace b9 := undrewX b9); have XH := Lib.hid (XH.out.later b9); obtain ⟨X_0, X_1, X_2, X_3, X_4, X_5, X_6, X_7, X_8, X_9, X_10, X_11⟩ := c12 XH.out; have BH := Lib.hid (chainX _ BH.out b9); clear b9)
                  (try go_wp2_with fail)
                  refine hK.out _ _ ?_ (fun hHeld38 => ?_)
                  · (try dsimp only); go_keep
                  clear hK K
                  try simp only [Act.put, ya, yb, yc, yd, ye, yf]
                  refine tj 39 rfl ?_
                  try simp only [Act.put, ya, yb, yc, yd, ye, yf]
                  refine tj 40 rfl ?_
                  try simp only [Act.put, ya, yb, yc, yd, ye, yf]
                  refine wpAnyH_done (by kernel_rfl) ?_ _
                  refine NoPanic.normal ?_
                  go_wp2
                  go_ret
                  exact ⟨rfl, chainX w LY.out BH.out⟩
              · skip
                simp only [Bool.false_and, Bool.and_false, Bool.true_and, Bool.and_true, Bool.false_or, Bool.or_false, Bool.true_or, Bool.or_true, Bool.not_true, Bool.not_false, if_true, if_false, Bool.false_eq_true, reduceIte] at hv
                subst hv
                go_enter Tryz.func10, Tryz.ntmps10
                go_wp2
                refine wp_region_noPanic ?_
                refine wp_region_held_drew (S := (fun w' => w'.cell? ⟨w.heap.size, 0, none⟩ = some (.int .i64 d.pg.pool) ∧ w'.cell? ⟨w.heap.size, 1, none⟩ = some (.int .i64 d.pg.no) ∧ w'.cell? ⟨w.heap.size, 2, none⟩ = some (.int .i64 d.seen) ∧ w'.cell? ⟨w.heap.size, 3, none⟩ = some (.int .i64 d.started) ∧ w'.cell? ⟨w.heap.size, 4, none⟩ = some (.int .i64 d.tail.epoch) ∧ w'.cell? ⟨w.heap.size, 5, none⟩ = some (.int .i64 d.tail.seq) ∧ w'.cell? ⟨w.heap.size, 6, none⟩ = some (.slice a6 d.base.length c6) ∧ w'.cell? ⟨w.heap.size, 7, none⟩ = some (.slice a7 d.clients.length c7) ∧ w'.cell? ⟨w.heap.size, 8, none⟩ = some (.slice a8 d.log.length c8) ∧ w'.cell? ⟨w.heap.size, 9, none⟩ = some (.int .i64 d.firm.epoch) ∧ w'.cell? ⟨w.heap.size, 10, none⟩ = some (.int .i64 d.firm.seq) ∧ w'.cell? ⟨w.heap.size, 11, none⟩ = some (.slice a11 d.chunks.length c11))) (by kernel_rfl) ?_ (fun hHeld => ?_)
                · go_keep
                refine tj 0 rfl ?_
                try simp only [Act.put, ya, yb, yc, yd, ye, yf]
                refine tj 1 rfl ?_
                try simp only [Act.put, ya, yb, yc, yd, ye, yf]
                refine wpAnyH_ready (rs := [2]) (by kernel_rfl) (by simp) ?_
                refine AllReadyH.cons rfl (fun K hK => ?_) AllReadyH.nil
                go_simp
                (go_at_call 42; refine (CP.out _ (by first | exact BH.out | exact BH.out.drew)).mono ?_; rintro e9 w9 ⟨rfl, b9⟩; (try replace b9 := undrewX b9); have XH := Lib.hid (XH.out.later b9); obtain ⟨X_0, X_1, X_2, X_3, X_4, X_5, X_6, X_7, X_8, X_9, X_10, X_11⟩ := c12 XH.out; have BH := Lib.hid (chainX _ BH.out b9); clear b9)
                (try go_wp2_with fail)
                refine hK.out _ _ ?_ (fun hHeld2 => ?_)
                · (try dsimp only); go_keep
                clear hK K
                try simp only [Act.put, ya, yb, yc, yd, ye, yf]
                refine tj 3 rfl ?_
                try simp only [Act.put, ya, yb, yc, yd, ye, yf]
                refine tj 4 rfl ?_
                try simp only [Act.put, ya, yb, yc, yd, ye, yf]
                refine tj 5 rfl ?_
                try simp only [Act.put, ya, yb, yc, yd, ye, yf]
                refine wpAnyH_ready (rs := [6]) (by kernel_rfl) (by simp) ?_
                refine AllReadyH.cons rfl (fun K hK => ?_) AllReadyH.nil
                go_simp
                (go_at_call 43; refine (CS.out _ (by first | exact BH.out | exact BH.out.drew)).mono ?_; rintro e9 w9 ⟨rfl, b9⟩; (try replace b9 := undrewX b9); have XH := Lib.hid (XH.out.later b9); obtain ⟨X_0, X_1, X_2, X_3, X_4, X_5, X_6, X_7, X_8, X_9, X_10, X_11⟩ := c12 XH.out; have BH := Lib.hid (chainX _ BH.out b9); clear b9)
                (try go_wp2_with fail)
                refine hK.out _ _ ?_ (fun hHeld6 => ?_)
                · (try dsimp only); go_keep
                clear hK K
                try simp only [Act.put, ya, yb, yc, yd, ye, yf]
                refine tj 7 rfl ?_
                try simp only [Act.put, ya, yb, yc, yd, ye, yf]
                refine tj 8 rfl ?_
                try simp only [Act.put, ya, yb, yc, yd, ye, yf]
                refine tj 9 rfl ?_
                try simp only [Act.put, ya, yb, yc, yd, ye, yf]
                refine tj 10 rfl ?_
                try simp only [Act.put, ya, yb, yc, yd, ye, yf]
                refine tj 11 rfl ?_
                try simp only [Act.put, ya, yb, yc, yd, ye, yf]
                refine tj 12 rfl ?_
                try simp only [Act.put, ya, yb, yc, yd, ye, yf]
                refine wpAnyH_ready (rs := [13]) (by kernel_rfl) (by simp) ?_
                refine AllReadyH.cons rfl (fun K hK => ?_) AllReadyH.nil
                go_simp
                (go_at_call 43; refine (CB.out _ (by first | exact BH.out | exact BH.out.drew)).mono ?_; rintro e9 w9 ⟨rfl, b9⟩; (try replace b9 := undrewX b9); have XH := Lib.hid (XH.out.later b9); obtain ⟨X_0, X_1, X_2, X_3, X_4, X_5, X_6, X_7, X_8, X_9, X_10, X_11⟩ := c12 XH.out; have BH := Lib.hid (chainX _ BH.out b9); clear b9)
                (try go_wp2_with fail)
                refine hK.out _ _ ?_ (fun hHeld13 => ?_)
                · (try dsimp only); go_keep
                clear hK K
                try simp only [Act.put, ya, yb, yc, yd, ye, yf]
                refine tj 14 rfl ?_
                try simp only [Act.put, ya, yb, yc, yd, ye, yf]
                refine tj 15 rfl ?_
                try simp only [Act.put, ya, yb, yc, yd, ye, yf]
                refine tj 16 rfl ?_
                try simp only [Act.put, ya, yb, yc, yd, ye, yf]
                refine wpAnyH_ready (rs := [17]) (by kernel_rfl) (by simp) ?_
                refine AllReadyH.cons rfl (fun K hK => ?_) AllReadyH.nil
                go_simp
                (go_at_call 44; refine (CT.out _ (by first | exact BH.out | exact BH.out.drew)).mono ?_; rintro e9 w9 ⟨rfl, b9⟩; (try replace b9 := undrewX b9); have XH := Lib.hid (XH.out.later b9); obtain ⟨X_0, X_1, X_2, X_3, X_4, X_5, X_6, X_7, X_8, X_9, X_10, X_11⟩ := c12 XH.out; have BH := Lib.hid (chainX _ BH.out b9); clear b9)
                (try go_wp2_with fail)
                refine hK.out _ _ ?_ (fun hHeld17 => ?_)
                · (try dsimp only); go_keep
                clear hK K
                try simp only [Act.put, ya, yb, yc, yd, ye, yf]
                refine tj 18 rfl ?_
                try simp only [Act.put, ya, yb, yc, yd, ye, yf]
                refine tj 19 rfl ?_
                try simp only [Act.put, ya, yb, yc, yd, ye, yf]
                refine tj 20 rfl ?_
                try simp only [Act.put, ya, yb, yc, yd, ye, yf]
                refine wpAnyH_ready (rs := [21]) (by kernel_rfl) (by simp) ?_
                refine AllReadyH.cons rfl (fun K hK => ?_) AllReadyH.nil
                go_simp
                (go_at_call 45; refine (CL.out _ (by first | exact BH.out | exact BH.out.drew)).mono ?_; rintro e9 w9 ⟨rfl, b9⟩; (try replace b9 := undrewX b9); have XH := Lib.hid (XH.out.later b9); obtain ⟨X_0, X_1, X_2, X_3, X_4, X_5, X_6, X_7, X_8, X_9, X_10, X_11⟩ := c12 XH.out; have BH := Lib.hid (chainX _ BH.out b9); clear b9)
                (try go_wp2_with fail)
                refine hK.out _ _ ?_ (fun hHeld21 => ?_)
                · (try dsimp only); go_keep
                clear hK K
                try simp only [Act.put, ya, yb, yc, yd, ye, yf]
                refine tj 22 rfl ?_
                try simp only [Act.put, ya, yb, yc, yd, ye, yf]
                refine tj 23 rfl ?_
                try simp only [Act.put, ya, yb, yc, yd, ye, yf]
                refine tj 24 rfl ?_
                try simp only [Act.put, ya, yb, yc, yd, ye, yf]
                refine tj 25 rfl ?_
                try simp only [Act.put, ya, yb, yc, yd, ye, yf]
                refine wpAnyH_ready (rs := [26]) (by kernel_rfl) (by simp) ?_
                refine AllReadyH.cons rfl (fun K hK => ?_) AllReadyH.nil
                go_simp
                (go_at_call 46; refine (CF.out _ (by first | exact BH.out | exact BH.out.drew)).mono ?_; rintro e9 w9 ⟨rfl, b9⟩; (try replace b9 := undrewX b9); have XH := Lib.hid (XH.out.later b9); obtain ⟨X_0, X_1, X_2, X_3, X_4, X_5, X_6, X_7, X_8, X_9, X_10, X_11⟩ := c12 XH.out; have BH := Lib.hid (chainX _ BH.out b9); clear b9)
                (try go_wp2_with fail)
                refine hK.out _ _ ?_ (fun hHeld26 => ?_)
                · (try dsimp only); go_keep
                clear hK K
                try simp only [Act.put, ya, yb, yc, yd, ye, yf]
                refine tj 27 rfl ?_
                try simp only [Act.put, ya, yb, yc, yd, ye, yf]
                refine tj 28 rfl ?_
                try simp only [Act.put, ya, yb, yc, yd, ye, yf]
                refine tj 29 rfl ?_
                try simp only [Act.put, ya, yb, yc, yd, ye, yf]
                refine tj 31 rfl ?_
                try simp only [Act.put, ya, yb, yc, yd, ye, yf]
                refine tj 32 rfl ?_
                try simp only [Act.put, ya, yb, yc, yd, ye, yf]
                refine wpAnyH_ready (rs := [30]) (by kernel_rfl) (by simp) ?_
                refine AllReadyH.cons rfl (fun K hK => ?_) AllReadyH.nil
                go_simp
                (go_at_call 48; refine (CLa.out _ (by first | exact BH.out | exact BH.out.drew)).mono ?_; rintro e9 w9 ⟨rfl, b9⟩; (try replace b9 := undrewX b9); have XH := Lib.hid (XH.out.later b9); obtain ⟨X_0, X_1, X_2, X_3, X_4, X_5, X_6, X_7, X_8, X_9, X_10, X_11⟩ := c12 XH.out; have BH := Lib.hid (chainX _ BH.out b9); clear b9)
                (try go_wp2_with fail)
                refine hK.out _ _ ?_ (fun hHeld30 => ?_)
                · (try dsimp only); go_keep
                clear hK K
                try simp only [Act.put, ya, yb, yc, yd, ye, yf]
                refine wpAnyH_ready (rs := [33]) (by kernel_rfl) (by simp) ?_
                refine AllReadyH.cons rfl (fun K hK => ?_) AllReadyH.nil
                go_simp
                (go_at_call 47; refine (CVL.out _ (by first | exact BH.out | exact BH.out.drew)).mono ?_; rintro e9 w9 ⟨rfl, b9⟩; (try replace b9 := undrewX b9); have XH := Lib.hid (XH.out.later b9); obtain ⟨X_0, X_1, X_2, X_3, X_4, X_5, X_6, X_7, X_8, X_9, X_10, X_11⟩ := c12 XH.out; have BH := Lib.hid (chainX _ BH.out b9); clear b9)
                (try go_wp2_with fail)
                refine hK.out _ _ ?_ (fun hHeld33 => ?_)
                · (try dsimp only); go_keep
                clear hK K
                try simp only [Act.put, ya, yb, yc, yd, ye, yf]
                refine tj 34 rfl ?_
                try simp only [Act.put, ya, yb, yc, yd, ye, yf]
                refine tj 35 rfl ?_
                try simp only [Act.put, ya, yb, yc, yd, ye, yf]
                refine tj 36 rfl ?_
                try simp only [Act.put, ya, yb, yc, yd, ye, yf]
                refine tk 37 (v := undef) rfl (Or.inr ⟨by kernel_rfl, rfl⟩) (by assumption) ?_
                try simp only [Act.put, ya, yb, yc, yd, ye, yf]
                refine tk 38 (v := undef) rfl (Or.inr ⟨by kernel_rfl, rfl⟩) (by assumption) ?_
                try simp only [Act.put, ya, yb, yc, yd, ye, yf]
                refine tj 39 rfl ?_
                try simp only [Act.put, ya, yb, yc, yd, ye, yf]
                refine tj 40 rfl ?_
                try simp only [Act.put, ya, yb, yc, yd, ye, yf]
                refine wpAnyH_done (by kernel_rfl) ?_ _
                refine NoPanic.normal ?_
                go_wp2
                go_ret
                exact ⟨rfl, chainX w LY.out BH.out⟩
set_option maxRecDepth 100000 in
set_option maxHeartbeats 4000000 in
theorem implLastOf (d : DPgState) {a6 a7 a8 a11 : Option Addr} {c6 c7 c8 c11 : Nat} (w : World) (l6 : d.base.length ≤ 2097152) (l7 : d.clients.length ≤ 2097152) (l8 : d.log.length ≤ 2097152) (l11 : d.chunks.length ≤ 2097152) (g8 : d.log.length ≤ c8) {fr : Bool} {lo : Nat} (r6 : Rows fr lo w a6 d.base) (r7 : Rows fr lo w a7 d.clients) (r8 : Rows fr lo w a8 d.log) (r11 : Rows fr lo w a11 d.chunks) (hT : Nam.Tabs w) (r : DVer) (hr : (StP d → r = lastV d) ∧ (¬ StP d → r = ⟨0, 0⟩)) : Calls Tryz.prog 13 #[.agg #[.int .i64 d.pg.pool, .int .i64 d.pg.no, .int .i64 d.seen, .int .i64 d.started, .int .i64 d.tail.epoch, .int .i64 d.tail.seq, .slice a6 d.base.length c6, .slice a7 d.clients.length c7, .slice a8 d.log.length c8, .int .i64 d.firm.epoch, .int .i64 d.firm.seq, .slice a11 d.chunks.length c11]] w (RetW (.agg #[.int .i64 r.epoch, .int .i64 r.seq]) w) := by
  have Z := chainX w (lay w (.cells #[.int .i64 d.pg.pool, .int .i64 d.pg.no, .int .i64 d.seen, .int .i64 d.started, .int .i64 d.tail.epoch, .int .i64 d.tail.seq, .slice a6 d.base.length c6, .slice a7 d.clients.length c7, .slice a8 d.log.length c8, .int .i64 d.firm.epoch, .int .i64 d.firm.seq, .slice a11 d.chunks.length c11] 41)) (lay (w.alloc (.cells #[.int .i64 d.pg.pool, .int .i64 d.pg.no, .int .i64 d.seen, .int .i64 d.started, .int .i64 d.tail.epoch, .int .i64 d.tail.seq, .slice a6 d.base.length c6, .slice a7 d.clients.length c7, .slice a8 d.log.length c8, .int .i64 d.firm.epoch, .int .i64 d.firm.seq, .slice a11 d.chunks.length c11] 41)) (.cells #[.int .i64 0, .int .i64 0] 35))
  have ZW := Lib.hid Z
  have XX := (BxN.new w #[.int .i64 d.pg.pool, .int .i64 d.pg.no, .int .i64 d.seen, .int .i64 d.started, .int .i64 d.tail.epoch, .int .i64 d.tail.seq, .slice a6 d.base.length c6, .slice a7 d.clients.length c7, .slice a8 d.log.length c8, .int .i64 d.firm.epoch, .int .i64 d.firm.seq, .slice a11 d.chunks.length c11] 41).later (lay (w.alloc (.cells #[.int .i64 d.pg.pool, .int .i64 d.pg.no, .int .i64 d.seen, .int .i64 d.started, .int .i64 d.tail.epoch, .int .i64 d.tail.seq, .slice a6 d.base.length c6, .slice a7 d.clients.length c7, .slice a8 d.log.length c8, .int .i64 d.firm.epoch, .int .i64 d.firm.seq, .slice a11 d.chunks.length c11] 41)) (.cells #[.int .i64 0, .int .i64 0] 35))
  have X_0 := XX.cells 0 _ rfl
  have X_1 := XX.cells 1 _ rfl
  have X_2 := XX.cells 2 _ rfl
  have X_3 := XX.cells 3 _ rfl
  have X_4 := XX.cells 4 _ rfl
  have X_5 := XX.cells 5 _ rfl
  have X_6 := XX.cells 6 _ rfl
  have X_7 := XX.cells 7 _ rfl
  have X_8 := XX.cells 8 _ rfl
  have X_9 := XX.cells 9 _ rfl
  have X_10 := XX.cells 10 _ rfl
  have X_11 := XX.cells 11 _ rfl
  have XH := Lib.hid XX
  have Y0 := BxN.new (w.alloc (.cells #[.int .i64 d.pg.pool, .int .i64 d.pg.no, .int .i64 d.seen, .int .i64 d.started, .int .i64 d.tail.epoch, .int .i64 d.tail.seq, .slice a6 d.base.length c6, .slice a7 d.clients.length c7, .slice a8 d.log.length c8, .int .i64 d.firm.epoch, .int .i64 d.firm.seq, .slice a11 d.chunks.length c11] 41)) #[.int .i64 0, .int .i64 0] 35
  rw [World.size_alloc] at Y0
  have YH := Lib.hid Y0
  obtain ⟨p, e⟩ := bool_of (StP d)
  have CO := Lib.hid (fun w' (b : Below ((w.alloc (.cells #[.int .i64 d.pg.pool, .int .i64 d.pg.no, .int .i64 d.seen, .int .i64 d.started, .int .i64 d.tail.epoch, .int .i64 d.tail.seq, .slice a6 d.base.length c6, .slice a7 d.clients.length c7, .slice a8 d.log.length c8, .int .i64 d.firm.epoch, .int .i64 d.firm.seq, .slice a11 d.chunks.length c11] 41)).alloc (.cells #[.int .i64 0, .int .i64 0] 35)).heap.size ((w.alloc (.cells #[.int .i64 d.pg.pool, .int .i64 d.pg.no, .int .i64 d.seen, .int .i64 d.started, .int .i64 d.tail.epoch, .int .i64 d.tail.seq, .slice a6 d.base.length c6, .slice a7 d.clients.length c7, .slice a8 d.log.length c8, .int .i64 d.firm.epoch, .int .i64 d.firm.seq, .slice a11 d.chunks.length c11] 41)).alloc (.cells #[.int .i64 0, .int .i64 0] 35)) w') => (implStateOk d (a6 := a6) (a7 := a7) (a8 := a8) (a11 := a11) (c6 := c6) (c7 := c7) (c8 := c8) (c11 := c11) w' l6 l7 l8 l11 g8 ((r6.below Z).below b) ((r7.below Z).below b) ((r8.below Z).below b) ((r11.below Z).below b) (tabs_later (tabs_later hT Z) b)).mono (fun _ _ q => iff_ret e q))
  have CL := Lib.hid (fun w' (b : Below ((w.alloc (.cells #[.int .i64 d.pg.pool, .int .i64 d.pg.no, .int .i64 d.seen, .int .i64 d.started, .int .i64 d.tail.epoch, .int .i64 d.tail.seq, .slice a6 d.base.length c6, .slice a7 d.clients.length c7, .slice a8 d.log.length c8, .int .i64 d.firm.epoch, .int .i64 d.firm.seq, .slice a11 d.chunks.length c11] 41)).alloc (.cells #[.int .i64 0, .int .i64 0] 35)).heap.size ((w.alloc (.cells #[.int .i64 d.pg.pool, .int .i64 d.pg.no, .int .i64 d.seen, .int .i64 d.started, .int .i64 d.tail.epoch, .int .i64 d.tail.seq, .slice a6 d.base.length c6, .slice a7 d.clients.length c7, .slice a8 d.log.length c8, .int .i64 d.firm.epoch, .int .i64 d.firm.seq, .slice a11 d.chunks.length c11] 41)).alloc (.cells #[.int .i64 0, .int .i64 0] 35)) w') => implLast d (a6 := a6) (a7 := a7) (a8 := a8) (a11 := a11) (c6 := c6) (c7 := c7) (c8 := c8) (c11 := c11) w' l8 ((r8.below Z).below b))
  have BH := Lib.hid (Below.refl ((w.alloc (.cells #[.int .i64 d.pg.pool, .int .i64 d.pg.no, .int .i64 d.seen, .int .i64 d.started, .int .i64 d.tail.epoch, .int .i64 d.tail.seq, .slice a6 d.base.length c6, .slice a7 d.clients.length c7, .slice a8 d.log.length c8, .int .i64 d.firm.epoch, .int .i64 d.firm.seq, .slice a11 d.chunks.length c11] 41)).alloc (.cells #[.int .i64 0, .int .i64 0] 35)).heap.size ((w.alloc (.cells #[.int .i64 d.pg.pool, .int .i64 d.pg.no, .int .i64 d.seen, .int .i64 d.started, .int .i64 d.tail.epoch, .int .i64 d.tail.seq, .slice a6 d.base.length c6, .slice a7 d.clients.length c7, .slice a8 d.log.length c8, .int .i64 d.firm.epoch, .int .i64 d.firm.seq, .slice a11 d.chunks.length c11] 41)).alloc (.cells #[.int .i64 0, .int .i64 0] 35)))
  clear XX Y0 r6 r7 r8 r11 Z hT
  cases p
  · have hn : ¬ StP d := fun h => Bool.false_ne_true (e.2 h)
    rw [hr.2 hn]
    clear e hr hn CL
    go_enter Tryz.func13, Tryz.ntmps13
    go_wp2_with fail
    refine (CO.out _ BH.out).mono ?_
    rintro en w2 ⟨rfl, b2⟩
    have y0 := (YH.out.later b2).cells 0 _ rfl
    have y1 := (YH.out.later b2).cells 1 _ rfl
    have yf := (YH.out.later b2).free
    have B2 := Lib.hid (chainX w ZW.out b2)
    clear b2
    have G := Lib.hid (show RetW (.agg #[.int .i64 0, .int .i64 0]) w (.returned (.agg #[.int .i64 0, .int .i64 0])) ((w2.setCell ⟨w.heap.size + 1, 0, none⟩ (.int .i64 0)).setCell ⟨w.heap.size + 1, 1, none⟩ (.int .i64 0)) from ⟨rfl, Below.setCell (p := ⟨w.heap.size + 1, 1, none⟩) (Below.setCell (p := ⟨w.heap.size + 1, 0, none⟩) B2.out (Nat.le_succ _) (.int .i64 0)) (Nat.le_succ _) (.int .i64 0)⟩)
    go_wp2
    exact bodyPost_ret (v := .agg #[.int .i64 0, .int .i64 0]) (by simp [results, Tryz.results13, go_sem, *]) rfl G.out
  · rw [hr.1 (e.1 rfl)]
    clear e hr
    generalize (lastV d).epoch = ve at *
    generalize (lastV d).seq = vs at *
    go_enter Tryz.func13, Tryz.ntmps13
    go_wp2_with fail
    refine (CO.out _ BH.out).mono ?_
    rintro en w2 ⟨rfl, b2⟩
    have XH := Lib.hid (XH.out.later b2)
    have YH := Lib.hid (YH.out.later b2)
    have X_0 := XH.out.cells 0 _ rfl
    have X_1 := XH.out.cells 1 _ rfl
    have X_2 := XH.out.cells 2 _ rfl
    have X_3 := XH.out.cells 3 _ rfl
    have X_4 := XH.out.cells 4 _ rfl
    have X_5 := XH.out.cells 5 _ rfl
    have X_6 := XH.out.cells 6 _ rfl
    have X_7 := XH.out.cells 7 _ rfl
    have X_8 := XH.out.cells 8 _ rfl
    have X_9 := XH.out.cells 9 _ rfl
    have X_10 := XH.out.cells 10 _ rfl
    have X_11 := XH.out.cells 11 _ rfl
    have BH := Lib.hid (chainX _ BH.out b2)
    clear b2
    go_wp2_with fail
    refine (CL.out _ BH.out).mono ?_
    rintro en w3 ⟨rfl, b2⟩
    have y0 := (YH.out.later b2).cells 0 _ rfl
    have y1 := (YH.out.later b2).cells 1 _ rfl
    have yf := (YH.out.later b2).free
    have B2 := Lib.hid (chainX w ZW.out (chainX _ BH.out b2))
    clear b2
    have G := Lib.hid (show RetW (.agg #[.int .i64 ve, .int .i64 vs]) w (.returned (.agg #[.int .i64 ve, .int .i64 vs])) ((w3.setCell ⟨w.heap.size + 1, 0, none⟩ (.int .i64 ve)).setCell ⟨w.heap.size + 1, 1, none⟩ (.int .i64 vs)) from ⟨rfl, Below.setCell (p := ⟨w.heap.size + 1, 1, none⟩) (Below.setCell (p := ⟨w.heap.size + 1, 0, none⟩) B2.out (Nat.le_succ _) (.int .i64 ve)) (Nat.le_succ _) (.int .i64 vs)⟩)
    go_wp2
    exact bodyPost_ret (v := .agg #[.int .i64 ve, .int .i64 vs]) (by simp [results, Tryz.results13, go_sem, *]) rfl G.out
end Go.Proofs.YtbckdfoapmjilaaGreatDoor.Rd
