/-
  StoreOk in the program (written by tools/gen/sko.py).
-/
import Derived.Test.YtbckdfoapmjilaaGreatDoorStW
import Derived.Test.YtbckdfoapmjilaaGreatDoorDStore
import Derived.Deep.DeepCutAuto
import Derived.StillTailTactics
namespace Go.Proofs.YtbckdfoapmjilaaGreatDoor.Rd
open Go.RowKit Go.ChangeShapes Go.WideShapes Go.Proofs.YtbckdfoapmjilaaGreatDoor.GfI Go.Proofs.YtbckdfoapmjilaaGreatDoor.GfS
open Go.Proofs.YtbckdfoapmjilaaGreatDoor.Sg (BxN)
set_option linter.unusedVariables false
set_option linter.unusedSimpArgs false

def pgL (a b : DPg) : Bool := decide (a.pool < b.pool ∨ (a.pool = b.pool ∧ a.no < b.no))
def pgC (a b : DPg) : Int := orZ [cmpZ a.pool b.pool, cmpZ a.no b.no]
def sPLt (a b : DPgState) : Bool := pgL a.pg b.pg
def idB (p : DPgState → Bool) (x : DPgState) : Bool := p x
theorem pgC_neg (a b : DPg) : decide (pgC a b < 0) = pgL a b := by
  unfold pgC pgL cmpZ
  by_cases h1 : a.pool < b.pool <;> by_cases h2 : b.pool < a.pool <;> by_cases h3 : a.no < b.no <;> by_cases h4 : b.no < a.no <;> simp [orZ, h1, h2, h3, h4] <;> omega
theorem negState (x y : DPgState) : decide (pgC x.pg y.pg < 0) = sPLt x y := pgC_neg _ _
theorem lenS {d : DPgState} (h : Rdb.sz d ≤ 2097152) : d.base.length ≤ 2097152 ∧ d.clients.length ≤ 2097152 ∧ d.log.length ≤ 2097152 ∧ d.chunks.length ≤ 2097152 := by
  have hz : Rdb.sz d = Rdb.sz d.base + Rdb.sz d.clients + Rdb.sz d.log + Rdb.sz d.chunks := rfl
  have z6 := sz_len d.base
  have z7 := sz_len d.clients
  have z8 := sz_len d.log
  have z11 := sz_len d.chunks
  refine ⟨?_, ?_, ?_, ?_⟩ <;> omega
set_option maxRecDepth 100000 in
set_option maxHeartbeats 4000000 in
theorem implPgCompare (a b : DPg) (w : World) :
    Calls Tryz.prog 126 #[.agg #[.int .i64 a.pool, .int .i64 a.no], .agg #[.int .i64 b.pool, .int .i64 b.no]] w (RetW (.int .i64 (pgC a b)) w) := by
  have BH := Lib.hid (chainX w (lay w (.cells #[.int .i64 a.pool, .int .i64 a.no] 34)) (lay _ (.cells #[.int .i64 b.pool, .int .i64 b.no] 34)))
  have XH := Lib.hid ((BxN.new w #[.int .i64 a.pool, .int .i64 a.no] 34).later (lay _ (.cells #[.int .i64 b.pool, .int .i64 b.no] 34)))
  have Y0 := BxN.new (w.alloc (.cells #[.int .i64 a.pool, .int .i64 a.no] 34)) #[.int .i64 b.pool, .int .i64 b.no] 34
  rw [World.size_alloc] at Y0
  have YH := Lib.hid Y0
  clear Y0
  have C1 := Lib.hid (cmp_Compare a.pool b.pool)
  have C2 := Lib.hid (cmp_Compare a.no b.no)
  obtain ⟨v, hv⟩ : ∃ v, pgC a b = v := ⟨_, rfl⟩
  rw [hv]
  unfold pgC at hv
  generalize cmpZ a.pool b.pool = p at *
  generalize cmpZ a.no b.no = q at *
  have OR := Lib.hid (fun B c W (h0 : W.cell? ⟨B, 0, none⟩ = some (.int .i64 p)) (h1 : W.cell? ⟨B, 1, none⟩ = some (.int .i64 q)) => cmp_Or B c [p, q] W (by show 2 ≤ 1000; omega) (fun i z hz => by
    match i, hz with
    | 0, hz => obtain rfl : p = z := by simpa using hz
               exact h0
    | 1, hz => obtain rfl : q = z := by simpa using hz
               exact h1
    | i + 2, hz => simp at hz))
  rw [hv] at OR
  generalize a.pool = ae at *
  generalize b.pool = be at *
  generalize a.no = sa at *
  generalize b.no = sb at *
  clear hv
  go_enter Tryz.func126, Tryz.ntmps126
  go_wp2
  generalize (w.alloc (.cells #[.int .i64 ae, .int .i64 sa] 34)).alloc (.cells #[.int .i64 be, .int .i64 sb] 34) = w1 at *
  have x0 := XH.out.cells 0 _ rfl
  have x1 := XH.out.cells 1 _ rfl
  have y0 := YH.out.cells 0 _ rfl
  have y1 := YH.out.cells 1 _ rfl
  refine wp_region_still_tail 10 (by kernel_rfl) (by kernel_rfl) ?_
  simp only [List.take_succ_cons, List.take_zero, List.drop_succ_cons, List.drop_zero]
  still_step
  still_step
  still_step
  still_step
  still_call ((C1.out _).mono fun _ _ q => ⟨q.1, q.2.symm⟩)
  still_step
  still_step
  still_step
  still_step
  still_call ((C2.out _).mono fun _ _ q => ⟨q.1, q.2.symm⟩)
  refine wpStill_nil ?_
  change wpList _ _ _ _ _ (w1.drewN 1)
  have B1 := Lib.hid (show Below w.heap.size w (w1.drewN 1) from BH.out.drew)
  generalize w1.drewN 1 = w2 at *
  clear x0 x1 y0 y1 XH YH BH C1 C2
  go_wp2_with (go_at_call 121; refine (OR.out _ _ _ (by simp) (by simp)).mono ?_; rintro e w3 ⟨rfl, rfl⟩)
  go_ret
  exact ⟨rfl, B1.out.alloc (by have := B1.out.size; omega) _⟩
set_option maxRecDepth 100000 in
set_option maxHeartbeats 4000000 in
theorem implStateCompare (x y : DPgState) {a_6 b_6 : Option Addr} {c_6 e_6 : Nat} {a_7 b_7 : Option Addr} {c_7 e_7 : Nat} {a_8 b_8 : Option Addr} {c_8 e_8 : Nat} {a_11 b_11 : Option Addr} {c_11 e_11 : Nat} (w : World) : Calls Tryz.prog 106 #[.agg #[.int .i64 x.pg.pool, .int .i64 x.pg.no, .int .i64 x.seen, .int .i64 x.started, .int .i64 x.tail.epoch, .int .i64 x.tail.seq, .slice a_6 x.base.length c_6, .slice a_7 x.clients.length c_7, .slice a_8 x.log.length c_8, .int .i64 x.firm.epoch, .int .i64 x.firm.seq, .slice a_11 x.chunks.length c_11], .agg #[.int .i64 y.pg.pool, .int .i64 y.pg.no, .int .i64 y.seen, .int .i64 y.started, .int .i64 y.tail.epoch, .int .i64 y.tail.seq, .slice b_6 y.base.length e_6, .slice b_7 y.clients.length e_7, .slice b_8 y.log.length e_8, .int .i64 y.firm.epoch, .int .i64 y.firm.seq, .slice b_11 y.chunks.length e_11]] w (RetW (.int .i64 (pgC x.pg y.pg)) w) := by
  have LY := Lib.hid (chainX w (lay w (.cells #[.int .i64 x.pg.pool, .int .i64 x.pg.no, .int .i64 x.seen, .int .i64 x.started, .int .i64 x.tail.epoch, .int .i64 x.tail.seq, .slice a_6 x.base.length c_6, .slice a_7 x.clients.length c_7, .slice a_8 x.log.length c_8, .int .i64 x.firm.epoch, .int .i64 x.firm.seq, .slice a_11 x.chunks.length c_11] 41)) (lay _ (.cells #[.int .i64 y.pg.pool, .int .i64 y.pg.no, .int .i64 y.seen, .int .i64 y.started, .int .i64 y.tail.epoch, .int .i64 y.tail.seq, .slice b_6 y.base.length e_6, .slice b_7 y.clients.length e_7, .slice b_8 y.log.length e_8, .int .i64 y.firm.epoch, .int .i64 y.firm.seq, .slice b_11 y.chunks.length e_11] 41)))
  have C := Lib.hid (implPgCompare x.pg y.pg)
  generalize pgC x.pg y.pg = z at *
  go_enter Tryz.func106, Tryz.ntmps106
  go_wp2_with fail
  refine (C.out _).mono ?_
  rintro e w1 ⟨rfl, b1⟩
  have B1 := Lib.hid (chainX w LY.out b1)
  clear b1
  go_wp2
  go_ret
  exact ⟨rfl, B1.out⟩
set_option maxRecDepth 100000 in
set_option maxHeartbeats 4000000 in
theorem risingState (a : Option Addr) (cap : Nat) (l : List DPgState) (w : World) (hl : l.length ≤ 2097152) {fr : Bool} {lo : Nat} (hc : Rows fr lo w a l) :
    Calls Tryz.prog 105 #[.slice a l.length cap, .func (.func 106) #[] #[]] w (IffB (∀ i x y, l[i]? = some x → l[i + 1]? = some y → sPLt x y = true) w) := by
  have RH := Lib.hid hc
  have GET := Lib.hid (fun k (h : k < l.length) => get_lt h)
  have LEN := Lib.hid (fun k x (h : l[k]? = some x) => (List.getElem?_eq_some_iff.1 h).1)
  have NEG := Lib.hid (fun x y => negState x y)
  obtain ⟨n, hn⟩ : ∃ n, l.length = n := ⟨_, rfl⟩
  rw [hn] at hl GET LEN ⊢
  clear hn hc
  go_enter Tryz.func105, Tryz.ntmps105
  go_wp2
  go_loopw [5] (fun i wr => ∃ k : Nat, (k + 1 ≤ n ∨ k = 0) ∧ i = .int .i64 (k + 1 : Nat) ∧ (∀ i x y, i < k → l[i]? = some x → l[i + 1]? = some y → sPLt x y = true) ∧ Below w.heap.size w wr) (fun i _ => n + 1 - (intOf i).toNat)
  case atStart => exact ⟨0, by omega, rfl, fun i x y hi => absurd hi (Nat.not_lt_zero _), Below.refl _ _⟩
  case round =>
    obtain ⟨k, hkn, rfl, HR, hw⟩ := hrel
    have HR := Lib.hid HR
    have BH := Lib.hid hw
    by_cases hlt : k + 1 < n
    · obtain ⟨x, hx⟩ := GET.out k (by omega)
      obtain ⟨y, hy⟩ := GET.out (k + 1) hlt
      obtain ⟨b, off, cs, rfl, -, hB, hr, hcc⟩ := (RH.out.below hw).at' hx
      obtain ⟨b', off', cs', e', -, -, hr2, hcc2⟩ := (RH.out.below hw).at' hy
      obtain ⟨rfl, rfl⟩ : b = b' ∧ off = off' := by simpa using e'
      obtain ⟨a0_6, c0_6, a0_7, c0_7, a0_8, c0_8, a0_11, c0_11, rfl, f0_0, f0_1, f0_2, f0_3, f0_4, f0_5, f0_6, g0_6, f0_7, g0_7, f0_8, g0_8, f0_9, f0_10, f0_11, g0_11⟩ := shape_PgState hr
      obtain ⟨a1_6, c1_6, a1_7, c1_7, a1_8, c1_8, a1_11, c1_11, rfl, f1_0, f1_1, f1_2, f1_3, f1_4, f1_5, f1_6, g1_6, f1_7, g1_7, f1_8, g1_8, f1_9, f1_10, f1_11, g1_11⟩ := shape_PgState hr2
      have cx0 : wr.cell? ⟨b, off + k * 12, none⟩ = some (.int .i64 x.pg.pool) := hcc 0 _ rfl
      have cx1 : wr.cell? ⟨b, off + k * 12 + 1, none⟩ = some (.int .i64 x.pg.no) := hcc 1 _ rfl
      have cx2 : wr.cell? ⟨b, off + k * 12 + 2, none⟩ = some (.int .i64 x.seen) := hcc 2 _ rfl
      have cx3 : wr.cell? ⟨b, off + k * 12 + 3, none⟩ = some (.int .i64 x.started) := hcc 3 _ rfl
      have cx4 : wr.cell? ⟨b, off + k * 12 + 4, none⟩ = some (.int .i64 x.tail.epoch) := hcc 4 _ rfl
      have cx5 : wr.cell? ⟨b, off + k * 12 + 5, none⟩ = some (.int .i64 x.tail.seq) := hcc 5 _ rfl
      have cx6 : wr.cell? ⟨b, off + k * 12 + 6, none⟩ = some (.slice a0_6 x.base.length c0_6) := hcc 6 _ rfl
      have cx7 : wr.cell? ⟨b, off + k * 12 + 7, none⟩ = some (.slice a0_7 x.clients.length c0_7) := hcc 7 _ rfl
      have cx8 : wr.cell? ⟨b, off + k * 12 + 8, none⟩ = some (.slice a0_8 x.log.length c0_8) := hcc 8 _ rfl
      have cx9 : wr.cell? ⟨b, off + k * 12 + 9, none⟩ = some (.int .i64 x.firm.epoch) := hcc 9 _ rfl
      have cx10 : wr.cell? ⟨b, off + k * 12 + 10, none⟩ = some (.int .i64 x.firm.seq) := hcc 10 _ rfl
      have cx11 : wr.cell? ⟨b, off + k * 12 + 11, none⟩ = some (.slice a0_11 x.chunks.length c0_11) := hcc 11 _ rfl
      have cy0 : wr.cell? ⟨b, off + (k + 1) * 12, none⟩ = some (.int .i64 y.pg.pool) := hcc2 0 _ rfl
      have cy1 : wr.cell? ⟨b, off + (k + 1) * 12 + 1, none⟩ = some (.int .i64 y.pg.no) := hcc2 1 _ rfl
      have cy2 : wr.cell? ⟨b, off + (k + 1) * 12 + 2, none⟩ = some (.int .i64 y.seen) := hcc2 2 _ rfl
      have cy3 : wr.cell? ⟨b, off + (k + 1) * 12 + 3, none⟩ = some (.int .i64 y.started) := hcc2 3 _ rfl
      have cy4 : wr.cell? ⟨b, off + (k + 1) * 12 + 4, none⟩ = some (.int .i64 y.tail.epoch) := hcc2 4 _ rfl
      have cy5 : wr.cell? ⟨b, off + (k + 1) * 12 + 5, none⟩ = some (.int .i64 y.tail.seq) := hcc2 5 _ rfl
      have cy6 : wr.cell? ⟨b, off + (k + 1) * 12 + 6, none⟩ = some (.slice a1_6 y.base.length c1_6) := hcc2 6 _ rfl
      have cy7 : wr.cell? ⟨b, off + (k + 1) * 12 + 7, none⟩ = some (.slice a1_7 y.clients.length c1_7) := hcc2 7 _ rfl
      have cy8 : wr.cell? ⟨b, off + (k + 1) * 12 + 8, none⟩ = some (.slice a1_8 y.log.length c1_8) := hcc2 8 _ rfl
      have cy9 : wr.cell? ⟨b, off + (k + 1) * 12 + 9, none⟩ = some (.int .i64 y.firm.epoch) := hcc2 9 _ rfl
      have cy10 : wr.cell? ⟨b, off + (k + 1) * 12 + 10, none⟩ = some (.int .i64 y.firm.seq) := hcc2 10 _ rfl
      have cy11 : wr.cell? ⟨b, off + (k + 1) * 12 + 11, none⟩ = some (.slice a1_11 y.chunks.length c1_11) := hcc2 11 _ rfl
      have C := implStateCompare (a_6 := a0_6) (c_6 := c0_6) (a_7 := a0_7) (c_7 := c0_7) (a_8 := a0_8) (c_8 := c0_8) (a_11 := a0_11) (c_11 := c0_11) (b_6 := a1_6) (e_6 := c1_6) (b_7 := a1_7) (e_7 := c1_7) (b_8 := a1_8) (e_8 := c1_8) (b_11 := a1_11) (e_11 := c1_11) x y
      have N := NEG.out x y
      have j0 : (0 : Int) ≤ (k : Int) := by omega
      have j1 : (k : Int) < (n : Int) := by omega
      have WK : IntKind.i64.wrap (((k + 1 : Nat) : Int) - 1) = (k : Int) := by rw [IntKind.wrap_i64]; omega
      have k2 : (0 : Int) ≤ (k : Int) + 1 := by omega
      have WK2 : IntKind.i64.wrap (k : Int) = (k : Int) := by rw [IntKind.wrap_i64]; omega
      have k0 : (0 : Int) ≤ ((k + 1 : Nat) : Int) := by omega
      have k1 : ((k + 1 : Nat) : Int) < (n : Int) := by omega
      have HX := Lib.hid hx
      have HY := Lib.hid hy
      clear hcc hcc2 hr hr2 hw hx hy
      generalize pgC x.pg y.pg = z at *
      cases q : sPLt x y
      · rw [q] at N
        have NO := Lib.hid (show ¬ ∀ i x y, l[i]? = some x → l[i + 1]? = some y → sPLt x y = true from fun h => by have := h k x y HX.out HY.out; rw [q] at this; cases this)
        have Z := of_decide_eq_false N
        have Z' : 0 ≤ z := by omega
        have C := Lib.hid C
        clear N q HX HY
        go_upto_region 4 with fail
        refine wp_region_still_tail 10 (by kernel_rfl) (by kernel_rfl) ?_
        simp only [List.take_succ_cons, List.take_zero, List.drop_succ_cons, List.drop_zero]
        still_step
        still_step
        still_step
        still_step
        still_step
        still_step
        still_step
        still_step
        still_step
        still_step
        refine wpStill_nil ?_
        change wpList _ _ _ _ _ (wr.drewN 1)
        have BD := Lib.hid (show Below w.heap.size w (wr.drewN 1) from BH.out.drew)
        generalize wr.drewN 1 = wd at *
        go_wp2_with fail
        refine (C.out _).mono ?_
        rintro e w1 ⟨rfl, b1⟩
        have B1 := Lib.hid (chainX w BD.out b1)
        clear b1
        go_wp2
        go_ret
        exact IffB.no NO.out B1.out
      · rw [q] at N
        have YS := Lib.hid (show ∀ i x y, i < k + 1 → l[i]? = some x → l[i + 1]? = some y → sPLt x y = true from fun i x' y' hi h1 h2 => by
          by_cases e : i = k
          · subst e; rw [HX.out] at h1; rw [HY.out] at h2; cases h1; cases h2; exact q
          · exact HR.out i x' y' (by omega) h1 h2)
        have Z := of_decide_eq_true N
        have C := Lib.hid C
        clear N q HX HY
        go_upto_region 4 with fail
        refine wp_region_still_tail 10 (by kernel_rfl) (by kernel_rfl) ?_
        simp only [List.take_succ_cons, List.take_zero, List.drop_succ_cons, List.drop_zero]
        still_step
        still_step
        still_step
        still_step
        still_step
        still_step
        still_step
        still_step
        still_step
        still_step
        refine wpStill_nil ?_
        change wpList _ _ _ _ _ (wr.drewN 1)
        have BD := Lib.hid (show Below w.heap.size w (wr.drewN 1) from BH.out.drew)
        generalize wr.drewN 1 = wd at *
        go_wp2_with fail
        refine (C.out _).mono ?_
        rintro e w1 ⟨rfl, b1⟩
        have B1 := Lib.hid (chainX w BD.out b1)
        clear b1
        go_wp2
        go_roundw
        case rel => exact ⟨k + 1, by omega, by go_num, YS.out, B1.out⟩
        case measure => simp [intOf]; omega
    · have G := Lib.hid (show ∀ i x y, l[i]? = some x → l[i + 1]? = some y → sPLt x y = true from fun i x y h1 h2 => HR.out i x y (by have := LEN.out _ _ h2; omega) h1 h2)
      clear hw
      go_wp2
      go_ret
      exact IffB.yes G.out BH.out
def badS (p : DPgState → Bool) (x : DPgState) : Bool := !p x
set_option maxRecDepth 100000 in
set_option maxHeartbeats 4000000 in
theorem wrongState (p : DPgState → Bool) (hp : ∀ d, p d = true ↔ StP d) (x : DPgState) {a_6 : Option Addr} {c_6 : Nat} {a_7 : Option Addr} {c_7 : Nat} {a_8 : Option Addr} {c_8 : Nat} {a_11 : Option Addr} {c_11 : Nat} (w : World) (hz : Rdb.sz x ≤ 2097152) (g8 : x.log.length ≤ c_8) {fr : Bool} {lo : Nat} (r6 : Rows fr lo w a_6 x.base) (r7 : Rows fr lo w a_7 x.clients) (r8 : Rows fr lo w a_8 x.log) (r11 : Rows fr lo w a_11 x.chunks) (hT : Nam.Tabs w) :
    Calls Tryz.prog 104 #[.agg #[.int .i64 x.pg.pool, .int .i64 x.pg.no, .int .i64 x.seen, .int .i64 x.started, .int .i64 x.tail.epoch, .int .i64 x.tail.seq, .slice a_6 x.base.length c_6, .slice a_7 x.clients.length c_7, .slice a_8 x.log.length c_8, .int .i64 x.firm.epoch, .int .i64 x.firm.seq, .slice a_11 x.chunks.length c_11]] w (RetW (.bool (badS p x)) w) := by
  unfold badS
  obtain ⟨l6, l7, l8, l11⟩ := lenS hz
  have LY := Lib.hid (lay w (.cells #[.int .i64 x.pg.pool, .int .i64 x.pg.no, .int .i64 x.seen, .int .i64 x.started, .int .i64 x.tail.epoch, .int .i64 x.tail.seq, .slice a_6 x.base.length c_6, .slice a_7 x.clients.length c_7, .slice a_8 x.log.length c_8, .int .i64 x.firm.epoch, .int .i64 x.firm.seq, .slice a_11 x.chunks.length c_11] 41))
  have XH := Lib.hid (BxN.new w #[.int .i64 x.pg.pool, .int .i64 x.pg.no, .int .i64 x.seen, .int .i64 x.started, .int .i64 x.tail.epoch, .int .i64 x.tail.seq, .slice a_6 x.base.length c_6, .slice a_7 x.clients.length c_7, .slice a_8 x.log.length c_8, .int .i64 x.firm.epoch, .int .i64 x.firm.seq, .slice a_11 x.chunks.length c_11] 41)
  have C := Lib.hid (fun w' (b : Below w.heap.size w w') => (implStateOk x (c6 := c_6) (c7 := c_7) (c8 := c_8) (c11 := c_11) w' l6 l7 l8 l11 g8 (r6.below b) (r7.below b) (r8.below b) (r11.below b) (tabs_later hT b)).mono fun _ _ q => iff_ret (hp x) q)
  generalize p x = v at *
  clear hT hz r6 r7 r8 r11 l6 l7 l8 l11 hp g8
  have cX := Rd.c12 XH.out
  go_enter Tryz.func104, Tryz.ntmps104
  go_wp2_with fail
  refine (C.out _ LY.out).mono ?_
  rintro e w2 ⟨rfl, b2⟩
  have B2 := Lib.hid (chainX w LY.out b2)
  clear b2
  go_wp2
  go_ret
  exact ⟨rfl, B2.out⟩
set_option maxRecDepth 100000 in
set_option maxHeartbeats 1000000 in
theorem hasWrongState_idx (p : DPgState → Bool) (hp : ∀ d, p d = true ↔ StP d) (a : Option Addr) (cap : Nat) (l : List DPgState) (w : World) (hl : l.length ≤ 2097152) {fr : Bool} {lo : Nat} (hc : Rows fr lo w a l) (hsz : ∀ x, x ∈ l → Rdb.sz x ≤ 2097152) (hT : Nam.Tabs w) :
    Calls Tryz.prog 127 #[.slice a l.length cap, .func (.func 104) #[] #[]] w (IdxW (∃ x, x ∈ l ∧ (badS p) x = true) w) := by
  have HL := Lib.hid (fun k (h : k < l.length) => get_lt h)
  have NO := Lib.hid (fun (h : ∀ i x, i < l.length → l[i]? = some x → (badS p) x = false) => (show ¬ ∃ x, x ∈ l ∧ (badS p) x = true from none_of h))
  have MEM := Lib.hid (fun k x (h : l[k]? = some x) => List.mem_of_getElem? h)
  obtain ⟨n, hn⟩ : ∃ n, n = l.length := ⟨_, rfl⟩
  rw [← hn] at hl HL NO ⊢
  clear hn
  go_enter Tryz.func127, Tryz.ntmps127
  go_wp2
  go_loopw [8] (fun i wr => ∃ k : Nat, k ≤ n ∧ i = .int .i64 k ∧ (∀ i x, i < k → l[i]? = some x → (badS p) x = false) ∧ Below w.heap.size w wr) (fun i _ => n - (intOf i).toNat)
  case atStart => exact ⟨0, by omega, rfl, fun i x hi => absurd hi (Nat.not_lt_zero _), Below.refl _ _⟩
  case round =>
    obtain ⟨k, hk, rfl, HN, hw⟩ := hrel
    have HN := Lib.hid HN
    have HW := Lib.hid hw
    by_cases hlt : k < n
    · obtain ⟨x, hx⟩ := HL.out k hlt
      obtain ⟨b, off, cs, rfl, -, hB, hr, hcc⟩ := (hc.below hw).at' hx
      have r := hr
      obtain ⟨a0_6, c0_6, a0_7, c0_7, a0_8, c0_8, a0_11, c0_11, rfl, f0_0, f0_1, f0_2, f0_3, f0_4, f0_5, f0_6, g0_6, f0_7, g0_7, f0_8, g0_8, f0_9, f0_10, f0_11, g0_11⟩ := shape_PgState hr
      have c0 : wr.cell? ⟨b, off + k * 12, none⟩ = some (.int .i64 x.pg.pool) := hcc 0 _ rfl
      have c1 : wr.cell? ⟨b, off + k * 12 + 1, none⟩ = some (.int .i64 x.pg.no) := hcc 1 _ rfl
      have c2 : wr.cell? ⟨b, off + k * 12 + 2, none⟩ = some (.int .i64 x.seen) := hcc 2 _ rfl
      have c3 : wr.cell? ⟨b, off + k * 12 + 3, none⟩ = some (.int .i64 x.started) := hcc 3 _ rfl
      have c4 : wr.cell? ⟨b, off + k * 12 + 4, none⟩ = some (.int .i64 x.tail.epoch) := hcc 4 _ rfl
      have c5 : wr.cell? ⟨b, off + k * 12 + 5, none⟩ = some (.int .i64 x.tail.seq) := hcc 5 _ rfl
      have c6 : wr.cell? ⟨b, off + k * 12 + 6, none⟩ = some (.slice a0_6 x.base.length c0_6) := hcc 6 _ rfl
      have c7 : wr.cell? ⟨b, off + k * 12 + 7, none⟩ = some (.slice a0_7 x.clients.length c0_7) := hcc 7 _ rfl
      have c8 : wr.cell? ⟨b, off + k * 12 + 8, none⟩ = some (.slice a0_8 x.log.length c0_8) := hcc 8 _ rfl
      have c9 : wr.cell? ⟨b, off + k * 12 + 9, none⟩ = some (.int .i64 x.firm.epoch) := hcc 9 _ rfl
      have c10 : wr.cell? ⟨b, off + k * 12 + 10, none⟩ = some (.int .i64 x.firm.seq) := hcc 10 _ rfl
      have c11 : wr.cell? ⟨b, off + k * 12 + 11, none⟩ = some (.slice a0_11 x.chunks.length c0_11) := hcc 11 _ rfl
      have P := wrongState p hp x (c_6 := c0_6) (c_7 := c0_7) (c_8 := c0_8) (c_11 := c0_11) wr (hsz x (List.mem_of_getElem? hx)) g0_8.2 f0_6 f0_7 f0_8 f0_11 (tabs_later hT hw)
      have HX := Lib.hid hx
      clear hcc hc hw hx r hsz hT f0_6 f0_7 f0_8 f0_11 g0_6 g0_7 g0_8 g0_11
      cases hp : (badS p) x
      · rw [hp] at P
        have P := Lib.hid P
        have HN2 := Lib.hid (show ∀ i y, i < k + 1 → l[i]? = some y → (badS p) y = false from fun i y hi hy => by
          by_cases e : i = k
          · subst e; rw [HX.out] at hy; cases hy; exact hp
          · exact HN.out i y (by omega) hy)
        clear hp
        go_wp2_with fail
        refine P.out.mono ?_
        rintro e w1 ⟨rfl, b1⟩
        have B1 := Lib.hid (chainX w HW.out b1)
        clear b1 P
        go_wp2
        go_roundw
        case rel => exact ⟨k + 1, by omega, by go_num, HN2.out, B1.out⟩
        case measure => simp [intOf]; omega
      · rw [hp] at P
        have P := Lib.hid P
        have Y := Lib.hid (show ∃ x, x ∈ l ∧ (badS p) x = true from ⟨x, MEM.out k x HX.out, hp⟩)
        clear hp
        go_wp2_with fail
        refine P.out.mono ?_
        rintro e w1 ⟨rfl, b1⟩
        have B1 := Lib.hid (chainX w HW.out b1)
        clear b1 P
        go_wp2
        go_ret
        exact ⟨_, rfl, B1.out, .inl ⟨by omega, Y.out⟩⟩
    · obtain rfl : k = n := by omega
      have N := Lib.hid (NO.out HN.out)
      clear hc hw
      go_wp2
      go_ret
      exact ⟨_, rfl, HW.out, .inr ⟨rfl, N.out⟩⟩
set_option maxRecDepth 100000 in
set_option maxHeartbeats 1000000 in
theorem hasWrongState (p : DPgState → Bool) (hp : ∀ d, p d = true ↔ StP d) (a : Option Addr) (cap : Nat) (l : List DPgState) (w : World) (hl : l.length ≤ 2097152) {fr : Bool} {lo : Nat} (hc : Rows fr lo w a l) (hsz : ∀ x, x ∈ l → Rdb.sz x ≤ 2097152) (hT : Nam.Tabs w) :
    Calls Tryz.prog 107 #[.slice a l.length cap, .func (.func 104) #[] #[]] w (IffB (∃ x, x ∈ l ∧ (badS p) x = true) w) := by
  have I := Lib.hid (hasWrongState_idx p hp a cap l w hl hc hsz hT)
  clear hc
  go_enter Tryz.func107, Tryz.ntmps107
  go_wp2_with fail
  refine I.out.mono ?_
  rintro e w1 ⟨i, rfl, b1, ⟨h0, Y⟩ | ⟨rfl, N⟩⟩
  · have h' : decide (0 ≤ i) = true := decide_eq_true h0
    have Y := Lib.hid Y
    have B := Lib.hid b1
    clear b1
    go_wp2
    go_ret
    exact IffB.yes Y.out B.out
  · have N := Lib.hid N
    have B := Lib.hid b1
    clear b1
    go_wp2
    go_ret
    exact IffB.no N.out B.out
set_option maxRecDepth 100000 in
set_option maxHeartbeats 4000000 in
theorem implListOk (p : DPgState → Bool) (hp : ∀ d, p d = true ↔ StP d) (a : Option Addr) (cap : Nat) (l : List DPgState) (w : World) (hsz : Rdb.sz l ≤ 2097152) {fr : Bool} {lo : Nat} (hc : Rows fr lo w a l) (hT : Nam.Tabs w) :
    Calls Tryz.prog 60 #[.slice a l.length cap] w (IffB (SeqP 8 sPLt p l) w) := by
  have hl : l.length ≤ 2097152 := Nat.le_trans (sz_len l) hsz
  have HM : ∀ x, x ∈ l → Rdb.sz x ≤ 2097152 := fun x hx => by
    obtain ⟨i, hi, e⟩ := List.getElem_of_mem hx
    exact Nat.le_trans (sz_mem (l := l) (k := i) (x := x) (by rw [List.getElem?_eq_getElem hi, e])) hsz
  have C0 := Lib.hid (fun w' (b : Below w.heap.size w w') => risingState a cap l w' hl (hc.below b))
  have C1 := Lib.hid (fun w' (b : Below w.heap.size w w') => hasWrongState p hp a cap l w' hl (hc.below b) HM (tabs_later hT b))
  have N0 := Lib.hid (show ¬ l.length ≤ 8 → ¬ SeqP 8 sPLt p l from fun h q => h q.1)
  have N1 := Lib.hid (show ¬ (∀ (i : Nat) x y, l[i]? = some x → l[i + 1]? = some y → sPLt x y = true) → ¬ SeqP 8 sPLt p l from fun h q => h q.2.1)
  have N2 := Lib.hid (show (∃ x, x ∈ l ∧ badS p x = true) → ¬ SeqP 8 sPLt p l from fun h q => by
    obtain ⟨x, hx, hb⟩ := h
    obtain ⟨i, hi, e⟩ := List.getElem_of_mem hx
    have := q.2.2 i x (by rw [List.getElem?_eq_getElem hi, e])
    unfold badS at hb
    rw [this] at hb
    cases hb)
  have YS := Lib.hid (show l.length ≤ 8 → (∀ (i : Nat) x y, l[i]? = some x → l[i + 1]? = some y → sPLt x y = true) → (¬ ∃ x, x ∈ l ∧ badS p x = true) → SeqP 8 sPLt p l from fun h1 h2 h3 => ⟨h1, h2, fun i x hx => by
    cases q : p x
    · exact absurd ⟨x, List.mem_of_getElem? hx, by unfold badS; rw [q]; rfl⟩ h3
    · rfl⟩)
  obtain ⟨n, hn⟩ : ∃ n, l.length = n := ⟨_, rfl⟩
  rw [hn] at C0 C1 N0 YS ⊢
  clear hn hl HM hc hT hsz hp
  by_cases g : n ≤ 8
  · have dg : decide ((n : Int) ≤ 8) = true := decide_eq_true (by omega)
    go_enter Tryz.func60, Tryz.ntmps60
    go_wp2_with fail
    refine (C0.out _ (Below.refl _ _)).mono ?_
    rintro e w1 ⟨t1, rfl, H, b1⟩
    have H1 := Lib.hid H
    have B1 := Lib.hid b1
    clear H b1
    cases t1
    · have G := Lib.hid (N1.out (fun q => by have := H1.out.2 q; cases this))
      clear H1
      go_wp2
      go_ret
      exact IffB.no G.out B1.out
    · have G1 := Lib.hid (H1.out.1 rfl)
      clear H1
      go_wp2_with fail
      refine (C1.out _ B1.out).mono ?_
      rintro e w2 ⟨t2, rfl, H, b2⟩
      have H2 := Lib.hid H
      have B2 := Lib.hid (chainX w B1.out b2)
      clear H b2
      cases t2
      · have G := Lib.hid (YS.out g G1.out (fun q => by have := H2.out.2 q; cases this))
        clear H2
        go_wp2
        go_ret
        exact IffB.yes G.out B2.out
      · have G := Lib.hid (N2.out (H2.out.1 rfl))
        clear H2
        go_wp2
        go_ret
        exact IffB.no G.out B2.out
  · have dg : decide ((n : Int) ≤ 8) = false := decide_eq_false (by omega)
    have G := Lib.hid (N0.out g)
    go_enter Tryz.func60, Tryz.ntmps60
    go_wp2
    go_ret
    exact IffB.no G.out (Below.refl _ _)
def StoP (p : DPgState → Bool) (d : DStore) : Prop := SeqP 8 sPLt p d.live ∧ SeqP 8 sPLt p d.kept
set_option maxRecDepth 100000 in
set_option maxHeartbeats 4000000 in
theorem implStoreOk (p : DPgState → Bool) (hp : ∀ d, p d = true ↔ StP d) (d : DStore) {cs : List Value} {fr : Bool} {lo : Nat} (w : World) (hd : Rdb.sz d ≤ 2097152) (h : Rdb.rd fr lo w cs d) (hT : Nam.Tabs w) :
    Calls Tryz.prog 22 #[.agg cs.toArray] w (IffB (StoP p d) w) := by
  have qd : Rdb.sz d = Rdb.sz d.live + Rdb.sz d.kept := rfl
  obtain ⟨a0_0, c0_0, a0_1, c0_1, rfl, f0_0, g0_0, f0_1, g0_1⟩ := shape_Store h
  have L := Lib.hid (lay w (.cells #[.slice a0_0 d.live.length c0_0, .slice a0_1 d.kept.length c0_1] 61))
  have XA := Lib.hid (BxN.new w #[.slice a0_0 d.live.length c0_0, .slice a0_1 d.kept.length c0_1] 61)
  have C0 := Lib.hid (fun w' (b : Below w.heap.size w w') => implListOk p hp _ c0_0 d.live w' (by omega) (f0_0.below b) (tabs_later hT b))
  have C1 := Lib.hid (fun w' (b : Below w.heap.size w w') => implListOk p hp _ c0_1 d.kept w' (by omega) (f0_1.below b) (tabs_later hT b))
  clear f0_0 f0_1 g0_0 g0_1 qd hd hT
  have N0 := Lib.hid (show ¬ SeqP 8 sPLt p d.live → ¬ StoP p d from fun h q => h q.1)
  have N1 := Lib.hid (show ¬ SeqP 8 sPLt p d.kept → ¬ StoP p d from fun h q => h q.2)
  have YS := Lib.hid (show SeqP 8 sPLt p d.live → SeqP 8 sPLt p d.kept → StoP p d from fun a b => ⟨a, b⟩)
  generalize d.live.length = nlive at *
  generalize d.kept.length = nkept at *
  clear hp
  have CA := Rd.c2 XA.out
  go_enter Tryz.func22, Tryz.ntmps22
  go_wp2_with fail
  refine (C0.out _ L.out).mono ?_
  rintro e0 w0 ⟨t0, rfl, H, b⟩
  have B0 := Lib.hid (chainX w L.out b)
  have XA0 := Lib.hid (XA.out.later b)
  clear CA
  have CA := Rd.c2 XA0.out
  have HH := Lib.hid H
  clear H b
  cases t0
  · have G := Lib.hid (N0.out (fun q => by have := HH.out.2 q; cases this))
    clear HH
    go_wp2
    go_ret
    exact IffB.no G.out B0.out
  · have q0 := Lib.hid (HH.out.1 rfl)
    clear HH
    go_wp2_with fail
    refine (C1.out _ B0.out).mono ?_
    rintro e1 w1 ⟨t1, rfl, H, b⟩
    have B1 := Lib.hid (chainX w B0.out b)
    have XA1 := Lib.hid (XA0.out.later b)
    clear CA
    have CA := Rd.c2 XA1.out
    have HH := Lib.hid H
    clear H b
    cases t1
    · have G := Lib.hid (N1.out (fun q => by have := HH.out.2 q; cases this))
      clear HH
      go_wp2
      go_ret
      exact IffB.no G.out B1.out
    · have q1 := Lib.hid (HH.out.1 rfl)
      clear HH
      have G := Lib.hid (YS.out q0.out q1.out)
      go_wp2
      go_ret
      exact IffB.yes G.out B1.out
end Go.Proofs.YtbckdfoapmjilaaGreatDoor.Rd
