/-
  SameStore in the program.
-/
import Derived.Test.YtbnjgehgaellmaaSsI
import Derived.Test.YtbnjgehgaellmaaDStore
import Derived.Deep.DeepCutAuto
import Derived.StillTailTactics
namespace Go.Proofs.Ytbnjgehgaellmaa.Rd
open Go.RowKit Go.ChangeShapes Go.WideShapes
open Go.Proofs.Ytbnjgehgaellmaa.Sg (BxN)
set_option linter.unusedVariables false
set_option linter.unusedSimpArgs false

set_option maxRecDepth 100000 in
set_option maxHeartbeats 4000000 in
theorem equalStates (l m : List DPgState) (a b : Option Addr) (c1 c2 : Nat) (w : World) {fr fr2 : Bool} {lo lo2 : Nat} (hl : Rdb.sz l ≤ 2097152) (hm : Rdb.sz m ≤ 2097152) (ha : Rows fr lo w a l) (hb : Rows fr2 lo2 w b m) :
    Calls Try.prog 87 #[.slice a l.length c1, .slice b m.length c2, .func (.func 88) #[] #[]] w (IffB (l = m) w) := by
  have HL := Lib.hid (fun k (h : k < l.length) => get_lt h)
  have HM := Lib.hid (fun k (h : k < m.length) => get_lt h)
  have ZL := Lib.hid (fun k x (h : l[k]? = some x) => Nat.le_trans (sz_mem h) hl)
  have ZM := Lib.hid (fun k x (h : m[k]? = some x) => Nat.le_trans (sz_mem h) hm)
  have END := Lib.hid (@eq_end _ l m)
  have LEN := Lib.hid (show ¬ l.length = m.length → ¬ l = m from fun h e => h (by rw [e]))
  have hl : l.length ≤ 2097152 := Nat.le_trans (sz_len l) hl
  have hm : m.length ≤ 2097152 := Nat.le_trans (sz_len m) hm
  obtain ⟨n, hn⟩ : ∃ n, n = l.length := ⟨_, rfl⟩
  obtain ⟨p, hp⟩ : ∃ p, p = m.length := ⟨_, rfl⟩
  rw [← hn, ← hp] at END LEN
  rw [← hn] at hl HL ⊢
  rw [← hp] at hm HM ⊢
  clear hn hp
  by_cases q : n = p
  · subst q
    go_enter Try.func87, Try.ntmps87
    go_wp2
    go_loopw [17] (fun i wr => ∃ k : Nat, k ≤ n ∧ i = .int .i64 k ∧ (∀ j, j < k → l[j]? = m[j]?) ∧ Below w.heap.size w wr) (fun i _ => n - (intOf i).toNat)
    case atStart => exact ⟨0, by omega, rfl, fun j hj => by omega, Below.refl _ _⟩
    case round =>
      obtain ⟨k, hk, rfl, P, hw⟩ := hrel
      by_cases hlt : k < n
      · obtain ⟨x, hx⟩ := HL.out k hlt
        obtain ⟨y, hy⟩ := HM.out k hlt
        have NO := Lib.hid (ne_at hx hy)
        have YES := Lib.hid (eq_next hx hy P)
        have zx := ZL.out k x hx
        have zy := ZM.out k y hy
        obtain ⟨b1, o1, cs1, rfl, -, hB1, hr1, hc1⟩ := (ha.below hw).at' hx
        obtain ⟨b2, o2, cs2, rfl, -, hB2, hr2, hc2⟩ := (hb.below hw).at' hy
        have T := Lib.hid (fun w' (bb : Below wr.heap.size wr w') => implStateSame x y w' zx zy (Rdb.below hr1 bb) (Rdb.below hr2 bb))
        obtain ⟨a3_6, c3_6, a3_7, c3_7, a3_8, c3_8, a3_11, c3_11, rfl, f3_0, f3_1, f3_2, f3_3, f3_4, f3_5, f3_6, g3_6, f3_7, g3_7, f3_8, g3_8, f3_9, f3_10, f3_11, g3_11⟩ := shape_PgState hr1
        obtain ⟨a4_6, c4_6, a4_7, c4_7, a4_8, c4_8, a4_11, c4_11, rfl, f4_0, f4_1, f4_2, f4_3, f4_4, f4_5, f4_6, g4_6, f4_7, g4_7, f4_8, g4_8, f4_9, f4_10, f4_11, g4_11⟩ := shape_PgState hr2
        have c0 : wr.cell? ⟨b1, o1 + k * 12, none⟩ = some (.int .i64 x.pg.pool) := hc1 0 _ rfl
        have c1 : wr.cell? ⟨b1, o1 + k * 12 + 1, none⟩ = some (.int .i64 x.pg.no) := hc1 1 _ rfl
        have c2 : wr.cell? ⟨b1, o1 + k * 12 + 2, none⟩ = some (.int .i64 x.seen) := hc1 2 _ rfl
        have c3 : wr.cell? ⟨b1, o1 + k * 12 + 3, none⟩ = some (.int .i64 x.started) := hc1 3 _ rfl
        have c4 : wr.cell? ⟨b1, o1 + k * 12 + 4, none⟩ = some (.int .i64 x.tail.epoch) := hc1 4 _ rfl
        have c5 : wr.cell? ⟨b1, o1 + k * 12 + 5, none⟩ = some (.int .i64 x.tail.seq) := hc1 5 _ rfl
        have c6 : wr.cell? ⟨b1, o1 + k * 12 + 6, none⟩ = some (.slice a3_6 x.base.length c3_6) := hc1 6 _ rfl
        have c7 : wr.cell? ⟨b1, o1 + k * 12 + 7, none⟩ = some (.slice a3_7 x.clients.length c3_7) := hc1 7 _ rfl
        have c8 : wr.cell? ⟨b1, o1 + k * 12 + 8, none⟩ = some (.slice a3_8 x.log.length c3_8) := hc1 8 _ rfl
        have c9 : wr.cell? ⟨b1, o1 + k * 12 + 9, none⟩ = some (.int .i64 x.firm.epoch) := hc1 9 _ rfl
        have c10 : wr.cell? ⟨b1, o1 + k * 12 + 10, none⟩ = some (.int .i64 x.firm.seq) := hc1 10 _ rfl
        have c11 : wr.cell? ⟨b1, o1 + k * 12 + 11, none⟩ = some (.slice a3_11 x.chunks.length c3_11) := hc1 11 _ rfl
        have e0 : wr.cell? ⟨b2, o2 + k * 12, none⟩ = some (.int .i64 y.pg.pool) := hc2 0 _ rfl
        have e1 : wr.cell? ⟨b2, o2 + k * 12 + 1, none⟩ = some (.int .i64 y.pg.no) := hc2 1 _ rfl
        have e2 : wr.cell? ⟨b2, o2 + k * 12 + 2, none⟩ = some (.int .i64 y.seen) := hc2 2 _ rfl
        have e3 : wr.cell? ⟨b2, o2 + k * 12 + 3, none⟩ = some (.int .i64 y.started) := hc2 3 _ rfl
        have e4 : wr.cell? ⟨b2, o2 + k * 12 + 4, none⟩ = some (.int .i64 y.tail.epoch) := hc2 4 _ rfl
        have e5 : wr.cell? ⟨b2, o2 + k * 12 + 5, none⟩ = some (.int .i64 y.tail.seq) := hc2 5 _ rfl
        have e6 : wr.cell? ⟨b2, o2 + k * 12 + 6, none⟩ = some (.slice a4_6 y.base.length c4_6) := hc2 6 _ rfl
        have e7 : wr.cell? ⟨b2, o2 + k * 12 + 7, none⟩ = some (.slice a4_7 y.clients.length c4_7) := hc2 7 _ rfl
        have e8 : wr.cell? ⟨b2, o2 + k * 12 + 8, none⟩ = some (.slice a4_8 y.log.length c4_8) := hc2 8 _ rfl
        have e9 : wr.cell? ⟨b2, o2 + k * 12 + 9, none⟩ = some (.int .i64 y.firm.epoch) := hc2 9 _ rfl
        have e10 : wr.cell? ⟨b2, o2 + k * 12 + 10, none⟩ = some (.int .i64 y.firm.seq) := hc2 10 _ rfl
        have e11 : wr.cell? ⟨b2, o2 + k * 12 + 11, none⟩ = some (.slice a4_11 y.chunks.length c4_11) := hc2 11 _ rfl
        have WH := Lib.hid hw
        clear hw hx hy hc1 hc2 hr1 hr2 ha hb P LEN zx zy f3_6 g3_6 f3_7 g3_7 f3_8 g3_8 f3_11 g3_11 f4_6 g4_6 f4_7 g4_7 f4_8 g4_8 f4_11 g4_11
        go_wp2_with fail
        have BM := Lib.hid (chainX wr (lay wr (.cells #[.int .i64 x.pg.pool, .int .i64 x.pg.no, .int .i64 x.seen, .int .i64 x.started, .int .i64 x.tail.epoch, .int .i64 x.tail.seq, .slice a3_6 x.base.length c3_6, .slice a3_7 x.clients.length c3_7, .slice a3_8 x.log.length c3_8, .int .i64 x.firm.epoch, .int .i64 x.firm.seq, .slice a3_11 x.chunks.length c3_11] 82)) (lay _ (.cells #[.int .i64 y.pg.pool, .int .i64 y.pg.no, .int .i64 y.seen, .int .i64 y.started, .int .i64 y.tail.epoch, .int .i64 y.tail.seq, .slice a4_6 y.base.length c4_6, .slice a4_7 y.clients.length c4_7, .slice a4_8 y.log.length c4_8, .int .i64 y.firm.epoch, .int .i64 y.firm.seq, .slice a4_11 y.chunks.length c4_11] 82)))
        refine (T.out _ BM.out).mono ?_
        rintro e9 w9 ⟨t, rfl, H, b9⟩
        have HH := Lib.hid H
        have B := Lib.hid (chainX w WH.out (chainX _ BM.out b9))
        clear H b9
        cases t
        · have G := Lib.hid (NO.out (fun e => by have := HH.out.2 e; cases this))
          clear NO YES HH
          go_wp2
          go_ret
          exact IffB.no G.out B.out
        · have G := Lib.hid (YES.out (HH.out.1 rfl))
          clear NO YES HH
          go_wp2
          go_roundw
          case rel => exact ⟨k + 1, by omega, by go_num, G.out, B.out⟩
          case measure => simp [intOf]; omega
      · obtain rfl : k = n := by omega
        have G := Lib.hid (END.out (by simp) P)
        have WH := Lib.hid hw
        clear hw ha hb P
        go_wp2
        go_ret
        exact IffB.yes G.out WH.out
  · have G := Lib.hid (LEN.out q)
    go_enter Try.func87, Try.ntmps87
    go_wp2
    go_ret
    exact IffB.no G.out (Below.refl _ _)
set_option maxRecDepth 100000 in
set_option maxHeartbeats 4000000 in
theorem listSame (l m : List DPgState) (a b : Option Addr) (c1 c2 : Nat) (w : World) {fr fr2 : Bool} {lo lo2 : Nat} (hl : Rdb.sz l ≤ 2097152) (hm : Rdb.sz m ≤ 2097152) (ha : Rows fr lo w a l) (hb : Rows fr2 lo2 w b m) :
    Calls Try.prog 55 #[.slice a l.length c1, .slice b m.length c2] w (IffB (l = m) w) := by
  have C := Lib.hid (equalStates l m a b c1 c2 w hl hm ha hb)
  go_enter Try.func55, Try.ntmps55
  go_wp2_with fail
  refine C.out.mono ?_
  rintro e9 w9 ⟨t, rfl, H, b9⟩
  have HH := Lib.hid H
  have B := Lib.hid b9
  clear H b9
  go_wp2
  go_ret
  exact ⟨t, rfl, HH.out, B.out⟩
set_option maxRecDepth 100000 in
set_option maxHeartbeats 4000000 in
theorem implSameStore (d e : DStore) {cs ds : List Value} {fr fr2 : Bool} {lo lo2 : Nat} (w : World) (hd : Rdb.sz d ≤ 2097152) (he : Rdb.sz e ≤ 2097152) (h : Rdb.rd fr lo w cs d) (k : Rdb.rd fr2 lo2 w ds e) :
    Calls Try.prog 26 #[.agg cs.toArray, .agg ds.toArray] w (IffB (d = e) w) := by
  have qd : Rdb.sz d = Rdb.sz d.live + Rdb.sz d.kept := rfl
  have qe : Rdb.sz e = Rdb.sz e.live + Rdb.sz e.kept := rfl
  obtain ⟨a0_0, c0_0, a0_1, c0_1, rfl, f0_0, g0_0, f0_1, g0_1⟩ := shape_Store h
  obtain ⟨a1_0, c1_0, a1_1, c1_1, rfl, f1_0, g1_0, f1_1, g1_1⟩ := shape_Store k
  have L := Lib.hid (chainX w (lay w (.cells #[.slice a0_0 d.live.length c0_0, .slice a0_1 d.kept.length c0_1] 51)) (lay _ (.cells #[.slice a1_0 e.live.length c1_0, .slice a1_1 e.kept.length c1_1] 51)))
  have XA := Lib.hid ((BxN.new w #[.slice a0_0 d.live.length c0_0, .slice a0_1 d.kept.length c0_1] 51).later (lay _ (.cells #[.slice a1_0 e.live.length c1_0, .slice a1_1 e.kept.length c1_1] 51)))
  have XB := BxN.new (w.alloc (.cells #[.slice a0_0 d.live.length c0_0, .slice a0_1 d.kept.length c0_1] 51)) #[.slice a1_0 e.live.length c1_0, .slice a1_1 e.kept.length c1_1] 51
  rw [World.size_alloc] at XB
  have YB := Lib.hid XB
  clear XB
  have XB := YB
  clear YB
  have C0 := Lib.hid (fun w' (b : Below w.heap.size w w') => listSame d.live e.live _ _ c0_0 c1_0 w' (by omega) (by omega) (f0_0.below b) (f1_0.below b))
  have C1 := Lib.hid (fun w' (b : Below w.heap.size w w') => listSame d.kept e.kept _ _ c0_1 c1_1 w' (by omega) (by omega) (f0_1.below b) (f1_1.below b))
  clear f0_0 f0_1 f1_0 f1_1 g0_0 g0_1 g1_0 g1_1 qd qe hd he
  have N0 := Lib.hid (show ¬ d.live = e.live → ¬ d = e from fun h m => h (by rw [m]))
  have N1 := Lib.hid (show ¬ d.kept = e.kept → ¬ d = e from fun h m => h (by rw [m]))
  have YS := Lib.hid (show d.live = e.live → d.kept = e.kept → d = e from fun a0 a1 => by
    obtain ⟨u0, u1⟩ := d
    obtain ⟨v0, v1⟩ := e
    dsimp only at *
    subst a0 a1
    rfl)
  generalize d.live.length = ndlive at *
  generalize d.kept.length = ndkept at *
  generalize e.live.length = nelive at *
  generalize e.kept.length = nekept at *
  have CA := Rd.c2 XA.out
  have CB := Rd.c2 XB.out
  go_enter Try.func26, Try.ntmps26
  go_wp2_with fail
  refine (C0.out _ L.out).mono ?_
  rintro e0 w0 ⟨t0, rfl, H, b⟩
  have B0 := Lib.hid (chainX w L.out b)
  have XA0 := Lib.hid (XA.out.later b)
  have XB0 := Lib.hid (XB.out.later b)
  clear CA CB
  have CA := Rd.c2 XA0.out
  have CB := Rd.c2 XB0.out
  have HH := Lib.hid H
  clear H b
  cases t0
  · have G := Lib.hid (N0.out (fun q => by have := HH.out.2 q; cases this))
    clear HH
    go_wp2
    go_ret
    exact IffB.no G.out B0.out
  · have q0 := Lib.hid (HH.out.1 rfl)
    clear HH
    go_wp2_with fail
    refine (C1.out _ B0.out).mono ?_
    rintro e1 w1 ⟨t1, rfl, H, b⟩
    have B1 := Lib.hid (chainX w B0.out b)
    have XA1 := Lib.hid (XA0.out.later b)
    have XB1 := Lib.hid (XB0.out.later b)
    clear CA CB
    have CA := Rd.c2 XA1.out
    have CB := Rd.c2 XB1.out
    have HH := Lib.hid H
    clear H b
    cases t1
    · have G := Lib.hid (N1.out (fun q => by have := HH.out.2 q; cases this))
      clear HH
      go_wp2
      go_ret
      exact IffB.no G.out B1.out
    · have q1 := Lib.hid (HH.out.1 rfl)
      clear HH
      have G := Lib.hid (YS.out q0.out q1.out)
      go_wp2
      go_ret
      exact IffB.yes G.out B1.out
end Go.Proofs.Ytbnjgehgaellmaa.Rd
