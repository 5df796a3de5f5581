/-
  Two states compared, in the model: list by list.
-/
import Derived.Test.YtbnjgehgaellmaaEqS
import Derived.Test.YtbnjgehgaellmaaRs
import Derived.Test.YtbnjgehgaellmaaDPgState
namespace Go.Proofs.Ytbnjgehgaellmaa.Rd
open Go.RowKit Go.ChangeShapes Go.WideShapes
open Go.Proofs.Ytbnjgehgaellmaa.Sg (BxN)
set_option linter.unusedVariables false
set_option linter.unusedSimpArgs false

set_option maxRecDepth 100000 in
set_option maxHeartbeats 40000000 in
theorem specStateSameC (d e : DPgState) {cs ds : List Value} {fr fr2 : Bool} {lo lo2 : Nat} (w : World) (hd : Rdb.sz d ≤ 2097152) (he : Rdb.sz e ≤ 2097152) (h : Rdb.rd fr lo w cs d) (k : Rdb.rd fr2 lo2 w ds e) (h5 : d.pg = e.pg ∧ d.seen = e.seen ∧ d.started = e.started ∧ d.tail = e.tail ∧ d.firm = e.firm) (h4 : d.base.length = e.base.length ∧ d.clients.length = e.clients.length ∧ d.log.length = e.log.length ∧ d.chunks.length = e.chunks.length) :
    Calls Try.prog 63 #[.agg cs.toArray, .agg ds.toArray] w (IffB (d = e) w) := by
  have qd : Rdb.sz d = Rdb.sz d.base + Rdb.sz d.clients + Rdb.sz d.log + Rdb.sz d.chunks := rfl
  have dba : d.base.length ≤ 2097152 := by have := sz_len d.base; omega
  have dcl : d.clients.length ≤ 2097152 := by have := sz_len d.clients; omega
  have dlo : d.log.length ≤ 2097152 := by have := sz_len d.log; omega
  have dch : d.chunks.length ≤ 2097152 := by have := sz_len d.chunks; omega
  clear qd hd
  have qe : Rdb.sz e = Rdb.sz e.base + Rdb.sz e.clients + Rdb.sz e.log + Rdb.sz e.chunks := rfl
  have eba : e.base.length ≤ 2097152 := by have := sz_len e.base; omega
  have ecl : e.clients.length ≤ 2097152 := by have := sz_len e.clients; omega
  have elo : e.log.length ≤ 2097152 := by have := sz_len e.log; omega
  have ech : e.chunks.length ≤ 2097152 := by have := sz_len e.chunks; omega
  clear qe he
  obtain ⟨a0_6, c0_6, a0_7, c0_7, a0_8, c0_8, a0_11, c0_11, rfl, f0_0, f0_1, f0_2, f0_3, f0_4, f0_5, f0_6, g0_6, f0_7, g0_7, f0_8, g0_8, f0_9, f0_10, f0_11, g0_11⟩ := shape_PgState h
  obtain ⟨a1_6, c1_6, a1_7, c1_7, a1_8, c1_8, a1_11, c1_11, rfl, f1_0, f1_1, f1_2, f1_3, f1_4, f1_5, f1_6, g1_6, f1_7, g1_7, f1_8, g1_8, f1_9, f1_10, f1_11, g1_11⟩ := shape_PgState k
  clear h k
  have L := Lib.hid (chainX w (lay w (.cells #[.int .i64 d.pg.pool, .int .i64 d.pg.no, .int .i64 d.seen, .int .i64 d.started, .int .i64 d.tail.epoch, .int .i64 d.tail.seq, .slice a0_6 d.base.length c0_6, .slice a0_7 d.clients.length c0_7, .slice a0_8 d.log.length c0_8, .int .i64 d.firm.epoch, .int .i64 d.firm.seq, .slice a0_11 d.chunks.length c0_11] 82)) (lay _ (.cells #[.int .i64 e.pg.pool, .int .i64 e.pg.no, .int .i64 e.seen, .int .i64 e.started, .int .i64 e.tail.epoch, .int .i64 e.tail.seq, .slice a1_6 e.base.length c1_6, .slice a1_7 e.clients.length c1_7, .slice a1_8 e.log.length c1_8, .int .i64 e.firm.epoch, .int .i64 e.firm.seq, .slice a1_11 e.chunks.length c1_11] 82)))
  have XA := Lib.hid ((BxN.new w #[.int .i64 d.pg.pool, .int .i64 d.pg.no, .int .i64 d.seen, .int .i64 d.started, .int .i64 d.tail.epoch, .int .i64 d.tail.seq, .slice a0_6 d.base.length c0_6, .slice a0_7 d.clients.length c0_7, .slice a0_8 d.log.length c0_8, .int .i64 d.firm.epoch, .int .i64 d.firm.seq, .slice a0_11 d.chunks.length c0_11] 82).later (lay _ (.cells #[.int .i64 e.pg.pool, .int .i64 e.pg.no, .int .i64 e.seen, .int .i64 e.started, .int .i64 e.tail.epoch, .int .i64 e.tail.seq, .slice a1_6 e.base.length c1_6, .slice a1_7 e.clients.length c1_7, .slice a1_8 e.log.length c1_8, .int .i64 e.firm.epoch, .int .i64 e.firm.seq, .slice a1_11 e.chunks.length c1_11] 82)))
  have XB := BxN.new (w.alloc (.cells #[.int .i64 d.pg.pool, .int .i64 d.pg.no, .int .i64 d.seen, .int .i64 d.started, .int .i64 d.tail.epoch, .int .i64 d.tail.seq, .slice a0_6 d.base.length c0_6, .slice a0_7 d.clients.length c0_7, .slice a0_8 d.log.length c0_8, .int .i64 d.firm.epoch, .int .i64 d.firm.seq, .slice a0_11 d.chunks.length c0_11] 82)) #[.int .i64 e.pg.pool, .int .i64 e.pg.no, .int .i64 e.seen, .int .i64 e.started, .int .i64 e.tail.epoch, .int .i64 e.tail.seq, .slice a1_6 e.base.length c1_6, .slice a1_7 e.clients.length c1_7, .slice a1_8 e.log.length c1_8, .int .i64 e.firm.epoch, .int .i64 e.firm.seq, .slice a1_11 e.chunks.length c1_11] 82
  rw [World.size_alloc] at XB
  have YB := Lib.hid XB
  clear XB
  have XB := YB
  clear YB
  obtain ⟨b0, h0, F0⟩ := eqvPg d.pg e.pg
  have H0 := Lib.hid h0
  have F0 := fun w => (F0 w).2
  clear h0
  have H1 := Lib.hid (show (d.seen == e.seen) = true ↔ d.seen = e.seen by simp)
  have H2 := Lib.hid (show (d.started == e.started) = true ↔ d.started = e.started by simp)
  obtain ⟨b3, h3, F3⟩ := eqvVer d.tail e.tail
  have H3 := Lib.hid h3
  have F3 := fun w => (F3 w).2
  clear h3
  obtain ⟨b4, h4, F4⟩ := eqvVer d.firm e.firm
  have H4 := Lib.hid h4
  have F4 := fun w => (F4 w).2
  clear h4
  have ha6 := Lib.hid f0_6
  have hb6 := Lib.hid f1_6
  have HA6 := Lib.hid (fun k (h : k < d.base.length) => get_lt h)
  have HB6 := Lib.hid (fun k (h : k < e.base.length) => get_lt h)
  have END6 := Lib.hid (@eq_end _ d.base e.base)
  have LEN6 := Lib.hid (show ¬ d.base.length = e.base.length → ¬ d = e from fun h m => h (by rw [m]))
  have ha7 := Lib.hid f0_7
  have hb7 := Lib.hid f1_7
  have HA7 := Lib.hid (fun k (h : k < d.clients.length) => get_lt h)
  have HB7 := Lib.hid (fun k (h : k < e.clients.length) => get_lt h)
  have END7 := Lib.hid (@eq_end _ d.clients e.clients)
  have LEN7 := Lib.hid (show ¬ d.clients.length = e.clients.length → ¬ d = e from fun h m => h (by rw [m]))
  have ha8 := Lib.hid f0_8
  have hb8 := Lib.hid f1_8
  have HA8 := Lib.hid (fun k (h : k < d.log.length) => get_lt h)
  have HB8 := Lib.hid (fun k (h : k < e.log.length) => get_lt h)
  have END8 := Lib.hid (@eq_end _ d.log e.log)
  have LEN8 := Lib.hid (show ¬ d.log.length = e.log.length → ¬ d = e from fun h m => h (by rw [m]))
  have ha11 := Lib.hid f0_11
  have hb11 := Lib.hid f1_11
  have HA11 := Lib.hid (fun k (h : k < d.chunks.length) => get_lt h)
  have HB11 := Lib.hid (fun k (h : k < e.chunks.length) => get_lt h)
  have END11 := Lib.hid (@eq_end _ d.chunks e.chunks)
  have LEN11 := Lib.hid (show ¬ d.chunks.length = e.chunks.length → ¬ d = e from fun h m => h (by rw [m]))
  clear f0_6 g0_6 f0_7 g0_7 f0_8 g0_8 f0_11 g0_11 f1_6 g1_6 f1_7 g1_7 f1_8 g1_8 f1_11 g1_11
  have N0 := Lib.hid (show ¬ d.pg = e.pg → ¬ d = e from fun h m => h (by rw [m]))
  have N1 := Lib.hid (show ¬ d.seen = e.seen → ¬ d = e from fun h m => h (by rw [m]))
  have N2 := Lib.hid (show ¬ d.started = e.started → ¬ d = e from fun h m => h (by rw [m]))
  have N3 := Lib.hid (show ¬ d.tail = e.tail → ¬ d = e from fun h m => h (by rw [m]))
  have N4 := Lib.hid (show ¬ d.firm = e.firm → ¬ d = e from fun h m => h (by rw [m]))
  have N5 := Lib.hid (show ¬ d.base = e.base → ¬ d = e from fun h m => h (by rw [m]))
  have N6 := Lib.hid (show ¬ d.clients = e.clients → ¬ d = e from fun h m => h (by rw [m]))
  have N7 := Lib.hid (show ¬ d.log = e.log → ¬ d = e from fun h m => h (by rw [m]))
  have N8 := Lib.hid (show ¬ d.chunks = e.chunks → ¬ d = e from fun h m => h (by rw [m]))
  have YS := Lib.hid (show d.pg = e.pg → d.seen = e.seen → d.started = e.started → d.tail = e.tail → d.firm = e.firm → d.base = e.base → d.clients = e.clients → d.log = e.log → d.chunks = e.chunks → d = e from fun a0 a1 a2 a3 a4 a5 a6 a7 a8 => by
    obtain ⟨u0, u1, u2, u3, u4, u5, u6, u7, u8⟩ := d
    obtain ⟨v0, v1, v2, v3, v4, v5, v6, v7, v8⟩ := e
    dsimp only at *
    subst a0 a1 a2 a3 a4 a5 a6 a7 a8
    rfl)
  have K5 := Lib.hid h5
  clear h5
  have K4 := Lib.hid h4
  clear h4
  obtain ⟨b1, e1⟩ : ∃ b, (d.seen == e.seen) = b := ⟨_, rfl⟩
  obtain ⟨b2, e2⟩ : ∃ b, (d.started == e.started) = b := ⟨_, rfl⟩
  rw [e1] at H1
  rw [e2] at H2
  have e1 : (d.seen != e.seen) = !b1 := by rw [← e1]; rfl
  have e2 : (d.started != e.started) = !b2 := by rw [← e2]; rfl
  generalize d.pg.pool = dpp at *
  generalize d.pg.no = dpn at *
  generalize d.seen = dse at *
  generalize d.started = dst at *
  generalize d.tail.epoch = dte at *
  generalize d.tail.seq = dts at *
  generalize d.firm.epoch = dfe at *
  generalize d.firm.seq = dfs at *
  generalize e.pg.pool = epp at *
  generalize e.pg.no = epn at *
  generalize e.seen = ese at *
  generalize e.started = est at *
  generalize e.tail.epoch = ete at *
  generalize e.tail.seq = ets at *
  generalize e.firm.epoch = efe at *
  generalize e.firm.seq = efs at *
  generalize d.base.length = dnb at *
  generalize d.clients.length = dnc at *
  generalize d.log.length = dnl at *
  generalize d.chunks.length = dnk at *
  generalize e.base.length = enb at *
  generalize e.clients.length = enc at *
  generalize e.log.length = enl at *
  generalize e.chunks.length = enk at *
  cases b0
  · exact absurd (H0.out.2 K5.out.1) (by decide)
  · have q0 := Lib.hid (H0.out.1 rfl)
    cases b1
    · exact absurd (H1.out.2 K5.out.2.1) (by decide)
    · have q1 := Lib.hid (H1.out.1 rfl)
      cases b2
      · exact absurd (H2.out.2 K5.out.2.2.1) (by decide)
      · have q2 := Lib.hid (H2.out.1 rfl)
        cases b3
        · exact absurd (H3.out.2 K5.out.2.2.2.1) (by decide)
        · have q3 := Lib.hid (H3.out.1 rfl)
          cases b4
          · exact absurd (H4.out.2 K5.out.2.2.2.2) (by decide)
          · have q4 := Lib.hid (H4.out.1 rfl)
            by_cases l6 : dnb = enb
            · subst l6
              by_cases l7 : dnc = enc
              · subst l7
                by_cases l8 : dnl = enl
                · subst l8
                  by_cases l11 : dnk = enk
                  · subst l11
                    have CA := Rd.c12 XA.out
                    have CB := Rd.c12 XB.out
                    go_enter Try.func63, Try.ntmps63
                    go_wp2
                    go_loopw [5] (fun i wr => ∃ k : Nat, k ≤ dnb ∧ i = .int .i64 k ∧ (∀ j, j < k → d.base[j]? = e.base[j]?) ∧ BxN wr w.heap.size [.int .i64 dpp, .int .i64 dpn, .int .i64 dse, .int .i64 dst, .int .i64 dte, .int .i64 dts, .slice a0_6 dnb c0_6, .slice a0_7 dnc c0_7, .slice a0_8 dnl c0_8, .int .i64 dfe, .int .i64 dfs, .slice a0_11 dnk c0_11] ∧ BxN wr (w.heap.size + 1) [.int .i64 epp, .int .i64 epn, .int .i64 ese, .int .i64 est, .int .i64 ete, .int .i64 ets, .slice a1_6 dnb c1_6, .slice a1_7 dnc c1_7, .slice a1_8 dnl c1_8, .int .i64 efe, .int .i64 efs, .slice a1_11 dnk c1_11] ∧ Below w.heap.size w wr) (fun i _ => dnb - (intOf i).toNat)
                    case atStart => exact ⟨0, by omega, rfl, fun j hj => by omega, XA.out, XB.out, L.out⟩
                    case round =>
                      clear CA CB XA XB L
                      obtain ⟨k, hk, rfl, P, XR, VR, hw⟩ := hrel
                      have XA := Lib.hid XR
                      have XB := Lib.hid VR
                      clear XR VR
                      have CA := Rd.c12 XA.out
                      have CB := Rd.c12 XB.out
                      by_cases hlt : k < dnb
                      · obtain ⟨x, hx⟩ := HA6.out k hlt
                        obtain ⟨y, hy⟩ := HB6.out k hlt
                        have NO := Lib.hid (ne_at hx hy)
                        have YES := Lib.hid (eq_next hx hy P)
                        obtain ⟨bq, hq, F⟩ := eqvHead x y
                        have F := fun w => (F w).2
                        have HQ := Lib.hid hq
                        have ha := ha6.out
                        have hb := hb6.out
                        obtain ⟨b1, o1, cs1, rfl, -, hB1, hr1, hc1⟩ := (ha.below hw).at' hx
                        obtain ⟨b2, o2, cs2, rfl, -, hB2, hr2, hc2⟩ := (hb.below hw).at' hy
                        have hs1 := (shape_Head hr1).1
                        have hs2 := (shape_Head hr2).1
                        subst hs1
                        subst hs2
                        have c0 : wr.cell? ⟨b1, o1 + k * 5, none⟩ = some (.string x.name) := hc1 0 _ rfl
                        have c1 : wr.cell? ⟨b1, o1 + k * 5 + 1, none⟩ = some (.int .i64 x.ver.epoch) := hc1 1 _ rfl
                        have c2 : wr.cell? ⟨b1, o1 + k * 5 + 2, none⟩ = some (.int .i64 x.ver.seq) := hc1 2 _ rfl
                        have c3 : wr.cell? ⟨b1, o1 + k * 5 + 3, none⟩ = some (.int .i64 x.size) := hc1 3 _ rfl
                        have c4 : wr.cell? ⟨b1, o1 + k * 5 + 4, none⟩ = some (.int .i64 x.sum) := hc1 4 _ rfl
                        have e0 : wr.cell? ⟨b2, o2 + k * 5, none⟩ = some (.string y.name) := hc2 0 _ rfl
                        have e1 : wr.cell? ⟨b2, o2 + k * 5 + 1, none⟩ = some (.int .i64 y.ver.epoch) := hc2 1 _ rfl
                        have e2 : wr.cell? ⟨b2, o2 + k * 5 + 2, none⟩ = some (.int .i64 y.ver.seq) := hc2 2 _ rfl
                        have e3 : wr.cell? ⟨b2, o2 + k * 5 + 3, none⟩ = some (.int .i64 y.size) := hc2 3 _ rfl
                        have e4 : wr.cell? ⟨b2, o2 + k * 5 + 4, none⟩ = some (.int .i64 y.sum) := hc2 4 _ rfl
                        have WH := Lib.hid hw
                        clear hw hx hy hc1 hc2 hr1 hr2 ha hb P hq
                        cases bq
                        · have G := Lib.hid (N5.out (NO.out (fun e => by have := HQ.out.2 e; cases this)))
                          clear NO YES HQ
                          go_wp2
                          go_quiet (fail)
                          go_wp2
                          go_ret
                          exact IffB.no G.out (WH.out.trans (below_drewN (Below.refl _ _) _))
                        · have G := Lib.hid (YES.out (HQ.out.1 rfl))
                          clear NO YES HQ
                          go_wp2
                          go_quiet (fail)
                          go_wp2
                          go_roundw
                          case rel => exact ⟨k + 1, by omega, by go_num, G.out, XA.out.later (below_drewN (Below.refl _ _) _), XB.out.later (below_drewN (Below.refl _ _) _), WH.out.trans (below_drewN (Below.refl _ _) _)⟩
                          case measure => simp [intOf]; omega
                      · obtain rfl : dnb = k := by omega
                        have q5 := Lib.hid (END6.out (by simp) P)
                        have B0 := Lib.hid hw
                        clear hw P
                        go_wp2
                        go_loopw [6] (fun i wr => ∃ k : Nat, k ≤ dnc ∧ i = .int .i64 k ∧ (∀ j, j < k → d.clients[j]? = e.clients[j]?) ∧ BxN wr w.heap.size [.int .i64 dpp, .int .i64 dpn, .int .i64 dse, .int .i64 dst, .int .i64 dte, .int .i64 dts, .slice a0_6 dnb c0_6, .slice a0_7 dnc c0_7, .slice a0_8 dnl c0_8, .int .i64 dfe, .int .i64 dfs, .slice a0_11 dnk c0_11] ∧ BxN wr (w.heap.size + 1) [.int .i64 epp, .int .i64 epn, .int .i64 ese, .int .i64 est, .int .i64 ete, .int .i64 ets, .slice a1_6 dnb c1_6, .slice a1_7 dnc c1_7, .slice a1_8 dnl c1_8, .int .i64 efe, .int .i64 efs, .slice a1_11 dnk c1_11] ∧ Below w.heap.size w wr) (fun i _ => dnc - (intOf i).toNat)
                        case atStart => exact ⟨0, by omega, rfl, fun j hj => by omega, XA.out, XB.out, B0.out⟩
                        case round =>
                          clear CA CB XA XB B0
                          obtain ⟨k, hk, rfl, P, XR, VR, hw⟩ := hrel
                          have XA := Lib.hid XR
                          have XB := Lib.hid VR
                          clear XR VR
                          have CA := Rd.c12 XA.out
                          have CB := Rd.c12 XB.out
                          by_cases hlt : k < dnc
                          · obtain ⟨x, hx⟩ := HA7.out k hlt
                            obtain ⟨y, hy⟩ := HB7.out k hlt
                            have NO := Lib.hid (ne_at hx hy)
                            have YES := Lib.hid (eq_next hx hy P)
                            obtain ⟨bq, hq, F⟩ := eqvLast x y
                            have F := fun w => (F w).2
                            have HQ := Lib.hid hq
                            have ha := ha7.out
                            have hb := hb7.out
                            obtain ⟨b1, o1, cs1, rfl, -, hB1, hr1, hc1⟩ := (ha.below hw).at' hx
                            obtain ⟨b2, o2, cs2, rfl, -, hB2, hr2, hc2⟩ := (hb.below hw).at' hy
                            have hs1 := (shape_Last hr1).1
                            have hs2 := (shape_Last hr2).1
                            subst hs1
                            subst hs2
                            have c0 : wr.cell? ⟨b1, o1 + k * 4, none⟩ = some (.int .i64 x.client) := hc1 0 _ rfl
                            have c1 : wr.cell? ⟨b1, o1 + k * 4 + 1, none⟩ = some (.int .i64 x.no) := hc1 1 _ rfl
                            have c2 : wr.cell? ⟨b1, o1 + k * 4 + 2, none⟩ = some (.int .i64 x.ver.epoch) := hc1 2 _ rfl
                            have c3 : wr.cell? ⟨b1, o1 + k * 4 + 3, none⟩ = some (.int .i64 x.ver.seq) := hc1 3 _ rfl
                            have e0 : wr.cell? ⟨b2, o2 + k * 4, none⟩ = some (.int .i64 y.client) := hc2 0 _ rfl
                            have e1 : wr.cell? ⟨b2, o2 + k * 4 + 1, none⟩ = some (.int .i64 y.no) := hc2 1 _ rfl
                            have e2 : wr.cell? ⟨b2, o2 + k * 4 + 2, none⟩ = some (.int .i64 y.ver.epoch) := hc2 2 _ rfl
                            have e3 : wr.cell? ⟨b2, o2 + k * 4 + 3, none⟩ = some (.int .i64 y.ver.seq) := hc2 3 _ rfl
                            have WH := Lib.hid hw
                            clear hw hx hy hc1 hc2 hr1 hr2 ha hb P hq
                            cases bq
                            · have G := Lib.hid (N6.out (NO.out (fun e => by have := HQ.out.2 e; cases this)))
                              clear NO YES HQ
                              go_wp2
                              go_quiet (fail)
                              go_wp2
                              go_ret
                              exact IffB.no G.out (WH.out.trans (below_drewN (Below.refl _ _) _))
                            · have G := Lib.hid (YES.out (HQ.out.1 rfl))
                              clear NO YES HQ
                              go_wp2
                              go_quiet (fail)
                              go_wp2
                              go_roundw
                              case rel => exact ⟨k + 1, by omega, by go_num, G.out, XA.out.later (below_drewN (Below.refl _ _) _), XB.out.later (below_drewN (Below.refl _ _) _), WH.out.trans (below_drewN (Below.refl _ _) _)⟩
                              case measure => simp [intOf]; omega
                          · obtain rfl : dnc = k := by omega
                            have q6 := Lib.hid (END7.out (by simp) P)
                            have B1 := Lib.hid hw
                            clear hw P
                            go_wp2
                            go_loopw [7] (fun i wr => ∃ k : Nat, k ≤ dnl ∧ i = .int .i64 k ∧ (∀ j, j < k → d.log[j]? = e.log[j]?) ∧ BxN wr w.heap.size [.int .i64 dpp, .int .i64 dpn, .int .i64 dse, .int .i64 dst, .int .i64 dte, .int .i64 dts, .slice a0_6 dnb c0_6, .slice a0_7 dnc c0_7, .slice a0_8 dnl c0_8, .int .i64 dfe, .int .i64 dfs, .slice a0_11 dnk c0_11] ∧ BxN wr (w.heap.size + 1) [.int .i64 epp, .int .i64 epn, .int .i64 ese, .int .i64 est, .int .i64 ete, .int .i64 ets, .slice a1_6 dnb c1_6, .slice a1_7 dnc c1_7, .slice a1_8 dnl c1_8, .int .i64 efe, .int .i64 efs, .slice a1_11 dnk c1_11] ∧ Below w.heap.size w wr) (fun i _ => dnl - (intOf i).toNat)
                            case atStart => exact ⟨0, by omega, rfl, fun j hj => by omega, XA.out, XB.out, B1.out⟩
                            case round =>
                              clear CA CB XA XB B1
                              obtain ⟨k, hk, rfl, P, XR, VR, hw⟩ := hrel
                              have XA := Lib.hid XR
                              have XB := Lib.hid VR
                              clear XR VR
                              have CA := Rd.c12 XA.out
                              have CB := Rd.c12 XB.out
                              by_cases hlt : k < dnl
                              · obtain ⟨x, hx⟩ := HA8.out k hlt
                                obtain ⟨y, hy⟩ := HB8.out k hlt
                                have NO := Lib.hid (ne_at hx hy)
                                have YES := Lib.hid (eq_next hx hy P)
                                obtain ⟨bq, hq, F⟩ := eqvEntry x y
                                have F := fun w => (F w).2
                                have HQ := Lib.hid hq
                                have ha := ha8.out
                                have hb := hb8.out
                                obtain ⟨b1, o1, cs1, rfl, -, hB1, hr1, hc1⟩ := (ha.below hw).at' hx
                                obtain ⟨b2, o2, cs2, rfl, -, hB2, hr2, hc2⟩ := (hb.below hw).at' hy
                                have hs1 := (shape_Entry hr1).1
                                have hs2 := (shape_Entry hr2).1
                                subst hs1
                                subst hs2
                                have c0 : wr.cell? ⟨b1, o1 + k * 10, none⟩ = some (.int .i64 x.ver.epoch) := hc1 0 _ rfl
                                have c1 : wr.cell? ⟨b1, o1 + k * 10 + 1, none⟩ = some (.int .i64 x.ver.seq) := hc1 1 _ rfl
                                have c2 : wr.cell? ⟨b1, o1 + k * 10 + 2, none⟩ = some (.int .i64 x.prior.epoch) := hc1 2 _ rfl
                                have c3 : wr.cell? ⟨b1, o1 + k * 10 + 3, none⟩ = some (.int .i64 x.prior.seq) := hc1 3 _ rfl
                                have c4 : wr.cell? ⟨b1, o1 + k * 10 + 4, none⟩ = some (.string x.name) := hc1 4 _ rfl
                                have c5 : wr.cell? ⟨b1, o1 + k * 10 + 5, none⟩ = some (.bool x.gone) := hc1 5 _ rfl
                                have c6 : wr.cell? ⟨b1, o1 + k * 10 + 6, none⟩ = some (.int .i64 x.size) := hc1 6 _ rfl
                                have c7 : wr.cell? ⟨b1, o1 + k * 10 + 7, none⟩ = some (.int .i64 x.sum) := hc1 7 _ rfl
                                have c8 : wr.cell? ⟨b1, o1 + k * 10 + 8, none⟩ = some (.int .i64 x.req.client) := hc1 8 _ rfl
                                have c9 : wr.cell? ⟨b1, o1 + k * 10 + 9, none⟩ = some (.int .i64 x.req.no) := hc1 9 _ rfl
                                have e0 : wr.cell? ⟨b2, o2 + k * 10, none⟩ = some (.int .i64 y.ver.epoch) := hc2 0 _ rfl
                                have e1 : wr.cell? ⟨b2, o2 + k * 10 + 1, none⟩ = some (.int .i64 y.ver.seq) := hc2 1 _ rfl
                                have e2 : wr.cell? ⟨b2, o2 + k * 10 + 2, none⟩ = some (.int .i64 y.prior.epoch) := hc2 2 _ rfl
                                have e3 : wr.cell? ⟨b2, o2 + k * 10 + 3, none⟩ = some (.int .i64 y.prior.seq) := hc2 3 _ rfl
                                have e4 : wr.cell? ⟨b2, o2 + k * 10 + 4, none⟩ = some (.string y.name) := hc2 4 _ rfl
                                have e5 : wr.cell? ⟨b2, o2 + k * 10 + 5, none⟩ = some (.bool y.gone) := hc2 5 _ rfl
                                have e6 : wr.cell? ⟨b2, o2 + k * 10 + 6, none⟩ = some (.int .i64 y.size) := hc2 6 _ rfl
                                have e7 : wr.cell? ⟨b2, o2 + k * 10 + 7, none⟩ = some (.int .i64 y.sum) := hc2 7 _ rfl
                                have e8 : wr.cell? ⟨b2, o2 + k * 10 + 8, none⟩ = some (.int .i64 y.req.client) := hc2 8 _ rfl
                                have e9 : wr.cell? ⟨b2, o2 + k * 10 + 9, none⟩ = some (.int .i64 y.req.no) := hc2 9 _ rfl
                                have WH := Lib.hid hw
                                clear hw hx hy hc1 hc2 hr1 hr2 ha hb P hq
                                cases bq
                                · have G := Lib.hid (N7.out (NO.out (fun e => by have := HQ.out.2 e; cases this)))
                                  clear NO YES HQ
                                  go_wp2
                                  go_quiet (fail)
                                  go_wp2
                                  go_ret
                                  exact IffB.no G.out (WH.out.trans (below_drewN (Below.refl _ _) _))
                                · have G := Lib.hid (YES.out (HQ.out.1 rfl))
                                  clear NO YES HQ
                                  go_wp2
                                  go_quiet (fail)
                                  go_wp2
                                  go_roundw
                                  case rel => exact ⟨k + 1, by omega, by go_num, G.out, XA.out.later (below_drewN (Below.refl _ _) _), XB.out.later (below_drewN (Below.refl _ _) _), WH.out.trans (below_drewN (Below.refl _ _) _)⟩
                                  case measure => simp [intOf]; omega
                              · obtain rfl : dnl = k := by omega
                                have q7 := Lib.hid (END8.out (by simp) P)
                                have B2 := Lib.hid hw
                                clear hw P
                                go_wp2
                                go_loopw [8] (fun i wr => ∃ k : Nat, k ≤ dnk ∧ i = .int .i64 k ∧ (∀ j, j < k → d.chunks[j]? = e.chunks[j]?) ∧ BxN wr w.heap.size [.int .i64 dpp, .int .i64 dpn, .int .i64 dse, .int .i64 dst, .int .i64 dte, .int .i64 dts, .slice a0_6 dnb c0_6, .slice a0_7 dnc c0_7, .slice a0_8 dnl c0_8, .int .i64 dfe, .int .i64 dfs, .slice a0_11 dnk c0_11] ∧ BxN wr (w.heap.size + 1) [.int .i64 epp, .int .i64 epn, .int .i64 ese, .int .i64 est, .int .i64 ete, .int .i64 ets, .slice a1_6 dnb c1_6, .slice a1_7 dnc c1_7, .slice a1_8 dnl c1_8, .int .i64 efe, .int .i64 efs, .slice a1_11 dnk c1_11] ∧ Below w.heap.size w wr) (fun i _ => dnk - (intOf i).toNat)
                                case atStart => exact ⟨0, by omega, rfl, fun j hj => by omega, XA.out, XB.out, B2.out⟩
                                case round =>
                                  clear CA CB XA XB B2
                                  obtain ⟨k, hk, rfl, P, XR, VR, hw⟩ := hrel
                                  have XA := Lib.hid XR
                                  have XB := Lib.hid VR
                                  clear XR VR
                                  have CA := Rd.c12 XA.out
                                  have CB := Rd.c12 XB.out
                                  by_cases hlt : k < dnk
                                  · obtain ⟨x, hx⟩ := HA11.out k hlt
                                    obtain ⟨y, hy⟩ := HB11.out k hlt
                                    have NO := Lib.hid (ne_at hx hy)
                                    have YES := Lib.hid (eq_next hx hy P)
                                    obtain ⟨bq, hq, F⟩ := eqvChunk x y
                                    have F := fun w => (F w).2
                                    have HQ := Lib.hid hq
                                    have ha := ha11.out
                                    have hb := hb11.out
                                    obtain ⟨b1, o1, cs1, rfl, -, hB1, hr1, hc1⟩ := (ha.below hw).at' hx
                                    obtain ⟨b2, o2, cs2, rfl, -, hB2, hr2, hc2⟩ := (hb.below hw).at' hy
                                    have hs1 := (shape_Chunk hr1).1
                                    have hs2 := (shape_Chunk hr2).1
                                    subst hs1
                                    subst hs2
                                    have c0 : wr.cell? ⟨b1, o1 + k * 6, none⟩ = some (.string x.name) := hc1 0 _ rfl
                                    have c1 : wr.cell? ⟨b1, o1 + k * 6 + 1, none⟩ = some (.int .i64 x.ver.epoch) := hc1 1 _ rfl
                                    have c2 : wr.cell? ⟨b1, o1 + k * 6 + 2, none⟩ = some (.int .i64 x.ver.seq) := hc1 2 _ rfl
                                    have c3 : wr.cell? ⟨b1, o1 + k * 6 + 3, none⟩ = some (.int .i64 x.pos) := hc1 3 _ rfl
                                    have c4 : wr.cell? ⟨b1, o1 + k * 6 + 4, none⟩ = some (.int .i64 x.sum) := hc1 4 _ rfl
                                    have c5 : wr.cell? ⟨b1, o1 + k * 6 + 5, none⟩ = some (.string x.bytes) := hc1 5 _ rfl
                                    have e0 : wr.cell? ⟨b2, o2 + k * 6, none⟩ = some (.string y.name) := hc2 0 _ rfl
                                    have e1 : wr.cell? ⟨b2, o2 + k * 6 + 1, none⟩ = some (.int .i64 y.ver.epoch) := hc2 1 _ rfl
                                    have e2 : wr.cell? ⟨b2, o2 + k * 6 + 2, none⟩ = some (.int .i64 y.ver.seq) := hc2 2 _ rfl
                                    have e3 : wr.cell? ⟨b2, o2 + k * 6 + 3, none⟩ = some (.int .i64 y.pos) := hc2 3 _ rfl
                                    have e4 : wr.cell? ⟨b2, o2 + k * 6 + 4, none⟩ = some (.int .i64 y.sum) := hc2 4 _ rfl
                                    have e5 : wr.cell? ⟨b2, o2 + k * 6 + 5, none⟩ = some (.string y.bytes) := hc2 5 _ rfl
                                    have WH := Lib.hid hw
                                    clear hw hx hy hc1 hc2 hr1 hr2 ha hb P hq
                                    cases bq
                                    · have G := Lib.hid (N8.out (NO.out (fun e => by have := HQ.out.2 e; cases this)))
                                      clear NO YES HQ
                                      go_wp2
                                      go_quiet (fail)
                                      go_wp2
                                      go_ret
                                      exact IffB.no G.out (WH.out.trans (below_drewN (Below.refl _ _) _))
                                    · have G := Lib.hid (YES.out (HQ.out.1 rfl))
                                      clear NO YES HQ
                                      go_wp2
                                      go_quiet (fail)
                                      go_wp2
                                      go_roundw
                                      case rel => exact ⟨k + 1, by omega, by go_num, G.out, XA.out.later (below_drewN (Below.refl _ _) _), XB.out.later (below_drewN (Below.refl _ _) _), WH.out.trans (below_drewN (Below.refl _ _) _)⟩
                                      case measure => simp [intOf]; omega
                                  · obtain rfl : dnk = k := by omega
                                    have q8 := Lib.hid (END11.out (by simp) P)
                                    have B3 := Lib.hid hw
                                    clear hw P
                                    have G := Lib.hid (YS.out q0.out q1.out q2.out q3.out q4.out q5.out q6.out q7.out q8.out)
                                    go_wp2
                                    go_ret
                                    exact IffB.yes G.out B3.out
                  · exact absurd K4.out.2.2.2 l11
                · exact absurd K4.out.2.2.1 l8
              · exact absurd K4.out.2.1 l7
            · exact absurd K4.out.1 l6
end Go.Proofs.Ytbnjgehgaellmaa.Rd
