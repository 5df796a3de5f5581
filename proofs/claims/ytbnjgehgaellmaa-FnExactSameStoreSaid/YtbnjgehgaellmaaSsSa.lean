/-
  Two states compared, in the model: a plain field differs.
-/
import Derived.Test.YtbnjgehgaellmaaEqS
import Derived.Test.YtbnjgehgaellmaaRs
import Derived.Test.YtbnjgehgaellmaaDPgState
namespace Go.Proofs.Ytbnjgehgaellmaa.Rd
open Go.RowKit Go.ChangeShapes Go.WideShapes
open Go.Proofs.Ytbnjgehgaellmaa.Sg (BxN)
set_option linter.unusedVariables false
set_option linter.unusedSimpArgs false

set_option maxRecDepth 100000 in
set_option maxHeartbeats 40000000 in
theorem specStateSameA (d e : DPgState) {cs ds : List Value} {fr fr2 : Bool} {lo lo2 : Nat} (w : World) (hd : Rdb.sz d ≤ 2097152) (he : Rdb.sz e ≤ 2097152) (h : Rdb.rd fr lo w cs d) (k : Rdb.rd fr2 lo2 w ds e) (h5 : ¬ (d.pg = e.pg ∧ d.seen = e.seen ∧ d.started = e.started ∧ d.tail = e.tail ∧ d.firm = e.firm)) :
    Calls Try.prog 63 #[.agg cs.toArray, .agg ds.toArray] w (IffB (d = e) w) := by
  have qd : Rdb.sz d = Rdb.sz d.base + Rdb.sz d.clients + Rdb.sz d.log + Rdb.sz d.chunks := rfl
  have dba : d.base.length ≤ 2097152 := by have := sz_len d.base; omega
  have dcl : d.clients.length ≤ 2097152 := by have := sz_len d.clients; omega
  have dlo : d.log.length ≤ 2097152 := by have := sz_len d.log; omega
  have dch : d.chunks.length ≤ 2097152 := by have := sz_len d.chunks; omega
  clear qd hd
  have qe : Rdb.sz e = Rdb.sz e.base + Rdb.sz e.clients + Rdb.sz e.log + Rdb.sz e.chunks := rfl
  have eba : e.base.length ≤ 2097152 := by have := sz_len e.base; omega
  have ecl : e.clients.length ≤ 2097152 := by have := sz_len e.clients; omega
  have elo : e.log.length ≤ 2097152 := by have := sz_len e.log; omega
  have ech : e.chunks.length ≤ 2097152 := by have := sz_len e.chunks; omega
  clear qe he
  obtain ⟨a0_6, c0_6, a0_7, c0_7, a0_8, c0_8, a0_11, c0_11, rfl, f0_0, f0_1, f0_2, f0_3, f0_4, f0_5, f0_6, g0_6, f0_7, g0_7, f0_8, g0_8, f0_9, f0_10, f0_11, g0_11⟩ := shape_PgState h
  obtain ⟨a1_6, c1_6, a1_7, c1_7, a1_8, c1_8, a1_11, c1_11, rfl, f1_0, f1_1, f1_2, f1_3, f1_4, f1_5, f1_6, g1_6, f1_7, g1_7, f1_8, g1_8, f1_9, f1_10, f1_11, g1_11⟩ := shape_PgState k
  clear h k
  have L := Lib.hid (chainX w (lay w (.cells #[.int .i64 d.pg.pool, .int .i64 d.pg.no, .int .i64 d.seen, .int .i64 d.started, .int .i64 d.tail.epoch, .int .i64 d.tail.seq, .slice a0_6 d.base.length c0_6, .slice a0_7 d.clients.length c0_7, .slice a0_8 d.log.length c0_8, .int .i64 d.firm.epoch, .int .i64 d.firm.seq, .slice a0_11 d.chunks.length c0_11] 82)) (lay _ (.cells #[.int .i64 e.pg.pool, .int .i64 e.pg.no, .int .i64 e.seen, .int .i64 e.started, .int .i64 e.tail.epoch, .int .i64 e.tail.seq, .slice a1_6 e.base.length c1_6, .slice a1_7 e.clients.length c1_7, .slice a1_8 e.log.length c1_8, .int .i64 e.firm.epoch, .int .i64 e.firm.seq, .slice a1_11 e.chunks.length c1_11] 82)))
  have XA := Lib.hid ((BxN.new w #[.int .i64 d.pg.pool, .int .i64 d.pg.no, .int .i64 d.seen, .int .i64 d.started, .int .i64 d.tail.epoch, .int .i64 d.tail.seq, .slice a0_6 d.base.length c0_6, .slice a0_7 d.clients.length c0_7, .slice a0_8 d.log.length c0_8, .int .i64 d.firm.epoch, .int .i64 d.firm.seq, .slice a0_11 d.chunks.length c0_11] 82).later (lay _ (.cells #[.int .i64 e.pg.pool, .int .i64 e.pg.no, .int .i64 e.seen, .int .i64 e.started, .int .i64 e.tail.epoch, .int .i64 e.tail.seq, .slice a1_6 e.base.length c1_6, .slice a1_7 e.clients.length c1_7, .slice a1_8 e.log.length c1_8, .int .i64 e.firm.epoch, .int .i64 e.firm.seq, .slice a1_11 e.chunks.length c1_11] 82)))
  have XB := BxN.new (w.alloc (.cells #[.int .i64 d.pg.pool, .int .i64 d.pg.no, .int .i64 d.seen, .int .i64 d.started, .int .i64 d.tail.epoch, .int .i64 d.tail.seq, .slice a0_6 d.base.length c0_6, .slice a0_7 d.clients.length c0_7, .slice a0_8 d.log.length c0_8, .int .i64 d.firm.epoch, .int .i64 d.firm.seq, .slice a0_11 d.chunks.length c0_11] 82)) #[.int .i64 e.pg.pool, .int .i64 e.pg.no, .int .i64 e.seen, .int .i64 e.started, .int .i64 e.tail.epoch, .int .i64 e.tail.seq, .slice a1_6 e.base.length c1_6, .slice a1_7 e.clients.length c1_7, .slice a1_8 e.log.length c1_8, .int .i64 e.firm.epoch, .int .i64 e.firm.seq, .slice a1_11 e.chunks.length c1_11] 82
  rw [World.size_alloc] at XB
  have YB := Lib.hid XB
  clear XB
  have XB := YB
  clear YB
  obtain ⟨b0, h0, F0⟩ := eqvPg d.pg e.pg
  have H0 := Lib.hid h0
  have F0 := fun w => (F0 w).2
  clear h0
  have H1 := Lib.hid (show (d.seen == e.seen) = true ↔ d.seen = e.seen by simp)
  have H2 := Lib.hid (show (d.started == e.started) = true ↔ d.started = e.started by simp)
  obtain ⟨b3, h3, F3⟩ := eqvVer d.tail e.tail
  have H3 := Lib.hid h3
  have F3 := fun w => (F3 w).2
  clear h3
  obtain ⟨b4, h4, F4⟩ := eqvVer d.firm e.firm
  have H4 := Lib.hid h4
  have F4 := fun w => (F4 w).2
  clear h4
  have ha6 := Lib.hid f0_6
  have hb6 := Lib.hid f1_6
  have HA6 := Lib.hid (fun k (h : k < d.base.length) => get_lt h)
  have HB6 := Lib.hid (fun k (h : k < e.base.length) => get_lt h)
  have END6 := Lib.hid (@eq_end _ d.base e.base)
  have LEN6 := Lib.hid (show ¬ d.base.length = e.base.length → ¬ d = e from fun h m => h (by rw [m]))
  have ha7 := Lib.hid f0_7
  have hb7 := Lib.hid f1_7
  have HA7 := Lib.hid (fun k (h : k < d.clients.length) => get_lt h)
  have HB7 := Lib.hid (fun k (h : k < e.clients.length) => get_lt h)
  have END7 := Lib.hid (@eq_end _ d.clients e.clients)
  have LEN7 := Lib.hid (show ¬ d.clients.length = e.clients.length → ¬ d = e from fun h m => h (by rw [m]))
  have ha8 := Lib.hid f0_8
  have hb8 := Lib.hid f1_8
  have HA8 := Lib.hid (fun k (h : k < d.log.length) => get_lt h)
  have HB8 := Lib.hid (fun k (h : k < e.log.length) => get_lt h)
  have END8 := Lib.hid (@eq_end _ d.log e.log)
  have LEN8 := Lib.hid (show ¬ d.log.length = e.log.length → ¬ d = e from fun h m => h (by rw [m]))
  have ha11 := Lib.hid f0_11
  have hb11 := Lib.hid f1_11
  have HA11 := Lib.hid (fun k (h : k < d.chunks.length) => get_lt h)
  have HB11 := Lib.hid (fun k (h : k < e.chunks.length) => get_lt h)
  have END11 := Lib.hid (@eq_end _ d.chunks e.chunks)
  have LEN11 := Lib.hid (show ¬ d.chunks.length = e.chunks.length → ¬ d = e from fun h m => h (by rw [m]))
  clear f0_6 g0_6 f0_7 g0_7 f0_8 g0_8 f0_11 g0_11 f1_6 g1_6 f1_7 g1_7 f1_8 g1_8 f1_11 g1_11
  have N0 := Lib.hid (show ¬ d.pg = e.pg → ¬ d = e from fun h m => h (by rw [m]))
  have N1 := Lib.hid (show ¬ d.seen = e.seen → ¬ d = e from fun h m => h (by rw [m]))
  have N2 := Lib.hid (show ¬ d.started = e.started → ¬ d = e from fun h m => h (by rw [m]))
  have N3 := Lib.hid (show ¬ d.tail = e.tail → ¬ d = e from fun h m => h (by rw [m]))
  have N4 := Lib.hid (show ¬ d.firm = e.firm → ¬ d = e from fun h m => h (by rw [m]))
  have N5 := Lib.hid (show ¬ d.base = e.base → ¬ d = e from fun h m => h (by rw [m]))
  have N6 := Lib.hid (show ¬ d.clients = e.clients → ¬ d = e from fun h m => h (by rw [m]))
  have N7 := Lib.hid (show ¬ d.log = e.log → ¬ d = e from fun h m => h (by rw [m]))
  have N8 := Lib.hid (show ¬ d.chunks = e.chunks → ¬ d = e from fun h m => h (by rw [m]))
  have YS := Lib.hid (show d.pg = e.pg → d.seen = e.seen → d.started = e.started → d.tail = e.tail → d.firm = e.firm → d.base = e.base → d.clients = e.clients → d.log = e.log → d.chunks = e.chunks → d = e from fun a0 a1 a2 a3 a4 a5 a6 a7 a8 => by
    obtain ⟨u0, u1, u2, u3, u4, u5, u6, u7, u8⟩ := d
    obtain ⟨v0, v1, v2, v3, v4, v5, v6, v7, v8⟩ := e
    dsimp only at *
    subst a0 a1 a2 a3 a4 a5 a6 a7 a8
    rfl)
  have K5 := Lib.hid h5
  clear h5
  obtain ⟨b1, e1⟩ : ∃ b, (d.seen == e.seen) = b := ⟨_, rfl⟩
  obtain ⟨b2, e2⟩ : ∃ b, (d.started == e.started) = b := ⟨_, rfl⟩
  rw [e1] at H1
  rw [e2] at H2
  have e1 : (d.seen != e.seen) = !b1 := by rw [← e1]; rfl
  have e2 : (d.started != e.started) = !b2 := by rw [← e2]; rfl
  generalize d.pg.pool = dpp at *
  generalize d.pg.no = dpn at *
  generalize d.seen = dse at *
  generalize d.started = dst at *
  generalize d.tail.epoch = dte at *
  generalize d.tail.seq = dts at *
  generalize d.firm.epoch = dfe at *
  generalize d.firm.seq = dfs at *
  generalize e.pg.pool = epp at *
  generalize e.pg.no = epn at *
  generalize e.seen = ese at *
  generalize e.started = est at *
  generalize e.tail.epoch = ete at *
  generalize e.tail.seq = ets at *
  generalize e.firm.epoch = efe at *
  generalize e.firm.seq = efs at *
  generalize d.base.length = dnb at *
  generalize d.clients.length = dnc at *
  generalize d.log.length = dnl at *
  generalize d.chunks.length = dnk at *
  generalize e.base.length = enb at *
  generalize e.clients.length = enc at *
  generalize e.log.length = enl at *
  generalize e.chunks.length = enk at *
  cases b0
  · skip
    have G := Lib.hid (N0.out (fun q => by have := H0.out.2 q; cases this))
    have CA := Rd.c12 XA.out
    have CB := Rd.c12 XB.out
    go_enter Try.func63, Try.ntmps63
    go_wp2
    go_ret
    exact IffB.no G.out L.out
  · have q0 := Lib.hid (H0.out.1 rfl)
    cases b1
    · skip
      have G := Lib.hid (N1.out (fun q => by have := H1.out.2 q; cases this))
      have CA := Rd.c12 XA.out
      have CB := Rd.c12 XB.out
      go_enter Try.func63, Try.ntmps63
      go_wp2
      go_ret
      exact IffB.no G.out L.out
    · have q1 := Lib.hid (H1.out.1 rfl)
      cases b2
      · skip
        have G := Lib.hid (N2.out (fun q => by have := H2.out.2 q; cases this))
        have CA := Rd.c12 XA.out
        have CB := Rd.c12 XB.out
        go_enter Try.func63, Try.ntmps63
        go_wp2
        go_ret
        exact IffB.no G.out L.out
      · have q2 := Lib.hid (H2.out.1 rfl)
        cases b3
        · skip
          have G := Lib.hid (N3.out (fun q => by have := H3.out.2 q; cases this))
          have CA := Rd.c12 XA.out
          have CB := Rd.c12 XB.out
          go_enter Try.func63, Try.ntmps63
          go_wp2
          go_ret
          exact IffB.no G.out L.out
        · have q3 := Lib.hid (H3.out.1 rfl)
          cases b4
          · skip
            have G := Lib.hid (N4.out (fun q => by have := H4.out.2 q; cases this))
            have CA := Rd.c12 XA.out
            have CB := Rd.c12 XB.out
            go_enter Try.func63, Try.ntmps63
            go_wp2
            go_ret
            exact IffB.no G.out L.out
          · have q4 := Lib.hid (H4.out.1 rfl)
            exact absurd ⟨q0.out, q1.out, q2.out, q3.out, q4.out⟩ K5.out
end Go.Proofs.Ytbnjgehgaellmaa.Rd
