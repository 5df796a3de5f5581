/-
  The last version and the log of a state, in the model (written by tools/gen/sto.py).
-/
import Derived.Test.YtbckdfoapmjilaaGreatDoorStM
import Derived.Test.YtbckdfoapmjilaaGreatDoorStP
import Derived.Test.YtbckdfoapmjilaaGreatDoorEnt
import Derived.Deep.DeepCutAuto
import Derived.Deep.RegionHeld3
namespace Go.Proofs.YtbckdfoapmjilaaGreatDoor.Rd
open Go.RowKit Go.ChangeShapes Go.WideShapes Go.Proofs.YtbckdfoapmjilaaGreatDoor.GfI Go.Proofs.YtbckdfoapmjilaaGreatDoor.GfS
open Go.Proofs.YtbckdfoapmjilaaGreatDoor.Sg (BxN)
set_option linter.unusedVariables false
set_option linter.unusedSimpArgs false

set_option maxRecDepth 100000 in
set_option maxHeartbeats 4000000 in
theorem specLast (d : DPgState) {a6 a7 a8 a11 : Option Addr} {c6 c7 c8 c11 : Nat} (w : World) (l8 : d.log.length ≤ 2097152) {fr : Bool} {lo : Nat} (r8 : Rows fr lo w a8 d.log) : Calls Tryz.prog 35 #[.agg #[.int .i64 d.pg.pool, .int .i64 d.pg.no, .int .i64 d.seen, .int .i64 d.started, .int .i64 d.tail.epoch, .int .i64 d.tail.seq, .slice a6 d.base.length c6, .slice a7 d.clients.length c7, .slice a8 d.log.length c8, .int .i64 d.firm.epoch, .int .i64 d.firm.seq, .slice a11 d.chunks.length c11]] w (RetW (.agg #[.int .i64 (lastV d).epoch, .int .i64 (lastV d).seq]) w) := by
  have Z := chainX w (lay w (.cells #[.int .i64 d.pg.pool, .int .i64 d.pg.no, .int .i64 d.seen, .int .i64 d.started, .int .i64 d.tail.epoch, .int .i64 d.tail.seq, .slice a6 d.base.length c6, .slice a7 d.clients.length c7, .slice a8 d.log.length c8, .int .i64 d.firm.epoch, .int .i64 d.firm.seq, .slice a11 d.chunks.length c11] 41)) (lay (w.alloc (.cells #[.int .i64 d.pg.pool, .int .i64 d.pg.no, .int .i64 d.seen, .int .i64 d.started, .int .i64 d.tail.epoch, .int .i64 d.tail.seq, .slice a6 d.base.length c6, .slice a7 d.clients.length c7, .slice a8 d.log.length c8, .int .i64 d.firm.epoch, .int .i64 d.firm.seq, .slice a11 d.chunks.length c11] 41)) (.cells #[.int .i64 0, .int .i64 0] 35))
  have XX := (BxN.new w #[.int .i64 d.pg.pool, .int .i64 d.pg.no, .int .i64 d.seen, .int .i64 d.started, .int .i64 d.tail.epoch, .int .i64 d.tail.seq, .slice a6 d.base.length c6, .slice a7 d.clients.length c7, .slice a8 d.log.length c8, .int .i64 d.firm.epoch, .int .i64 d.firm.seq, .slice a11 d.chunks.length c11] 41).later (lay (w.alloc (.cells #[.int .i64 d.pg.pool, .int .i64 d.pg.no, .int .i64 d.seen, .int .i64 d.started, .int .i64 d.tail.epoch, .int .i64 d.tail.seq, .slice a6 d.base.length c6, .slice a7 d.clients.length c7, .slice a8 d.log.length c8, .int .i64 d.firm.epoch, .int .i64 d.firm.seq, .slice a11 d.chunks.length c11] 41)) (.cells #[.int .i64 0, .int .i64 0] 35))
  have X_4 := XX.cells 4 _ rfl
  have X_5 := XX.cells 5 _ rfl
  have X_8 := XX.cells 8 _ rfl
  have FIN := Lib.hid (fun (p q : Int) (hp : (lastV d).epoch = p) (hq : (lastV d).seq = q) => (show RetW (.agg #[.int .i64 (lastV d).epoch, .int .i64 (lastV d).seq]) w (.returned (.agg #[.int .i64 p, .int .i64 q])) (w.alloc (.cells #[.int .i64 d.pg.pool, .int .i64 d.pg.no, .int .i64 d.seen, .int .i64 d.started, .int .i64 d.tail.epoch, .int .i64 d.tail.seq, .slice a6 d.base.length c6, .slice a7 d.clients.length c7, .slice a8 d.log.length c8, .int .i64 d.firm.epoch, .int .i64 d.firm.seq, .slice a11 d.chunks.length c11] 41) |>.alloc (.cells #[.int .i64 p, .int .i64 q] 35)) from ⟨by rw [hp, hq], chainX w (lay w (.cells #[.int .i64 d.pg.pool, .int .i64 d.pg.no, .int .i64 d.seen, .int .i64 d.started, .int .i64 d.tail.epoch, .int .i64 d.tail.seq, .slice a6 d.base.length c6, .slice a7 d.clients.length c7, .slice a8 d.log.length c8, .int .i64 d.firm.epoch, .int .i64 d.firm.seq, .slice a11 d.chunks.length c11] 41)) (lay (w.alloc (.cells #[.int .i64 d.pg.pool, .int .i64 d.pg.no, .int .i64 d.seen, .int .i64 d.started, .int .i64 d.tail.epoch, .int .i64 d.tail.seq, .slice a6 d.base.length c6, .slice a7 d.clients.length c7, .slice a8 d.log.length c8, .int .i64 d.firm.epoch, .int .i64 d.firm.seq, .slice a11 d.chunks.length c11] 41)) (.cells #[.int .i64 p, .int .i64 q] 35))⟩))
  by_cases h0 : d.log.length = 0
  · have EV : lastV d = d.tail := by unfold lastV; rw [h0]; rfl
    have F := Lib.hid (FIN.out _ _ rfl rfl)
    rw [h0] at X_8 F ⊢
    rw [EV] at F ⊢
    clear FIN XX r8 Z EV h0
    go_enter Tryz.func35, Tryz.ntmps35
    go_wp2
    exact bodyPost_ret (v := .agg #[.int .i64 d.tail.epoch, .int .i64 d.tail.seq]) (by simp [results, Tryz.results35, go_sem, *]) rfl F.out
  · obtain ⟨j, hj⟩ : ∃ j, d.log.length = j + 1 := ⟨d.log.length - 1, by omega⟩
    obtain ⟨e, he⟩ := get_lt (show j < d.log.length by omega)
    have EV : lastV d = e.ver := by
      unfold lastV
      rw [hj]
      show (match d.log[j]? with | some e => e.ver | none => d.tail) = e.ver
      rw [he]
    obtain ⟨b, off, cs, e8, -, hB, hr, hcc⟩ := (r8.below Z).at' he
    obtain ⟨rfl, f0_0, f0_1, f0_2, f0_3, f0_4, f0_6, f0_7, f0_8, f0_9⟩ := shape_Entry hr
    have e0 : ((w.alloc (.cells #[.int .i64 d.pg.pool, .int .i64 d.pg.no, .int .i64 d.seen, .int .i64 d.started, .int .i64 d.tail.epoch, .int .i64 d.tail.seq, .slice a6 d.base.length c6, .slice a7 d.clients.length c7, .slice a8 d.log.length c8, .int .i64 d.firm.epoch, .int .i64 d.firm.seq, .slice a11 d.chunks.length c11] 41)).alloc (.cells #[.int .i64 0, .int .i64 0] 35)).cell? ⟨b, off + j * 10, none⟩ = some (.int .i64 e.ver.epoch) := hcc 0 _ rfl
    have e1 : ((w.alloc (.cells #[.int .i64 d.pg.pool, .int .i64 d.pg.no, .int .i64 d.seen, .int .i64 d.started, .int .i64 d.tail.epoch, .int .i64 d.tail.seq, .slice a6 d.base.length c6, .slice a7 d.clients.length c7, .slice a8 d.log.length c8, .int .i64 d.firm.epoch, .int .i64 d.firm.seq, .slice a11 d.chunks.length c11] 41)).alloc (.cells #[.int .i64 0, .int .i64 0] 35)).cell? ⟨b, off + j * 10 + 1, none⟩ = some (.int .i64 e.ver.seq) := hcc 1 _ rfl
    have F := Lib.hid (FIN.out _ _ rfl rfl)
    rw [EV] at F ⊢
    rw [hj] at X_8 F e0 e1 ⊢
    clear FIN XX r8 Z hcc hr EV
    subst e8
    have j1 : (j : Int) < ((j + 1 : Nat) : Int) := by omega
    have j0 : (0 : Int) ≤ (j : Int) := by omega
    have WK : IntKind.i64.wrap (((j + 1 : Nat) : Int) - 1) = (j : Int) := by rw [IntKind.wrap_i64]; omega
    have WK2 : IntKind.i64.wrap (j : Int) = (j : Int) := by rw [IntKind.wrap_i64]; omega
    have nz2 : decide ((0 : Int) < (j : Int) + 1) = true := decide_eq_true (by omega)
    have nz3 : (0 : Int) < (j : Int) + 1 := by omega
    have nz4 : (j : Int) < (j : Int) + 1 := by omega
    clear hj
    go_enter Tryz.func35, Tryz.ntmps35
    go_wp2
    exact bodyPost_ret (v := .agg #[.int .i64 e.ver.epoch, .int .i64 e.ver.seq]) (by simp [results, Tryz.results35, go_sem, *]) rfl F.out
set_option maxRecDepth 100000 in
set_option maxHeartbeats 4000000 in
theorem specLog (d : DPgState) {a6 a7 a8 a11 : Option Addr} {c6 c7 c8 c11 : Nat} (w : World) (l6 : d.base.length ≤ 1000) (g6 : d.base.length ≤ c6) (l8 : d.log.length ≤ 2097152) {fr : Bool} {lo : Nat} (r6 : Rows fr lo w a6 d.base) (r8 : Rows fr lo w a8 d.log) :
    Calls Tryz.prog 33 #[.agg #[.int .i64 d.pg.pool, .int .i64 d.pg.no, .int .i64 d.seen, .int .i64 d.started, .int .i64 d.tail.epoch, .int .i64 d.tail.seq, .slice a6 d.base.length c6, .slice a7 d.clients.length c7, .slice a8 d.log.length c8, .int .i64 d.firm.epoch, .int .i64 d.firm.seq, .slice a11 d.chunks.length c11]] w (IffB (LogP d.tail d.base d.log) w) := by
  have LW := Lib.hid (chainX w (lay w (.cells #[.int .i64 d.pg.pool, .int .i64 d.pg.no, .int .i64 d.seen, .int .i64 d.started, .int .i64 d.tail.epoch, .int .i64 d.tail.seq, .slice a6 d.base.length c6, .slice a7 d.clients.length c7, .slice a8 d.log.length c8, .int .i64 d.firm.epoch, .int .i64 d.firm.seq, .slice a11 d.chunks.length c11] 41)) (lay (w.alloc (.cells #[.int .i64 d.pg.pool, .int .i64 d.pg.no, .int .i64 d.seen, .int .i64 d.started, .int .i64 d.tail.epoch, .int .i64 d.tail.seq, .slice a6 d.base.length c6, .slice a7 d.clients.length c7, .slice a8 d.log.length c8, .int .i64 d.firm.epoch, .int .i64 d.firm.seq, .slice a11 d.chunks.length c11] 41)) (.cells #[.int .i64 d.tail.epoch, .int .i64 d.tail.seq] 35)))
  have XX := (BxN.new w #[.int .i64 d.pg.pool, .int .i64 d.pg.no, .int .i64 d.seen, .int .i64 d.started, .int .i64 d.tail.epoch, .int .i64 d.tail.seq, .slice a6 d.base.length c6, .slice a7 d.clients.length c7, .slice a8 d.log.length c8, .int .i64 d.firm.epoch, .int .i64 d.firm.seq, .slice a11 d.chunks.length c11] 41).later (lay (w.alloc (.cells #[.int .i64 d.pg.pool, .int .i64 d.pg.no, .int .i64 d.seen, .int .i64 d.started, .int .i64 d.tail.epoch, .int .i64 d.tail.seq, .slice a6 d.base.length c6, .slice a7 d.clients.length c7, .slice a8 d.log.length c8, .int .i64 d.firm.epoch, .int .i64 d.firm.seq, .slice a11 d.chunks.length c11] 41)) (.cells #[.int .i64 d.tail.epoch, .int .i64 d.tail.seq] 35))
  have X_0 := XX.cells 0 _ rfl
  have X_1 := XX.cells 1 _ rfl
  have X_2 := XX.cells 2 _ rfl
  have X_3 := XX.cells 3 _ rfl
  have X_4 := XX.cells 4 _ rfl
  have X_5 := XX.cells 5 _ rfl
  have X_6 := XX.cells 6 _ rfl
  have X_7 := XX.cells 7 _ rfl
  have X_8 := XX.cells 8 _ rfl
  have X_9 := XX.cells 9 _ rfl
  have X_10 := XX.cells 10 _ rfl
  have X_11 := XX.cells 11 _ rfl
  have X0 := (BxN.new w #[.int .i64 d.pg.pool, .int .i64 d.pg.no, .int .i64 d.seen, .int .i64 d.started, .int .i64 d.tail.epoch, .int .i64 d.tail.seq, .slice a6 d.base.length c6, .slice a7 d.clients.length c7, .slice a8 d.log.length c8, .int .i64 d.firm.epoch, .int .i64 d.firm.seq, .slice a11 d.chunks.length c11] 41)
  have x_0 := X0.cells 0 _ rfl
  have x_1 := X0.cells 1 _ rfl
  have x_2 := X0.cells 2 _ rfl
  have x_3 := X0.cells 3 _ rfl
  have x_4 := X0.cells 4 _ rfl
  have x_5 := X0.cells 5 _ rfl
  have x_6 := X0.cells 6 _ rfl
  have x_7 := X0.cells 7 _ rfl
  have x_8 := X0.cells 8 _ rfl
  have x_9 := X0.cells 9 _ rfl
  have x_10 := X0.cells 10 _ rfl
  have x_11 := X0.cells 11 _ rfl
  have XH := Lib.hid XX
  have A0 := BxN.new (w.alloc (.cells #[.int .i64 d.pg.pool, .int .i64 d.pg.no, .int .i64 d.seen, .int .i64 d.started, .int .i64 d.tail.epoch, .int .i64 d.tail.seq, .slice a6 d.base.length c6, .slice a7 d.clients.length c7, .slice a8 d.log.length c8, .int .i64 d.firm.epoch, .int .i64 d.firm.seq, .slice a11 d.chunks.length c11] 41)) #[.int .i64 d.tail.epoch, .int .i64 d.tail.seq] 35
  rw [World.size_alloc] at A0
  have AH0 := Lib.hid A0
  have R8 := Lib.hid (fun w' (b : Below w.heap.size w w') => r8.below b)
  have R6 := Lib.hid (fun w' (b : Below w.heap.size w w') => (r6.below b).weak (Nat.zero_le lo) (fun h : false = true => (by cases h)))
  have GL := Lib.hid (fun k (h : k < d.log.length) => get_lt h)
  have HS := Lib.hid (fun k e (hk : d.log[k]? = some e) => headsAt_succ d.base hk)
  have LEN := Lib.hid (fun k e (hk : d.log[k]? = some e) => (List.getElem?_eq_some_iff.1 hk).1)
  have VS := Lib.hid (fun k e (hk : d.log[k]? = some e) => (show verAt d.tail d.log (k + 1) = e.ver from by show (match d.log[k]? with | some e => e.ver | none => d.tail) = e.ver; rw [hk]))
  have BH := Lib.hid LW.out
  obtain ⟨n, hn⟩ : ∃ n, d.log.length = n := ⟨_, rfl⟩
  have HN := Lib.hid hn
  rw [hn] at l8 GL LEN XH AH0 X_8 x_8 LW BH A0 XX ⊢
  clear r6 r8 hn
  go_enter Tryz.func33, Tryz.ntmps33
  go_wp2
  go_loopw [4, 5] (fun hv i wr => ∃ (k : Nat) (ah : Option Addr) (ch : Nat), k ≤ n ∧ k ≤ 25 ∧ i = .int .i64 k ∧ hv = .slice ah (headsAt d.base d.log k).length ch ∧ (headsAt d.base d.log k).length ≤ 1000 ∧ (headsAt d.base d.log k).length ≤ ch ∧ ((k = 0 ∧ ah = a6) ∨ Rows true (w.heap.size + 2) wr ah (headsAt d.base d.log k)) ∧ Sg.BxN wr w.heap.size [.int .i64 d.pg.pool, .int .i64 d.pg.no, .int .i64 d.seen, .int .i64 d.started, .int .i64 d.tail.epoch, .int .i64 d.tail.seq, .slice a6 d.base.length c6, .slice a7 d.clients.length c7, .slice a8 d.log.length c8, .int .i64 d.firm.epoch, .int .i64 d.firm.seq, .slice a11 d.chunks.length c11] ∧ Sg.BxN wr (w.heap.size + 1) [.int .i64 (verAt d.tail d.log k).epoch, .int .i64 (verAt d.tail d.log k).seq] ∧ (∀ (j : Nat) (e : DEntry), j < k → d.log[j]? = some e → entryB e = true ∧ (e.prior.epoch = (verAt d.tail d.log j).epoch ∧ e.prior.seq = (verAt d.tail d.log j).seq) ∧ (headsAt d.base d.log (j + 1)).length ≤ 16) ∧ Below w.heap.size w wr) (fun _ i _ => n - (intOf i).toNat)
  case atStart => exact ⟨0, a6, c6, by omega, by omega, rfl, rfl, l6, g6, .inl ⟨rfl, rfl⟩, by have := XH.out; rw [HN.out] at *; exact this, AH0.out, fun j e hj => absurd hj (Nat.not_lt_zero _), LW.out⟩
  case round =>
    obtain ⟨k, ah, ch, hk, hk25, rfl, rfl, hl, hlc, hrow, hX, hA, hOK, hw⟩ := hrel
    clear BH
    have BH := Lib.hid hw
    have OK := Lib.hid hOK
    have XH := Lib.hid hX
    have AH := Lib.hid hA
    have X_0 := hX.cells 0 _ rfl
    have X_1 := hX.cells 1 _ rfl
    have X_2 := hX.cells 2 _ rfl
    have X_3 := hX.cells 3 _ rfl
    have X_4 := hX.cells 4 _ rfl
    have X_5 := hX.cells 5 _ rfl
    have X_6 := hX.cells 6 _ rfl
    have X_7 := hX.cells 7 _ rfl
    have X_8 := hX.cells 8 _ rfl
    have X_9 := hX.cells 9 _ rfl
    have X_10 := hX.cells 10 _ rfl
    have X_11 := hX.cells 11 _ rfl
    have A_0 := hA.cells 0 _ rfl
    have A_1 := hA.cells 1 _ rfl
    have af := hA.free
    rw [HN.out] at X_8
    by_cases hlt : k < n
    · by_cases hm : k ≤ 24
      rotate_left
      · have NO := Lib.hid (show ¬ LogP d.tail d.base d.log from fun h => by have h1 := h.1; have h2 := HN.out; omega)
        have d1 : decide ((k : Int) ≤ 24) = false := decide_eq_false (by omega)
        have d2 : decide ((n : Int) ≤ 24) = false := decide_eq_false (by omega)
        clear hw hX hA hrow hOK
        go_wp2
        go_ret
        exact IffB.no NO.out BH.out
      · have dk : decide ((k : Int) ≤ 24) = true := decide_eq_true (by omega)
        obtain ⟨e, hx⟩ := GL.out k hlt
        obtain ⟨b, off, cs, e8, -, hB, hr, hcc⟩ := (R8.out wr hw).at' hx
        obtain ⟨rfl, f0_0, f0_1, f0_2, f0_3, f0_4, f0_6, f0_7, f0_8, f0_9⟩ := shape_Entry hr
        have z0 : wr.cell? ⟨b, off + k * 10, none⟩ = some (.int .i64 e.ver.epoch) := hcc 0 _ rfl
        have z1 : wr.cell? ⟨b, off + k * 10 + 1, none⟩ = some (.int .i64 e.ver.seq) := hcc 1 _ rfl
        have z2 : wr.cell? ⟨b, off + k * 10 + 2, none⟩ = some (.int .i64 e.prior.epoch) := hcc 2 _ rfl
        have z3 : wr.cell? ⟨b, off + k * 10 + 3, none⟩ = some (.int .i64 e.prior.seq) := hcc 3 _ rfl
        have z4 : wr.cell? ⟨b, off + k * 10 + 4, none⟩ = some (.string e.name) := hcc 4 _ rfl
        have z5 : wr.cell? ⟨b, off + k * 10 + 5, none⟩ = some (.bool e.gone) := hcc 5 _ rfl
        have z6 : wr.cell? ⟨b, off + k * 10 + 6, none⟩ = some (.int .i64 e.size) := hcc 6 _ rfl
        have z7 : wr.cell? ⟨b, off + k * 10 + 7, none⟩ = some (.int .i64 e.sum) := hcc 7 _ rfl
        have z8 : wr.cell? ⟨b, off + k * 10 + 8, none⟩ = some (.int .i64 e.req.client) := hcc 8 _ rfl
        have z9 : wr.cell? ⟨b, off + k * 10 + 9, none⟩ = some (.int .i64 e.req.no) := hcc 9 _ rfl
        have LE := lay wr (.cells #[.int .i64 e.ver.epoch, .int .i64 e.ver.seq, .int .i64 e.prior.epoch, .int .i64 e.prior.seq, .string e.name, .bool e.gone, .int .i64 e.size, .int .i64 e.sum, .int .i64 e.req.client, .int .i64 e.req.no] 114)
        have EH := Lib.hid (BxN.new wr #[.int .i64 e.ver.epoch, .int .i64 e.ver.seq, .int .i64 e.prior.epoch, .int .i64 e.prior.seq, .string e.name, .bool e.gone, .int .i64 e.size, .int .i64 e.sum, .int .i64 e.req.client, .int .i64 e.req.no] 114)
        have E_0 := EH.out.cells 0 _ rfl
        have E_1 := EH.out.cells 1 _ rfl
        have E_2 := EH.out.cells 2 _ rfl
        have E_3 := EH.out.cells 3 _ rfl
        have E_4 := EH.out.cells 4 _ rfl
        have E_5 := EH.out.cells 5 _ rfl
        have E_6 := EH.out.cells 6 _ rfl
        have E_7 := EH.out.cells 7 _ rfl
        have E_8 := EH.out.cells 8 _ rfl
        have E_9 := EH.out.cells 9 _ rfl
        have XH := Lib.hid (hX.later LE)
        have AH := Lib.hid (hA.later LE)
        have a_0 := AH.out.cells 0 _ rfl
        have a_1 := AH.out.cells 1 _ rfl
        have BH := Lib.hid (hw.trans (LE.mono hw.size))
        have HX := Lib.hid hx
        have CE := Lib.hid (fun w' (q : Below (wr.alloc (.cells #[.int .i64 e.ver.epoch, .int .i64 e.ver.seq, .int .i64 e.prior.epoch, .int .i64 e.prior.seq, .string e.name, .bool e.gone, .int .i64 e.size, .int .i64 e.sum, .int .i64 e.req.client, .int .i64 e.req.no] 114)).heap.size (wr.alloc (.cells #[.int .i64 e.ver.epoch, .int .i64 e.ver.seq, .int .i64 e.prior.epoch, .int .i64 e.prior.seq, .string e.name, .bool e.gone, .int .i64 e.size, .int .i64 e.sum, .int .i64 e.req.client, .int .i64 e.req.no] 114)) w') => specEntryOk e w')
        have BE := Lib.hid (Below.refl (wr.alloc (.cells #[.int .i64 e.ver.epoch, .int .i64 e.ver.seq, .int .i64 e.prior.epoch, .int .i64 e.prior.seq, .string e.name, .bool e.gone, .int .i64 e.size, .int .i64 e.sum, .int .i64 e.req.client, .int .i64 e.req.no] 114)).heap.size (wr.alloc (.cells #[.int .i64 e.ver.epoch, .int .i64 e.ver.seq, .int .i64 e.prior.epoch, .int .i64 e.prior.seq, .string e.name, .bool e.gone, .int .i64 e.size, .int .i64 e.sum, .int .i64 e.req.client, .int .i64 e.req.no] 114)))
        have WFE := Lib.hid (show Enc.wf e from Enc.iff.1 (show Rdb.rd fr lo wr _ e from hr) |>.2)
        have LT := Lib.hid (show w.heap.size + 1 < wr.heap.size from hA.lt)
        have NOW := Lib.hid (fun (hno : ¬ (entryB e = true ∧ (e.prior.epoch = (verAt d.tail d.log k).epoch ∧ e.prior.seq = (verAt d.tail d.log k).seq) ∧ (headsAt d.base d.log (k + 1)).length ≤ 16)) => (show ¬ LogP d.tail d.base d.log from fun h => hno (h.2 k e HX.out)))
        have YES := Lib.hid (fun (hok : entryB e = true ∧ (e.prior.epoch = (verAt d.tail d.log k).epoch ∧ e.prior.seq = (verAt d.tail d.log k).seq) ∧ (headsAt d.base d.log (k + 1)).length ≤ 16) => (show ∀ (j : Nat) (e : DEntry), j < k + 1 → d.log[j]? = some e → entryB e = true ∧ (e.prior.epoch = (verAt d.tail d.log j).epoch ∧ e.prior.seq = (verAt d.tail d.log j).seq) ∧ (headsAt d.base d.log (j + 1)).length ≤ 16 from fun j x hj hjx => by
          by_cases ej : j = k
          · subst ej; rw [HX.out] at hjx; cases hjx; exact hok
          · exact OK.out j x (by omega) hjx))
        have RROW := Lib.hid hrow
        have V1 := Lib.hid (VS.out k e hx)
        have H1 := Lib.hid (HS.out k e hx)
        clear OK hOK hrow hw hX hA hcc hr hx LE
        subst e8
        generalize entryB e = be at *
        cases be
        · have NO := Lib.hid (NOW.out (fun h => Bool.false_ne_true h.1))
          clear NOW YES
          go_wp2_with fail
          refine (CE.out _ BE.out).mono ?_
          rintro e9 w9 ⟨rfl, b9⟩
          have BH := Lib.hid (BH.out.trans (b9.mono BH.out.size))
          clear b9
          go_wp2
          go_ret
          exact IffB.no NO.out BH.out
        · generalize hve : (verAt d.tail d.log k).epoch = ve at *
          generalize hvs : (verAt d.tail d.log k).seq = vs at *
          clear hve hvs
          by_cases hpe : e.prior.epoch = ve
          · by_cases hps : e.prior.seq = vs
            · skip
              subst hpe
              subst hps
              have b9s := Lib.hid BE.out
              go_wp2_with fail
              refine (CE.out _ BE.out).mono ?_
              rintro e9 w9 ⟨rfl, b9⟩
              have BH := Lib.hid (BH.out.trans (b9.mono BH.out.size))
              have EH := Lib.hid (EH.out.later b9)
              have AH := Lib.hid (AH.out.later b9)
              have XH := Lib.hid (XH.out.later b9)
              have E_0 := EH.out.cells 0 _ rfl
              have E_1 := EH.out.cells 1 _ rfl
              have E_2 := EH.out.cells 2 _ rfl
              have E_3 := EH.out.cells 3 _ rfl
              have E_4 := EH.out.cells 4 _ rfl
              have E_5 := EH.out.cells 5 _ rfl
              have E_6 := EH.out.cells 6 _ rfl
              have E_7 := EH.out.cells 7 _ rfl
              have E_8 := EH.out.cells 8 _ rfl
              have E_9 := EH.out.cells 9 _ rfl
              have a_0 := AH.out.cells 0 _ rfl
              have a_1 := AH.out.cells 1 _ rfl
              have aff := AH.out.free
              have RR := Lib.hid (show Rows false 0 ((w9.setCell ⟨w.heap.size + 1, 0, none⟩ (.int .i64 e.ver.epoch)).setCell ⟨w.heap.size + 1, 1, none⟩ (.int .i64 e.ver.seq)) ah (headsAt d.base d.log k) from by
                rcases RROW.out with ⟨rfl, rfl⟩ | r
                · exact R6.out _ (Below.setCell (p := ⟨w.heap.size + 1, 1, none⟩) (Below.setCell (p := ⟨w.heap.size + 1, 0, none⟩) BH.out (Nat.le_succ _) _) (Nat.le_succ _) _)
                · exact (Rows.far (p := ⟨w.heap.size + 1, 1, none⟩) (Rows.far (p := ⟨w.heap.size + 1, 0, none⟩) ((r.below (lay wr (.cells #[.int .i64 e.ver.epoch, .int .i64 e.ver.seq, .int .i64 e.prior.epoch, .int .i64 e.prior.seq, .string e.name, .bool e.gone, .int .i64 e.size, .int .i64 e.sum, .int .i64 e.req.client, .int .i64 e.req.no] 114))).below b9) (Nat.lt_succ_self _)) (Nat.lt_succ_self _)).weak (Nat.zero_le _) (fun h : false = true => (by cases h)))
              have B2 := Lib.hid (Below.setCell (p := ⟨w.heap.size + 1, 1, none⟩) (Below.setCell (p := ⟨w.heap.size + 1, 0, none⟩) BH.out (Nat.le_succ _) (.int .i64 e.ver.epoch)) (Nat.le_succ _) (.int .i64 e.ver.seq))
              have ne1 : wr.heap.size ≠ w.heap.size + 1 := by have := LT.out; omega
              have ne2 : w.heap.size + 1 ≠ wr.heap.size := fun h => ne1 h.symm
              have ne3 : w.heap.size ≠ w.heap.size + 1 := by omega
              have AH := Lib.hid ((AH.out.put 0 (by simp) (.int .i64 e.ver.epoch)).put 1 (by simp) (.int .i64 e.ver.seq))
              have EH := Lib.hid ((EH.out.far (p := ⟨w.heap.size + 1, 0, none⟩) ne2 (.int .i64 e.ver.epoch)).far (p := ⟨w.heap.size + 1, 1, none⟩) ne2 (.int .i64 e.ver.seq))
              have XH := Lib.hid ((XH.out.far (p := ⟨w.heap.size + 1, 0, none⟩) (Ne.symm ne3) (.int .i64 e.ver.epoch)).far (p := ⟨w.heap.size + 1, 1, none⟩) (Ne.symm ne3) (.int .i64 e.ver.seq))
              have LT9 := Lib.hid (show w.heap.size + 2 ≤ w9.heap.size from by have h1 := LT.out; have h2 := b9.size; rw [World.size_alloc] at h2; omega)
              have CPU := Lib.hid (specPut ah ch (headsAt d.base d.log k) e ((w9.setCell ⟨w.heap.size + 1, 0, none⟩ (.int .i64 e.ver.epoch)).setCell ⟨w.heap.size + 1, 1, none⟩ (.int .i64 e.ver.seq)) hl hlc WFE.out RR.out)
              rw [← H1.out] at CPU
              have F_0 := EH.out.cells 0 _ rfl
              have F_1 := EH.out.cells 1 _ rfl
              have F_2 := EH.out.cells 2 _ rfl
              have F_3 := EH.out.cells 3 _ rfl
              have F_4 := EH.out.cells 4 _ rfl
              have F_5 := EH.out.cells 5 _ rfl
              have F_6 := EH.out.cells 6 _ rfl
              have F_7 := EH.out.cells 7 _ rfl
              have F_8 := EH.out.cells 8 _ rfl
              have F_9 := EH.out.cells 9 _ rfl
              clear b9 RR
              generalize (headsAt d.base d.log k).length = hlen at *
              go_wp2_with fail
              refine CPU.out.mono ?_
              rintro e9 w5 ⟨a5, c5, rfl, hc5, o5, b5⟩
              have BH := Lib.hid (B2.out.trans (b5.mono B2.out.size))
              have XZ := Lib.hid (XH.out.later b5)
              have AZ := Lib.hid (AH.out.later b5)
              have R5 := Lib.hid ((o5.rows).weak (lo' := w.heap.size + 2) (by have := LT9.out; simpa using this) id)
              skip
              clear b5 o5
              by_cases hh : (headsAt d.base d.log (k + 1)).length ≤ 16
              · have OK2 := Lib.hid (YES.out (by refine ⟨?_, ⟨?_, ?_⟩, hh⟩ <;> first | rfl | trivial))
                have d3 : decide ((16 : Int) < ((headsAt d.base d.log (k + 1)).length : Int)) = false := decide_eq_false (by omega)
                have hl5 : (headsAt d.base d.log (k + 1)).length ≤ 1000 := by omega
                clear NOW YES
                have AZ2 := Lib.hid (show Sg.BxN w5 (w.heap.size + 1) [.int .i64 (verAt d.tail d.log (k + 1)).epoch, .int .i64 (verAt d.tail d.log (k + 1)).seq] from by rw [V1.out]; exact AZ.out)
                go_wp2
                go_roundw
                case rel => exact ⟨k + 1, a5, c5, by omega, by omega, by go_num, rfl, hl5, hc5, .inr R5.out, XZ.out, AZ2.out, OK2.out, BH.out⟩
                case measure => simp [intOf]; omega
              · have NO := Lib.hid (NOW.out (fun h => hh h.2.2))
                have d3 : decide ((16 : Int) < ((headsAt d.base d.log (k + 1)).length : Int)) = true := decide_eq_true (by omega)
                clear NOW YES
                go_wp2
                go_ret
                exact IffB.no NO.out BH.out
            · have NO := Lib.hid (NOW.out (fun h => hps h.2.1.2))
              clear NOW YES
              subst hpe
              generalize e.prior.seq = ps at *
              generalize e.prior.epoch = pe at *
              go_wp2_with fail
              refine (CE.out _ BE.out).mono ?_
              rintro e9 w9 ⟨rfl, b9⟩
              have BH := Lib.hid (BH.out.trans (b9.mono BH.out.size))
              have EH := Lib.hid (EH.out.later b9)
              have AH := Lib.hid (AH.out.later b9)
              have XH := Lib.hid (XH.out.later b9)
              have E_0 := EH.out.cells 0 _ rfl
              have E_1 := EH.out.cells 1 _ rfl
              have E_2 := EH.out.cells 2 _ rfl
              have E_3 := EH.out.cells 3 _ rfl
              have E_4 := EH.out.cells 4 _ rfl
              have E_5 := EH.out.cells 5 _ rfl
              have E_6 := EH.out.cells 6 _ rfl
              have E_7 := EH.out.cells 7 _ rfl
              have E_8 := EH.out.cells 8 _ rfl
              have E_9 := EH.out.cells 9 _ rfl
              have a_0 := AH.out.cells 0 _ rfl
              have a_1 := AH.out.cells 1 _ rfl
              have aff := AH.out.free
              go_wp2
              go_ret
              exact IffB.no NO.out BH.out
          · have NO := Lib.hid (NOW.out (fun h => hpe h.2.1.1))
            clear NOW YES
            generalize e.prior.epoch = pe at *
            generalize e.prior.seq = ps at *
            go_wp2_with fail
            refine (CE.out _ BE.out).mono ?_
            rintro e9 w9 ⟨rfl, b9⟩
            have BH := Lib.hid (BH.out.trans (b9.mono BH.out.size))
            have EH := Lib.hid (EH.out.later b9)
            have AH := Lib.hid (AH.out.later b9)
            have XH := Lib.hid (XH.out.later b9)
            have E_0 := EH.out.cells 0 _ rfl
            have E_1 := EH.out.cells 1 _ rfl
            have E_2 := EH.out.cells 2 _ rfl
            have E_3 := EH.out.cells 3 _ rfl
            have E_4 := EH.out.cells 4 _ rfl
            have E_5 := EH.out.cells 5 _ rfl
            have E_6 := EH.out.cells 6 _ rfl
            have E_7 := EH.out.cells 7 _ rfl
            have E_8 := EH.out.cells 8 _ rfl
            have E_9 := EH.out.cells 9 _ rfl
            have a_0 := AH.out.cells 0 _ rfl
            have a_1 := AH.out.cells 1 _ rfl
            have aff := AH.out.free
            go_wp2
            go_ret
            exact IffB.no NO.out BH.out
    · obtain rfl : k = n := by omega
      clear hw hX hA hrow hOK
      by_cases hm : k ≤ 24
      · have YS := Lib.hid (show LogP d.tail d.base d.log from ⟨by rw [HN.out]; exact hm, fun i e he => OK.out i e (LEN.out i e he) he⟩)
        have d2 : decide ((k : Int) ≤ 24) = true := decide_eq_true (by omega)
        go_wp2
        go_ret
        exact IffB.yes YS.out BH.out
      · have NO := Lib.hid (show ¬ LogP d.tail d.base d.log from fun h => hm (by rw [← HN.out]; exact h.1))
        have d2 : decide ((k : Int) ≤ 24) = false := decide_eq_false (by omega)
        go_wp2
        go_ret
        exact IffB.no NO.out BH.out
end Go.Proofs.YtbckdfoapmjilaaGreatDoor.Rd
