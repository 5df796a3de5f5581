/-
  A chunk of a state, in the program (written by tools/gen/stch.py).
-/
import Derived.Test.YtbckdfoapmjilaaGreatDoorStR
import Derived.Test.YtbckdfoapmjilaaGreatDoorStW
namespace Go.Proofs.YtbckdfoapmjilaaGreatDoor.Rd
open Go.RowKit Go.ChangeShapes Go.WideShapes Go.Proofs.YtbckdfoapmjilaaGreatDoor.GfI Go.Proofs.YtbckdfoapmjilaaGreatDoor.GfS
open Go.Proofs.YtbckdfoapmjilaaGreatDoor.Sg (BxN)
set_option linter.unusedVariables false
set_option linter.unusedSimpArgs false

theorem set6 {B : Nat} {w0 w : World} {b : Nat} (h : Below B w0 w) (hb : B ≤ b) (v0 v1 v2 v3 v4 v5 : Value) : Below B w0 ((((((w.setCell ⟨b, 0, none⟩ v0).setCell ⟨b, 1, none⟩ v1).setCell ⟨b, 2, none⟩ v2).setCell ⟨b, 3, none⟩ v3).setCell ⟨b, 4, none⟩ v4).setCell ⟨b, 5, none⟩ v5) :=
  Below.setCell (p := ⟨b, 5, none⟩) (Below.setCell (p := ⟨b, 4, none⟩) (Below.setCell (p := ⟨b, 3, none⟩) (Below.setCell (p := ⟨b, 2, none⟩) (Below.setCell (p := ⟨b, 1, none⟩) (Below.setCell (p := ⟨b, 0, none⟩) h hb v0) hb v1) hb v2) hb v3) hb v4) hb v5
/-- What ChunkOf answers: the chunk of a name, a version and a place in a valid state. -/
def ChP (d : DPgState) (nm : ByteArray) (v : DVer) (pos : Int) (q : DChunk) (b : Bool) : Prop :=
  (StP d → ∃ (k : Nat) (b' : Bool), PlaceC d.chunks ⟨nm, v, pos, 0, ByteArray.empty⟩ k b' ∧ ((b' = true ∧ b = true ∧ d.chunks[k]? = some q) ∨ (b' = false ∧ b = false ∧ q = ⟨ByteArray.empty, ⟨0, 0⟩, 0, 0, ByteArray.empty⟩))) ∧
  (¬ StP d → q = ⟨ByteArray.empty, ⟨0, 0⟩, 0, 0, ByteArray.empty⟩ ∧ b = false)
set_option maxRecDepth 100000 in
set_option maxHeartbeats 4000000 in
theorem implChunkAt (d : DPgState) {a6 a7 a8 a11 : Option Addr} {c6 c7 c8 c11 : Nat} (nm : ByteArray) (v : DVer) (pos : Int) (w : World) (l11 : d.chunks.length ≤ 2097152) {fr : Bool} {lo : Nat} (r11 : Rows fr lo w a11 d.chunks) (hR : RisC d.chunks) : Calls Tryz.prog 56 #[.agg #[.int .i64 d.pg.pool, .int .i64 d.pg.no, .int .i64 d.seen, .int .i64 d.started, .int .i64 d.tail.epoch, .int .i64 d.tail.seq, .slice a6 d.base.length c6, .slice a7 d.clients.length c7, .slice a8 d.log.length c8, .int .i64 d.firm.epoch, .int .i64 d.firm.seq, .slice a11 d.chunks.length c11], .string nm, .agg #[.int .i64 v.epoch, .int .i64 v.seq], .int .i64 pos] w (AnsC d.chunks ⟨nm, v, pos, 0, ByteArray.empty⟩ w) := by
  have LY := chainX w (lay w (.cells #[.int .i64 d.pg.pool, .int .i64 d.pg.no, .int .i64 d.seen, .int .i64 d.started, .int .i64 d.tail.epoch, .int .i64 d.tail.seq, .slice a6 d.base.length c6, .slice a7 d.clients.length c7, .slice a8 d.log.length c8, .int .i64 d.firm.epoch, .int .i64 d.firm.seq, .slice a11 d.chunks.length c11] 41)) (lay (w.alloc (.cells #[.int .i64 d.pg.pool, .int .i64 d.pg.no, .int .i64 d.seen, .int .i64 d.started, .int .i64 d.tail.epoch, .int .i64 d.tail.seq, .slice a6 d.base.length c6, .slice a7 d.clients.length c7, .slice a8 d.log.length c8, .int .i64 d.firm.epoch, .int .i64 d.firm.seq, .slice a11 d.chunks.length c11] 41)) (.cells #[.int .i64 v.epoch, .int .i64 v.seq] 35))
  have XX := (BxN.new w #[.int .i64 d.pg.pool, .int .i64 d.pg.no, .int .i64 d.seen, .int .i64 d.started, .int .i64 d.tail.epoch, .int .i64 d.tail.seq, .slice a6 d.base.length c6, .slice a7 d.clients.length c7, .slice a8 d.log.length c8, .int .i64 d.firm.epoch, .int .i64 d.firm.seq, .slice a11 d.chunks.length c11] 41).later (lay (w.alloc (.cells #[.int .i64 d.pg.pool, .int .i64 d.pg.no, .int .i64 d.seen, .int .i64 d.started, .int .i64 d.tail.epoch, .int .i64 d.tail.seq, .slice a6 d.base.length c6, .slice a7 d.clients.length c7, .slice a8 d.log.length c8, .int .i64 d.firm.epoch, .int .i64 d.firm.seq, .slice a11 d.chunks.length c11] 41)) (.cells #[.int .i64 v.epoch, .int .i64 v.seq] 35))
  have X_11 := XX.cells 11 _ rfl
  have V0 := BxN.new (w.alloc (.cells #[.int .i64 d.pg.pool, .int .i64 d.pg.no, .int .i64 d.seen, .int .i64 d.started, .int .i64 d.tail.epoch, .int .i64 d.tail.seq, .slice a6 d.base.length c6, .slice a7 d.clients.length c7, .slice a8 d.log.length c8, .int .i64 d.firm.epoch, .int .i64 d.firm.seq, .slice a11 d.chunks.length c11] 41)) #[.int .i64 v.epoch, .int .i64 v.seq] 35
  rw [World.size_alloc] at V0
  have V_0 := V0.cells 0 _ rfl
  have V_1 := V0.cells 1 _ rfl
  have LW := Lib.hid LY
  have C := Lib.hid (implSearch a11 c11 d.chunks ⟨nm, v, pos, 0, ByteArray.empty⟩ ((w.alloc (.cells #[.int .i64 d.pg.pool, .int .i64 d.pg.no, .int .i64 d.seen, .int .i64 d.started, .int .i64 d.tail.epoch, .int .i64 d.tail.seq, .slice a6 d.base.length c6, .slice a7 d.clients.length c7, .slice a8 d.log.length c8, .int .i64 d.firm.epoch, .int .i64 d.firm.seq, .slice a11 d.chunks.length c11] 41)).alloc (.cells #[.int .i64 v.epoch, .int .i64 v.seq] 35)) l11 (r11.below LY) hR)
  have FIN := Lib.hid (fun (e : Ending) (w' : World) (h : AnsC d.chunks ⟨nm, v, pos, 0, ByteArray.empty⟩ ((w.alloc (.cells #[.int .i64 d.pg.pool, .int .i64 d.pg.no, .int .i64 d.seen, .int .i64 d.started, .int .i64 d.tail.epoch, .int .i64 d.tail.seq, .slice a6 d.base.length c6, .slice a7 d.clients.length c7, .slice a8 d.log.length c8, .int .i64 d.firm.epoch, .int .i64 d.firm.seq, .slice a11 d.chunks.length c11] 41)).alloc (.cells #[.int .i64 v.epoch, .int .i64 v.seq] 35)) e w') => (show AnsC d.chunks ⟨nm, v, pos, 0, ByteArray.empty⟩ w e w' from by
    obtain ⟨k, b, e1, p, q⟩ := h
    exact ⟨k, b, e1, p, chainX w LW.out q⟩))
  clear LY XX V0 r11 hR
  go_enter Tryz.func56, Tryz.ntmps56
  go_wp2_with fail
  refine C.out.mono ?_
  rintro e w2 ⟨k, b, rfl, p, q⟩
  have F := Lib.hid (FIN.out _ _ ⟨k, b, rfl, p, q⟩)
  clear p q C FIN
  go_wp2
  go_ret2
  exact F.out
set_option maxRecDepth 100000 in
set_option maxHeartbeats 20000000 in
theorem implChunkOf (d : DPgState) {a6 a7 a8 a11 : Option Addr} {c6 c7 c8 c11 : Nat} (nm : ByteArray) (v : DVer) (pos : Int) (w : World) (l6 : d.base.length ≤ 2097152) (l7 : d.clients.length ≤ 2097152) (l8 : d.log.length ≤ 2097152) (l11 : d.chunks.length ≤ 2097152) (g8 : d.log.length ≤ c8) {fr : Bool} {lo : Nat} (r6 : Rows fr lo w a6 d.base) (r7 : Rows fr lo w a7 d.clients) (r8 : Rows fr lo w a8 d.log) (r11 : Rows fr lo w a11 d.chunks) (hT : Nam.Tabs w) (q : DChunk) (b : Bool) (hq : ChP d nm v pos q b) : Calls Tryz.prog 17 #[.agg #[.int .i64 d.pg.pool, .int .i64 d.pg.no, .int .i64 d.seen, .int .i64 d.started, .int .i64 d.tail.epoch, .int .i64 d.tail.seq, .slice a6 d.base.length c6, .slice a7 d.clients.length c7, .slice a8 d.log.length c8, .int .i64 d.firm.epoch, .int .i64 d.firm.seq, .slice a11 d.chunks.length c11], .string nm, .agg #[.int .i64 v.epoch, .int .i64 v.seq], .int .i64 pos] w (RetW (.tuple #[.agg #[.string q.name, .int .i64 q.ver.epoch, .int .i64 q.ver.seq, .int .i64 q.pos, .int .i64 q.sum, .string q.bytes], .bool b]) w) := by
  have Z := chainX w (chainX w (lay w (.cells #[.int .i64 d.pg.pool, .int .i64 d.pg.no, .int .i64 d.seen, .int .i64 d.started, .int .i64 d.tail.epoch, .int .i64 d.tail.seq, .slice a6 d.base.length c6, .slice a7 d.clients.length c7, .slice a8 d.log.length c8, .int .i64 d.firm.epoch, .int .i64 d.firm.seq, .slice a11 d.chunks.length c11] 41)) (lay (w.alloc (.cells #[.int .i64 d.pg.pool, .int .i64 d.pg.no, .int .i64 d.seen, .int .i64 d.started, .int .i64 d.tail.epoch, .int .i64 d.tail.seq, .slice a6 d.base.length c6, .slice a7 d.clients.length c7, .slice a8 d.log.length c8, .int .i64 d.firm.epoch, .int .i64 d.firm.seq, .slice a11 d.chunks.length c11] 41)) (.cells #[.int .i64 v.epoch, .int .i64 v.seq] 35))) (lay ((w.alloc (.cells #[.int .i64 d.pg.pool, .int .i64 d.pg.no, .int .i64 d.seen, .int .i64 d.started, .int .i64 d.tail.epoch, .int .i64 d.tail.seq, .slice a6 d.base.length c6, .slice a7 d.clients.length c7, .slice a8 d.log.length c8, .int .i64 d.firm.epoch, .int .i64 d.firm.seq, .slice a11 d.chunks.length c11] 41)).alloc (.cells #[.int .i64 v.epoch, .int .i64 v.seq] 35)) (.cells #[.string ByteArray.empty, .int .i64 0, .int .i64 0, .int .i64 0, .int .i64 0, .string ByteArray.empty] 48))
  have XX := ((BxN.new w #[.int .i64 d.pg.pool, .int .i64 d.pg.no, .int .i64 d.seen, .int .i64 d.started, .int .i64 d.tail.epoch, .int .i64 d.tail.seq, .slice a6 d.base.length c6, .slice a7 d.clients.length c7, .slice a8 d.log.length c8, .int .i64 d.firm.epoch, .int .i64 d.firm.seq, .slice a11 d.chunks.length c11] 41).later (lay (w.alloc (.cells #[.int .i64 d.pg.pool, .int .i64 d.pg.no, .int .i64 d.seen, .int .i64 d.started, .int .i64 d.tail.epoch, .int .i64 d.tail.seq, .slice a6 d.base.length c6, .slice a7 d.clients.length c7, .slice a8 d.log.length c8, .int .i64 d.firm.epoch, .int .i64 d.firm.seq, .slice a11 d.chunks.length c11] 41)) (.cells #[.int .i64 v.epoch, .int .i64 v.seq] 35))).later (lay ((w.alloc (.cells #[.int .i64 d.pg.pool, .int .i64 d.pg.no, .int .i64 d.seen, .int .i64 d.started, .int .i64 d.tail.epoch, .int .i64 d.tail.seq, .slice a6 d.base.length c6, .slice a7 d.clients.length c7, .slice a8 d.log.length c8, .int .i64 d.firm.epoch, .int .i64 d.firm.seq, .slice a11 d.chunks.length c11] 41)).alloc (.cells #[.int .i64 v.epoch, .int .i64 v.seq] 35)) (.cells #[.string ByteArray.empty, .int .i64 0, .int .i64 0, .int .i64 0, .int .i64 0, .string ByteArray.empty] 48))
  have V0 := (BxN.new (w.alloc (.cells #[.int .i64 d.pg.pool, .int .i64 d.pg.no, .int .i64 d.seen, .int .i64 d.started, .int .i64 d.tail.epoch, .int .i64 d.tail.seq, .slice a6 d.base.length c6, .slice a7 d.clients.length c7, .slice a8 d.log.length c8, .int .i64 d.firm.epoch, .int .i64 d.firm.seq, .slice a11 d.chunks.length c11] 41)) #[.int .i64 v.epoch, .int .i64 v.seq] 35).later (lay ((w.alloc (.cells #[.int .i64 d.pg.pool, .int .i64 d.pg.no, .int .i64 d.seen, .int .i64 d.started, .int .i64 d.tail.epoch, .int .i64 d.tail.seq, .slice a6 d.base.length c6, .slice a7 d.clients.length c7, .slice a8 d.log.length c8, .int .i64 d.firm.epoch, .int .i64 d.firm.seq, .slice a11 d.chunks.length c11] 41)).alloc (.cells #[.int .i64 v.epoch, .int .i64 v.seq] 35)) (.cells #[.string ByteArray.empty, .int .i64 0, .int .i64 0, .int .i64 0, .int .i64 0, .string ByteArray.empty] 48))
  have Z0 := BxN.new ((w.alloc (.cells #[.int .i64 d.pg.pool, .int .i64 d.pg.no, .int .i64 d.seen, .int .i64 d.started, .int .i64 d.tail.epoch, .int .i64 d.tail.seq, .slice a6 d.base.length c6, .slice a7 d.clients.length c7, .slice a8 d.log.length c8, .int .i64 d.firm.epoch, .int .i64 d.firm.seq, .slice a11 d.chunks.length c11] 41)).alloc (.cells #[.int .i64 v.epoch, .int .i64 v.seq] 35)) #[.string ByteArray.empty, .int .i64 0, .int .i64 0, .int .i64 0, .int .i64 0, .string ByteArray.empty] 48
  rw [World.size_alloc] at V0
  rw [World.size_alloc, World.size_alloc] at Z0
  have XH := Lib.hid XX
  have VH := Lib.hid V0
  have ZH := Lib.hid Z0
  obtain ⟨X_0, X_1, X_2, X_3, X_4, X_5, X_6, X_7, X_8, X_9, X_10, X_11⟩ := c12 XH.out
  obtain ⟨V_0, V_1⟩ := c2 VH.out
  obtain ⟨Z_0, Z_1, Z_2, Z_3, Z_4, Z_5⟩ := Rd.c6 ZH.out
  have zf := ZH.out.free
  have BH := Lib.hid Z
  have B0 := Lib.hid (Below.refl (((w.alloc (.cells #[.int .i64 d.pg.pool, .int .i64 d.pg.no, .int .i64 d.seen, .int .i64 d.started, .int .i64 d.tail.epoch, .int .i64 d.tail.seq, .slice a6 d.base.length c6, .slice a7 d.clients.length c7, .slice a8 d.log.length c8, .int .i64 d.firm.epoch, .int .i64 d.firm.seq, .slice a11 d.chunks.length c11] 41)).alloc (.cells #[.int .i64 v.epoch, .int .i64 v.seq] 35)).alloc (.cells #[.string ByteArray.empty, .int .i64 0, .int .i64 0, .int .i64 0, .int .i64 0, .string ByteArray.empty] 48)).heap.size (((w.alloc (.cells #[.int .i64 d.pg.pool, .int .i64 d.pg.no, .int .i64 d.seen, .int .i64 d.started, .int .i64 d.tail.epoch, .int .i64 d.tail.seq, .slice a6 d.base.length c6, .slice a7 d.clients.length c7, .slice a8 d.log.length c8, .int .i64 d.firm.epoch, .int .i64 d.firm.seq, .slice a11 d.chunks.length c11] 41)).alloc (.cells #[.int .i64 v.epoch, .int .i64 v.seq] 35)).alloc (.cells #[.string ByteArray.empty, .int .i64 0, .int .i64 0, .int .i64 0, .int .i64 0, .string ByteArray.empty] 48)))
  obtain ⟨p, e⟩ := bool_of (StP d)
  have CO := Lib.hid (fun w' (b : Below (((w.alloc (.cells #[.int .i64 d.pg.pool, .int .i64 d.pg.no, .int .i64 d.seen, .int .i64 d.started, .int .i64 d.tail.epoch, .int .i64 d.tail.seq, .slice a6 d.base.length c6, .slice a7 d.clients.length c7, .slice a8 d.log.length c8, .int .i64 d.firm.epoch, .int .i64 d.firm.seq, .slice a11 d.chunks.length c11] 41)).alloc (.cells #[.int .i64 v.epoch, .int .i64 v.seq] 35)).alloc (.cells #[.string ByteArray.empty, .int .i64 0, .int .i64 0, .int .i64 0, .int .i64 0, .string ByteArray.empty] 48)).heap.size (((w.alloc (.cells #[.int .i64 d.pg.pool, .int .i64 d.pg.no, .int .i64 d.seen, .int .i64 d.started, .int .i64 d.tail.epoch, .int .i64 d.tail.seq, .slice a6 d.base.length c6, .slice a7 d.clients.length c7, .slice a8 d.log.length c8, .int .i64 d.firm.epoch, .int .i64 d.firm.seq, .slice a11 d.chunks.length c11] 41)).alloc (.cells #[.int .i64 v.epoch, .int .i64 v.seq] 35)).alloc (.cells #[.string ByteArray.empty, .int .i64 0, .int .i64 0, .int .i64 0, .int .i64 0, .string ByteArray.empty] 48)) w') => (implStateOk d (a6 := a6) (a7 := a7) (a8 := a8) (a11 := a11) (c6 := c6) (c7 := c7) (c8 := c8) (c11 := c11) w' l6 l7 l8 l11 g8 ((r6.below Z).below b) ((r7.below Z).below b) ((r8.below Z).below b) ((r11.below Z).below b) (tabs_later (tabs_later hT Z) b)).mono (fun _ _ q => iff_ret e q))
  have CA := Lib.hid (fun (hR : RisC d.chunks) w' (b : Below (((w.alloc (.cells #[.int .i64 d.pg.pool, .int .i64 d.pg.no, .int .i64 d.seen, .int .i64 d.started, .int .i64 d.tail.epoch, .int .i64 d.tail.seq, .slice a6 d.base.length c6, .slice a7 d.clients.length c7, .slice a8 d.log.length c8, .int .i64 d.firm.epoch, .int .i64 d.firm.seq, .slice a11 d.chunks.length c11] 41)).alloc (.cells #[.int .i64 v.epoch, .int .i64 v.seq] 35)).alloc (.cells #[.string ByteArray.empty, .int .i64 0, .int .i64 0, .int .i64 0, .int .i64 0, .string ByteArray.empty] 48)).heap.size (((w.alloc (.cells #[.int .i64 d.pg.pool, .int .i64 d.pg.no, .int .i64 d.seen, .int .i64 d.started, .int .i64 d.tail.epoch, .int .i64 d.tail.seq, .slice a6 d.base.length c6, .slice a7 d.clients.length c7, .slice a8 d.log.length c8, .int .i64 d.firm.epoch, .int .i64 d.firm.seq, .slice a11 d.chunks.length c11] 41)).alloc (.cells #[.int .i64 v.epoch, .int .i64 v.seq] 35)).alloc (.cells #[.string ByteArray.empty, .int .i64 0, .int .i64 0, .int .i64 0, .int .i64 0, .string ByteArray.empty] 48)) w') => implChunkAt d (a6 := a6) (a7 := a7) (a8 := a8) (a11 := a11) (c6 := c6) (c7 := c7) (c8 := c8) (c11 := c11) nm v pos w' l11 ((r11.below Z).below b) hR)
  have R11 := Lib.hid (r11.below Z)
  clear XX V0 Z0 Z
  cases p
  · obtain ⟨rfl, rfl⟩ := hq.2 (fun h => Bool.false_ne_true (e.2 h))
    clear e hq CA R11
    go_enter Tryz.func17, Tryz.ntmps17
    go_wp2_with fail
    refine (CO.out _ B0.out).mono ?_
    rintro en w2 ⟨rfl, b2⟩
    have XH := Lib.hid (XH.out.later b2)
    have VH := Lib.hid (VH.out.later b2)
    have ZH := Lib.hid (ZH.out.later b2)
    have BH := Lib.hid (chainX w BH.out b2)
    have B0 := Lib.hid (chainX _ B0.out b2)
    obtain ⟨X_0, X_1, X_2, X_3, X_4, X_5, X_6, X_7, X_8, X_9, X_10, X_11⟩ := c12 XH.out
    obtain ⟨V_0, V_1⟩ := c2 VH.out
    obtain ⟨Z_0, Z_1, Z_2, Z_3, Z_4, Z_5⟩ := Rd.c6 ZH.out
    have zf := ZH.out.free
    clear b2
    have G := Lib.hid (show RetW (.tuple #[.agg #[.string ByteArray.empty, .int .i64 0, .int .i64 0, .int .i64 0, .int .i64 0, .string ByteArray.empty], .bool false]) w (.returned (.tuple #[.agg #[.string ByteArray.empty, .int .i64 0, .int .i64 0, .int .i64 0, .int .i64 0, .string ByteArray.empty], .bool false])) ((((((w2.setCell ⟨w.heap.size + 1 + 1, 0, none⟩ (.string ByteArray.empty)).setCell ⟨w.heap.size + 1 + 1, 1, none⟩ (.int .i64 0)).setCell ⟨w.heap.size + 1 + 1, 2, none⟩ (.int .i64 0)).setCell ⟨w.heap.size + 1 + 1, 3, none⟩ (.int .i64 0)).setCell ⟨w.heap.size + 1 + 1, 4, none⟩ (.int .i64 0)).setCell ⟨w.heap.size + 1 + 1, 5, none⟩ (.string ByteArray.empty)) from ⟨rfl, set6 BH.out (Nat.le_add_right w.heap.size 2) (.string ByteArray.empty) (.int .i64 0) (.int .i64 0) (.int .i64 0) (.int .i64 0) (.string ByteArray.empty)⟩)
    go_wp2
    exact bodyPost_ret (v := .tuple #[.agg #[.string ByteArray.empty, .int .i64 0, .int .i64 0, .int .i64 0, .int .i64 0, .string ByteArray.empty], .bool false]) (by simp [results, Tryz.results17, go_sem, *]; try rfl) rfl G.out
  · have hs := e.1 rfl
    obtain ⟨k, b', hp, hb⟩ := hq.1 hs
    have CA := Lib.hid (CA.out (risC_of hs.2.2.2.2.2))
    have HP := Lib.hid hp
    clear e hq hs hp
    go_enter Tryz.func17, Tryz.ntmps17
    go_wp2_with fail
    refine (CO.out _ B0.out).mono ?_
    rintro en w2 ⟨rfl, b2⟩
    have XH := Lib.hid (XH.out.later b2)
    have VH := Lib.hid (VH.out.later b2)
    have ZH := Lib.hid (ZH.out.later b2)
    have BH := Lib.hid (chainX w BH.out b2)
    have B0 := Lib.hid (chainX _ B0.out b2)
    obtain ⟨X_0, X_1, X_2, X_3, X_4, X_5, X_6, X_7, X_8, X_9, X_10, X_11⟩ := c12 XH.out
    obtain ⟨V_0, V_1⟩ := c2 VH.out
    obtain ⟨Z_0, Z_1, Z_2, Z_3, Z_4, Z_5⟩ := Rd.c6 ZH.out
    have zf := ZH.out.free
    clear b2
    go_wp2_with fail
    refine (CA.out _ B0.out).mono ?_
    rintro en w3 ⟨k', b'', rfl, hp', b2⟩
    obtain ⟨rfl, rfl⟩ := place_unique HP.out hp'
    clear hp'
    have XH := Lib.hid (XH.out.later b2)
    have VH := Lib.hid (VH.out.later b2)
    have ZH := Lib.hid (ZH.out.later b2)
    have BH := Lib.hid (chainX w BH.out b2)
    have B0 := Lib.hid (chainX _ B0.out b2)
    obtain ⟨X_0, X_1, X_2, X_3, X_4, X_5, X_6, X_7, X_8, X_9, X_10, X_11⟩ := c12 XH.out
    obtain ⟨V_0, V_1⟩ := c2 VH.out
    obtain ⟨Z_0, Z_1, Z_2, Z_3, Z_4, Z_5⟩ := Rd.c6 ZH.out
    have zf := ZH.out.free
    clear b2
    have BHF := BH
    rcases hb with ⟨rfl, rfl, hx⟩ | ⟨rfl, rfl, rfl⟩
    · obtain ⟨bb, off, cs, e11, -, hB, hr, hcc⟩ := (R11.out.below B0.out).at' hx
      obtain ⟨rfl, -⟩ := shape_Chunk hr
      have kl := (List.getElem?_eq_some_iff.1 hx).1
      have q0 : w3.cell? ⟨bb, off + k * 6, none⟩ = some (.string q.name) := hcc 0 _ rfl
      have q1 : w3.cell? ⟨bb, off + k * 6 + 1, none⟩ = some (.int .i64 q.ver.epoch) := hcc 1 _ rfl
      have q2 : w3.cell? ⟨bb, off + k * 6 + 2, none⟩ = some (.int .i64 q.ver.seq) := hcc 2 _ rfl
      have q3 : w3.cell? ⟨bb, off + k * 6 + 3, none⟩ = some (.int .i64 q.pos) := hcc 3 _ rfl
      have q4 : w3.cell? ⟨bb, off + k * 6 + 4, none⟩ = some (.int .i64 q.sum) := hcc 4 _ rfl
      have q5 : w3.cell? ⟨bb, off + k * 6 + 5, none⟩ = some (.string q.bytes) := hcc 5 _ rfl
      have k0 : (0 : Int) ≤ (k : Int) := by omega
      have k1 : (k : Int) < (d.chunks.length : Int) := by omega
      clear hcc hr hx CO CA R11 r6 r7 r8 r11 HP
      clear XH VH ZH B0
      subst e11
      have G := Lib.hid (show RetW (.tuple #[.agg #[.string q.name, .int .i64 q.ver.epoch, .int .i64 q.ver.seq, .int .i64 q.pos, .int .i64 q.sum, .string q.bytes], .bool true]) w (.returned (.tuple #[.agg #[.string q.name, .int .i64 q.ver.epoch, .int .i64 q.ver.seq, .int .i64 q.pos, .int .i64 q.sum, .string q.bytes], .bool true])) ((((((w3.setCell ⟨w.heap.size + 1 + 1, 0, none⟩ (.string q.name)).setCell ⟨w.heap.size + 1 + 1, 1, none⟩ (.int .i64 q.ver.epoch)).setCell ⟨w.heap.size + 1 + 1, 2, none⟩ (.int .i64 q.ver.seq)).setCell ⟨w.heap.size + 1 + 1, 3, none⟩ (.int .i64 q.pos)).setCell ⟨w.heap.size + 1 + 1, 4, none⟩ (.int .i64 q.sum)).setCell ⟨w.heap.size + 1 + 1, 5, none⟩ (.string q.bytes)) from ⟨rfl, set6 BHF.out (Nat.le_add_right w.heap.size 2) (.string q.name) (.int .i64 q.ver.epoch) (.int .i64 q.ver.seq) (.int .i64 q.pos) (.int .i64 q.sum) (.string q.bytes)⟩)
      go_wp2
      exact bodyPost_ret (v := .tuple #[.agg #[.string q.name, .int .i64 q.ver.epoch, .int .i64 q.ver.seq, .int .i64 q.pos, .int .i64 q.sum, .string q.bytes], .bool true]) (by simp [results, Tryz.results17, go_sem, *]; try rfl) rfl G.out
    · clear CO CA R11
      have G := Lib.hid (show RetW (.tuple #[.agg #[.string ByteArray.empty, .int .i64 0, .int .i64 0, .int .i64 0, .int .i64 0, .string ByteArray.empty], .bool false]) w (.returned (.tuple #[.agg #[.string ByteArray.empty, .int .i64 0, .int .i64 0, .int .i64 0, .int .i64 0, .string ByteArray.empty], .bool false])) ((((((w3.setCell ⟨w.heap.size + 1 + 1, 0, none⟩ (.string ByteArray.empty)).setCell ⟨w.heap.size + 1 + 1, 1, none⟩ (.int .i64 0)).setCell ⟨w.heap.size + 1 + 1, 2, none⟩ (.int .i64 0)).setCell ⟨w.heap.size + 1 + 1, 3, none⟩ (.int .i64 0)).setCell ⟨w.heap.size + 1 + 1, 4, none⟩ (.int .i64 0)).setCell ⟨w.heap.size + 1 + 1, 5, none⟩ (.string ByteArray.empty)) from ⟨rfl, set6 BHF.out (Nat.le_add_right w.heap.size 2) (.string ByteArray.empty) (.int .i64 0) (.int .i64 0) (.int .i64 0) (.int .i64 0) (.string ByteArray.empty)⟩)
      go_wp2
      exact bodyPost_ret (v := .tuple #[.agg #[.string ByteArray.empty, .int .i64 0, .int .i64 0, .int .i64 0, .int .i64 0, .string ByteArray.empty], .bool false]) (by simp [results, Tryz.results17, go_sem, *]; try rfl) rfl G.out
end Go.Proofs.YtbckdfoapmjilaaGreatDoor.Rd
