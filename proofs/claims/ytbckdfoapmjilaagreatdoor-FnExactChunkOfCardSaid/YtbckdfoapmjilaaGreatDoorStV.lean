/-
  Heads by their names in a map: an entry taken in, the heads behind so many entries; the program (written by tools/gen/stv.py).
-/
import Derived.Test.YtbckdfoapmjilaaGreatDoorStU
import Derived.WalkKit
import Derived.Test.YtbckdfoapmjilaaGreatDoorRs
namespace Go.Proofs.YtbckdfoapmjilaaGreatDoor.Rd
open Go.RowKit Go.ChangeShapes Go.WideShapes Go.Proofs.YtbckdfoapmjilaaGreatDoor.GfI Go.Proofs.YtbckdfoapmjilaaGreatDoor.GfS
open Go.Proofs.YtbckdfoapmjilaaGreatDoor.Sg (BxN)
set_option linter.unusedVariables false
set_option linter.unusedSimpArgs false

theorem own_below {w w' : World} {P : Program} {k : TypeId} {R : Value → Option (DataW Value × List MemPlace)} {b n : Nat} {D : DataW Value} (h : w.ownsMap P k R b n D) (q : Below w.heap.size w w') : w'.ownsMap P k R b n D := by
  have lt := h.lt
  obtain ⟨es, clock, hb, r⟩ := h
  exact ⟨es, clock, (q.block b lt).trans hb, r⟩
/-- How a map's element reads: as the value that it is. -/
def RV (v : Value) : Option (DataW Value × List MemPlace) := some (.held v, [])
theorem lawS : Maps.Keyed Tryz.prog 9 := Maps.string_keyed Tryz.underlying9
theorem keyOfS {s : ByteArray} (h : s.size ≤ 9223372036854775807) : keyOf Tryz.prog 9 (.string s) = some (keyS s) := WideMaps.keyOf_string_mk Tryz.underlying9 (by unfold maxLen; exact h)
theorem bxGrown {w w' : World} {b : Nat} {vs : List Value} {row : Option Nat} (h : Sg.BxN w b vs) (g : w.grownBy w' row) (hne : some b ≠ row) : Sg.BxN w' b vs :=
  ⟨Nat.lt_of_lt_of_le h.lt g.size, fun i v hv => g.cell (h.cells i v hv) hne, fun i => (World.frozen?_of_block (a := ⟨b, i, none⟩) (g.block b h.lt hne)).trans (h.free i)⟩
theorem ris_take {l : List DHead} (R : RisH l) {k : Nat} {h : DHead} (hk : l[k]? = some h) : l.take (k + 1) = l.take k ++ [h] ∧ ∀ x ∈ l.take k, sLt x.name h.name = true := by
  refine ⟨by rw [List.take_add_one, hk]; rfl, fun x hx => ?_⟩
  obtain ⟨i, hi, rfl⟩ := List.getElem_of_mem hx
  rw [List.length_take] at hi
  obtain ⟨hk', e⟩ := List.getElem?_eq_some_iff.1 hk
  rw [List.getElem_take, ← e]
  exact (List.pairwise_iff_getElem.1 R) i k (by omega) hk' (by omega)
set_option maxRecDepth 100000 in
set_option maxHeartbeats 4000000 in
theorem implTake (e : DEntry) (B n : Nat) (D : DataW Value) (l : List DHead) (w : World) (hn : n ≤ 9000000) (hown : w.ownsMap Tryz.prog 9 RV B n D) (H : NM D l) (hz : e.name.size ≤ 9223372036854775807) :
    Calls Tryz.prog 89 #[.map (some B), .agg #[.int .i64 e.ver.epoch, .int .i64 e.ver.seq, .int .i64 e.prior.epoch, .int .i64 e.prior.seq, .string e.name, .bool e.gone, .int .i64 e.size, .int .i64 e.sum, .int .i64 e.req.client, .int .i64 e.req.no]] w (fun en w' => en = .returned (.tuple #[]) ∧ ∃ D', w'.ownsMap Tryz.prog 9 RV B (n + 1) D' ∧ NM D' (putH l e) ∧ w.grownBy w' (some B)) := by
  have hkey := keyOfS hz
  have O1 := hown.alloc (.cells #[.int .i64 e.ver.epoch, .int .i64 e.ver.seq, .int .i64 e.prior.epoch, .int .i64 e.prior.seq, .string e.name, .bool e.gone, .int .i64 e.size, .int .i64 e.sum, .int .i64 e.req.client, .int .i64 e.req.no] 114)
  have G1 := World.grownBy_alloc w (.cells #[.int .i64 e.ver.epoch, .int .i64 e.ver.seq, .int .i64 e.prior.epoch, .int .i64 e.prior.seq, .string e.name, .bool e.gone, .int .i64 e.size, .int .i64 e.sum, .int .i64 e.req.client, .int .i64 e.req.no] 114) (some B)
  have YN := BxN.new w #[.int .i64 e.ver.epoch, .int .i64 e.ver.seq, .int .i64 e.prior.epoch, .int .i64 e.prior.seq, .string e.name, .bool e.gone, .int .i64 e.size, .int .i64 e.sum, .int .i64 e.req.client, .int .i64 e.req.no] 114
  have y0 := YN.cells 0 _ rfl
  have y1 := YN.cells 1 _ rfl
  have y2 := YN.cells 2 _ rfl
  have y3 := YN.cells 3 _ rfl
  have y4 := YN.cells 4 _ rfl
  have y5 := YN.cells 5 _ rfl
  have y6 := YN.cells 6 _ rfl
  have y7 := YN.cells 7 _ rfl
  have y8 := YN.cells 8 _ rfl
  have y9 := YN.cells 9 _ rfl
  have X := H.put e
  have Y := H.del e
  have HV : headV (mkH e) = .agg #[.string e.name, .int .i64 e.ver.epoch, .int .i64 e.ver.seq, .int .i64 e.size, .int .i64 e.sum] := rfl
  rw [HV] at X
  clear HV H hown YN
  generalize putH l e = l' at *
  generalize keyS e.name = ky at *
  generalize e.ver.epoch = ve at *
  generalize e.ver.seq = vs at *
  generalize e.name = nm at *
  generalize e.size = sz at *
  generalize e.sum = sm at *
  generalize e.prior.epoch = pe at *
  generalize e.prior.seq = ps at *
  generalize e.req.client = rc at *
  generalize e.req.no = rn at *
  cases g : e.gone
  · rw [g] at O1 G1 X Y y5
    have XH := Lib.hid (X rfl)
    clear X Y g hz
    go_enter Tryz.func89, Tryz.ntmps89
    go_wp2_with (first
      | (at_mapUpdate; refine wpList_mapUpdate_in _ rfl _ _ _ 135 rfl 9 107 lawS Tryz.underlying135 RV B n D rfl O1 (by unfold maxLen; omega) _ _ _ rfl rfl hkey _ [] rfl ?_; intro w1 hown1 hturn1)
      | go_in)
    go_end0
    exact ⟨rfl, _, hown1, XH.out, G1.trans hturn1.grown⟩
  · rw [g] at O1 G1 X Y y5
    have XH := Lib.hid (Y rfl)
    clear X Y g hz
    go_enter Tryz.func89, Tryz.ntmps89
    go_wp2_with (first
      | (at_delete; refine wpList_delete_own _ rfl _ _ 135 9 rfl 107 lawS Tryz.underlying135 RV B n D rfl O1 _ _ rfl hkey ?_; intro w1 hown1 hturn1)
      | go_in)
    simp only [Act.put]
    exact bodyPost_ret (v := .tuple #[]) (by simp [results, Tryz.results89, go_sem]) rfl ⟨rfl, _, hown1.mono (Nat.le_succ _), XH.out, G1.trans hturn1.grown⟩
set_option maxRecDepth 100000 in
set_option maxHeartbeats 4000000 in
theorem implHeadsAfter (d : DPgState) {a6 a7 a8 a11 : Option Addr} {c6 c7 c8 c11 : Nat} (n : Nat) (hn : n ≤ d.log.length) (w : World) (l6 : d.base.length ≤ 2097152) (l8 : d.log.length ≤ 2097152) (g8 : d.log.length ≤ c8) {fr : Bool} {lo : Nat} (r6 : Rows fr lo w a6 d.base) (r8 : Rows fr lo w a8 d.log) (hR : RisH d.base) :
    Calls Tryz.prog 88 #[.agg #[.int .i64 d.pg.pool, .int .i64 d.pg.no, .int .i64 d.seen, .int .i64 d.started, .int .i64 d.tail.epoch, .int .i64 d.tail.seq, .slice a6 d.base.length c6, .slice a7 d.clients.length c7, .slice a8 d.log.length c8, .int .i64 d.firm.epoch, .int .i64 d.firm.seq, .slice a11 d.chunks.length c11], .int .i64 (n : Int)] w (fun en w' => ∃ (B m : Nat) (D : DataW Value), en = .returned (.map (some B)) ∧ w.heap.size ≤ B ∧ m ≤ d.base.length + n ∧ w'.ownsMap Tryz.prog 9 RV B m D ∧ NM D (headsAt d.base d.log n) ∧ Below w.heap.size w w') := by
  have hmm := @run_makeMap Tryz.prog
  have LY := lay w (.cells #[.int .i64 d.pg.pool, .int .i64 d.pg.no, .int .i64 d.seen, .int .i64 d.started, .int .i64 d.tail.epoch, .int .i64 d.tail.seq, .slice a6 d.base.length c6, .slice a7 d.clients.length c7, .slice a8 d.log.length c8, .int .i64 d.firm.epoch, .int .i64 d.firm.seq, .slice a11 d.chunks.length c11] 41)
  have LW := Lib.hid LY
  have XX := BxN.new w #[.int .i64 d.pg.pool, .int .i64 d.pg.no, .int .i64 d.seen, .int .i64 d.started, .int .i64 d.tail.epoch, .int .i64 d.tail.seq, .slice a6 d.base.length c6, .slice a7 d.clients.length c7, .slice a8 d.log.length c8, .int .i64 d.firm.epoch, .int .i64 d.firm.seq, .slice a11 d.chunks.length c11] 41
  have X_6 := XX.cells 6 _ rfl
  have X_8 := XX.cells 8 _ rfl
  have XH := Lib.hid XX
  have R6 := Lib.hid (r6.below LY)
  have R8 := Lib.hid (r8.below LY)
  have GB := Lib.hid (fun k (h : k < d.base.length) => get_lt h)
  have GL := Lib.hid (fun k (h : k < n) => get_lt (show k < d.log.length by omega))
  have TK := Lib.hid (fun k h (hk : d.base[k]? = some h) => ris_take hR hk)
  have HS := Lib.hid (fun k e (hk : d.log[k]? = some e) => headsAt_succ d.base hk)
  have H0 := Lib.hid (show d.base.take d.base.length = headsAt d.base d.log 0 from by unfold headsAt; rw [List.take_length]; rfl)
  have nn : (n : Int) ≤ (c8 : Int) := by omega
  have n0 : (0 : Int) ≤ (n : Int) := by omega
  have WKn : IntKind.i64.wrap (n : Int) = (n : Int) := by rw [IntKind.wrap_i64]; omega
  have B0 := Lib.hid (Below.refl (w.alloc (.cells #[.int .i64 d.pg.pool, .int .i64 d.pg.no, .int .i64 d.seen, .int .i64 d.started, .int .i64 d.tail.epoch, .int .i64 d.tail.seq, .slice a6 d.base.length c6, .slice a7 d.clients.length c7, .slice a8 d.log.length c8, .int .i64 d.firm.epoch, .int .i64 d.firm.seq, .slice a11 d.chunks.length c11] 41)).heap.size (w.alloc (.cells #[.int .i64 d.pg.pool, .int .i64 d.pg.no, .int .i64 d.seen, .int .i64 d.started, .int .i64 d.tail.epoch, .int .i64 d.tail.seq, .slice a6 d.base.length c6, .slice a7 d.clients.length c7, .slice a8 d.log.length c8, .int .i64 d.firm.epoch, .int .i64 d.firm.seq, .slice a11 d.chunks.length c11] 41)))
  have MP := World.ownsMap_made (w.alloc (.cells #[.int .i64 d.pg.pool, .int .i64 d.pg.no, .int .i64 d.seen, .int .i64 d.started, .int .i64 d.tail.epoch, .int .i64 d.tail.seq, .slice a6 d.base.length c6, .slice a7 d.clients.length c7, .slice a8 d.log.length c8, .int .i64 d.firm.epoch, .int .i64 d.firm.seq, .slice a11 d.chunks.length c11] 41)) Tryz.prog 9 RV
  have BM := Lib.hid (lay (w.alloc (.cells #[.int .i64 d.pg.pool, .int .i64 d.pg.no, .int .i64 d.seen, .int .i64 d.started, .int .i64 d.tail.epoch, .int .i64 d.tail.seq, .slice a6 d.base.length c6, .slice a7 d.clients.length c7, .slice a8 d.log.length c8, .int .i64 d.firm.epoch, .int .i64 d.firm.seq, .slice a11 d.chunks.length c11] 41)) (.map #[] 0))
  have SZ : (w.alloc (.cells #[.int .i64 d.pg.pool, .int .i64 d.pg.no, .int .i64 d.seen, .int .i64 d.started, .int .i64 d.tail.epoch, .int .i64 d.tail.seq, .slice a6 d.base.length c6, .slice a7 d.clients.length c7, .slice a8 d.log.length c8, .int .i64 d.firm.epoch, .int .i64 d.firm.seq, .slice a11 d.chunks.length c11] 41)).heap.size = w.heap.size + 1 := by simp
  rw [SZ] at MP
  have MP := Lib.hid MP
  have FIN := Lib.hid (fun (w' : World) (D : DataW Value) (h1 : w'.ownsMap Tryz.prog 9 RV (w.heap.size + 1) (d.base.length + n) D) (h2 : NM D (headsAt d.base d.log n)) (h3 : Below (w.alloc (.cells #[.int .i64 d.pg.pool, .int .i64 d.pg.no, .int .i64 d.seen, .int .i64 d.started, .int .i64 d.tail.epoch, .int .i64 d.tail.seq, .slice a6 d.base.length c6, .slice a7 d.clients.length c7, .slice a8 d.log.length c8, .int .i64 d.firm.epoch, .int .i64 d.firm.seq, .slice a11 d.chunks.length c11] 41)).heap.size (w.alloc (.cells #[.int .i64 d.pg.pool, .int .i64 d.pg.no, .int .i64 d.seen, .int .i64 d.started, .int .i64 d.tail.epoch, .int .i64 d.tail.seq, .slice a6 d.base.length c6, .slice a7 d.clients.length c7, .slice a8 d.log.length c8, .int .i64 d.firm.epoch, .int .i64 d.firm.seq, .slice a11 d.chunks.length c11] 41)) w') => (show ∃ (B m : Nat) (D : DataW Value), (Ending.returned (.map (some (w.heap.size + 1)))) = .returned (.map (some B)) ∧ w.heap.size ≤ B ∧ m ≤ d.base.length + n ∧ w'.ownsMap Tryz.prog 9 RV B m D ∧ NM D (headsAt d.base d.log n) ∧ Below w.heap.size w w' from ⟨_, _, D, rfl, Nat.le_succ _, Nat.le_refl _, h1, h2, chainX w LW.out h3⟩))
  clear r6 r8 hR LY XX
  have HN := Lib.hid (show NM (.map []) (d.base.take 0) from NM.nil)
  go_enter Tryz.func88, Tryz.ntmps88
  go_wp2
  go_loopw [14] (fun i wr => ∃ (k : Nat) (D : DataW Value), k ≤ d.base.length ∧ i = .int .i64 k ∧ wr.ownsMap Tryz.prog 9 RV (w.heap.size + 1) k D ∧ NM D (d.base.take k) ∧ Below (w.alloc (.cells #[.int .i64 d.pg.pool, .int .i64 d.pg.no, .int .i64 d.seen, .int .i64 d.started, .int .i64 d.tail.epoch, .int .i64 d.tail.seq, .slice a6 d.base.length c6, .slice a7 d.clients.length c7, .slice a8 d.log.length c8, .int .i64 d.firm.epoch, .int .i64 d.firm.seq, .slice a11 d.chunks.length c11] 41)).heap.size (w.alloc (.cells #[.int .i64 d.pg.pool, .int .i64 d.pg.no, .int .i64 d.seen, .int .i64 d.started, .int .i64 d.tail.epoch, .int .i64 d.tail.seq, .slice a6 d.base.length c6, .slice a7 d.clients.length c7, .slice a8 d.log.length c8, .int .i64 d.firm.epoch, .int .i64 d.firm.seq, .slice a11 d.chunks.length c11] 41)) wr) (fun i _ => d.base.length - (intOf i).toNat)
  case atStart => exact ⟨0, _, by omega, rfl, MP.out, HN.out, BM.out⟩
  case round =>
    obtain ⟨k, D, hk, rfl, hown, hN, hw⟩ := hrel
    have BH := Lib.hid hw
    have HNK := Lib.hid hN
    by_cases hlt : k < d.base.length
    · obtain ⟨h, hx⟩ := GB.out k hlt
      obtain ⟨b, off, cs, rfl, -, hB, hr, hcc⟩ := (R6.out.below hw).at' hx
      obtain ⟨rfl, f0_0, f0_1, f0_2, f0_3, f0_4⟩ := shape_Head hr
      have c0 : wr.cell? ⟨b, off + k * 5, none⟩ = some (.string h.name) := hcc 0 _ rfl
      have c1 : wr.cell? ⟨b, off + k * 5 + 1, none⟩ = some (.int .i64 h.ver.epoch) := hcc 1 _ rfl
      have c2 : wr.cell? ⟨b, off + k * 5 + 2, none⟩ = some (.int .i64 h.ver.seq) := hcc 2 _ rfl
      have c3 : wr.cell? ⟨b, off + k * 5 + 3, none⟩ = some (.int .i64 h.size) := hcc 3 _ rfl
      have c4 : wr.cell? ⟨b, off + k * 5 + 4, none⟩ = some (.int .i64 h.sum) := hcc 4 _ rfl
      have YN := BxN.new wr #[.string h.name, .int .i64 h.ver.epoch, .int .i64 h.ver.seq, .int .i64 h.size, .int .i64 h.sum] 107
      have y0 := YN.cells 0 _ rfl
      have y1 := YN.cells 1 _ rfl
      have y2 := YN.cells 2 _ rfl
      have y3 := YN.cells 3 _ rfl
      have y4 := YN.cells 4 _ rfl
      have hkey := keyOfS f0_0
      have O1 := hown.alloc (.cells #[.string h.name, .int .i64 h.ver.epoch, .int .i64 h.ver.seq, .int .i64 h.size, .int .i64 h.sum] 107)
      have G1 := Lib.hid (World.grownBy_alloc wr (.cells #[.string h.name, .int .i64 h.ver.epoch, .int .i64 h.ver.seq, .int .i64 h.size, .int .i64 h.sum] 107) (some (w.heap.size + 1)))
      have TT := TK.out k h hx
      have NX := Lib.hid (show NM (D.put (keyS h.name) (.held (.agg #[.string h.name, .int .i64 h.ver.epoch, .int .i64 h.ver.seq, .int .i64 h.size, .int .i64 h.sum]))) (d.base.take (k + 1)) from by rw [TT.1]; exact hN.add h TT.2)
      clear hcc hr hx hown hN TT YN hw
      generalize keyS h.name = ky at *
      go_wp2_with (first
        | (at_mapUpdate; refine wpList_mapUpdate_in _ rfl _ _ _ 135 rfl 9 107 lawS Tryz.underlying135 RV _ k D rfl O1 (by unfold maxLen; omega) _ _ _ rfl rfl hkey _ [] rfl ?_; intro w1 hown1 hturn1)
        | go_in)
      have BF := Lib.hid (BH.out.grown (G1.out.trans hturn1.grown) BH.out.size (fun j hj => by cases hj; simp))
      have HO := Lib.hid hown1
      clear hown1 hturn1 O1
      go_roundw
      case rel => exact ⟨k + 1, _, by omega, by go_num, HO.out, NX.out, BF.out⟩
      case measure => simp [intOf]; omega
    · obtain rfl : k = d.base.length := by omega
      rw [H0.out] at hN
      have HN2 := Lib.hid hN
      have HO := Lib.hid hown
      have X_8 := (XH.out.later hw).cells 8 _ rfl
      clear hN hown HNK hw
      go_wp2
      go_loopw [28] (fun i wr => ∃ (j : Nat) (D : DataW Value), j ≤ n ∧ i = .int .i64 j ∧ wr.ownsMap Tryz.prog 9 RV (w.heap.size + 1) (d.base.length + j) D ∧ NM D (headsAt d.base d.log j) ∧ Below (w.alloc (.cells #[.int .i64 d.pg.pool, .int .i64 d.pg.no, .int .i64 d.seen, .int .i64 d.started, .int .i64 d.tail.epoch, .int .i64 d.tail.seq, .slice a6 d.base.length c6, .slice a7 d.clients.length c7, .slice a8 d.log.length c8, .int .i64 d.firm.epoch, .int .i64 d.firm.seq, .slice a11 d.chunks.length c11] 41)).heap.size (w.alloc (.cells #[.int .i64 d.pg.pool, .int .i64 d.pg.no, .int .i64 d.seen, .int .i64 d.started, .int .i64 d.tail.epoch, .int .i64 d.tail.seq, .slice a6 d.base.length c6, .slice a7 d.clients.length c7, .slice a8 d.log.length c8, .int .i64 d.firm.epoch, .int .i64 d.firm.seq, .slice a11 d.chunks.length c11] 41)) wr) (fun i _ => n - (intOf i).toNat)
      case atStart => exact ⟨0, D, by omega, rfl, HO.out, HN2.out, BH.out⟩
      case round =>
        obtain ⟨j, D, hj, rfl, hown, hN, hw⟩ := hrel
        clear BH HO HN2
        have BH := Lib.hid hw
        by_cases hlt : j < n
        · obtain ⟨e, hx⟩ := GL.out j hlt
          obtain ⟨b, off, cs, rfl, -, hB, hr, hcc⟩ := (R8.out.below hw).at' hx
          obtain ⟨rfl, f0_0, f0_1, f0_2, f0_3, f0_4, f0_6, f0_7, f0_8, f0_9⟩ := shape_Entry hr
          have c0 : wr.cell? ⟨b, off + j * 10, none⟩ = some (.int .i64 e.ver.epoch) := hcc 0 _ rfl
          have c1 : wr.cell? ⟨b, off + j * 10 + 1, none⟩ = some (.int .i64 e.ver.seq) := hcc 1 _ rfl
          have c2 : wr.cell? ⟨b, off + j * 10 + 2, none⟩ = some (.int .i64 e.prior.epoch) := hcc 2 _ rfl
          have c3 : wr.cell? ⟨b, off + j * 10 + 3, none⟩ = some (.int .i64 e.prior.seq) := hcc 3 _ rfl
          have c4 : wr.cell? ⟨b, off + j * 10 + 4, none⟩ = some (.string e.name) := hcc 4 _ rfl
          have c5 : wr.cell? ⟨b, off + j * 10 + 5, none⟩ = some (.bool e.gone) := hcc 5 _ rfl
          have c6 : wr.cell? ⟨b, off + j * 10 + 6, none⟩ = some (.int .i64 e.size) := hcc 6 _ rfl
          have c7 : wr.cell? ⟨b, off + j * 10 + 7, none⟩ = some (.int .i64 e.sum) := hcc 7 _ rfl
          have c8 : wr.cell? ⟨b, off + j * 10 + 8, none⟩ = some (.int .i64 e.req.client) := hcc 8 _ rfl
          have c9 : wr.cell? ⟨b, off + j * 10 + 9, none⟩ = some (.int .i64 e.req.no) := hcc 9 _ rfl
          have YN := BxN.new wr #[.int .i64 e.ver.epoch, .int .i64 e.ver.seq, .int .i64 e.prior.epoch, .int .i64 e.prior.seq, .string e.name, .bool e.gone, .int .i64 e.size, .int .i64 e.sum, .int .i64 e.req.client, .int .i64 e.req.no] 114
          have y0 := YN.cells 0 _ rfl
          have y1 := YN.cells 1 _ rfl
          have y2 := YN.cells 2 _ rfl
          have y3 := YN.cells 3 _ rfl
          have y4 := YN.cells 4 _ rfl
          have y5 := YN.cells 5 _ rfl
          have y6 := YN.cells 6 _ rfl
          have y7 := YN.cells 7 _ rfl
          have y8 := YN.cells 8 _ rfl
          have y9 := YN.cells 9 _ rfl
          have C := Lib.hid (implTake e (w.heap.size + 1) (d.base.length + j) D (headsAt d.base d.log j) (wr.alloc (.cells #[.int .i64 e.ver.epoch, .int .i64 e.ver.seq, .int .i64 e.prior.epoch, .int .i64 e.prior.seq, .string e.name, .bool e.gone, .int .i64 e.size, .int .i64 e.sum, .int .i64 e.req.client, .int .i64 e.req.no] 114)) (by omega) (hown.alloc (.cells #[.int .i64 e.ver.epoch, .int .i64 e.ver.seq, .int .i64 e.prior.epoch, .int .i64 e.prior.seq, .string e.name, .bool e.gone, .int .i64 e.size, .int .i64 e.sum, .int .i64 e.req.client, .int .i64 e.req.no] 114)) hN f0_4)
          rw [← HS.out j e hx] at C
          have G1 := Lib.hid (World.grownBy_alloc wr (.cells #[.int .i64 e.ver.epoch, .int .i64 e.ver.seq, .int .i64 e.prior.epoch, .int .i64 e.prior.seq, .string e.name, .bool e.gone, .int .i64 e.size, .int .i64 e.sum, .int .i64 e.req.client, .int .i64 e.req.no] 114) (some (w.heap.size + 1)))
          clear hcc hr hx hown hN YN hw
          go_wp2_with fail
          refine C.out.mono ?_
          rintro en w1 ⟨rfl, D', h1, h2, h3⟩
          have BF := Lib.hid (BH.out.grown (G1.out.trans h3) BH.out.size (fun j hj => by cases hj; simp))
          have HO := Lib.hid h1
          have HN2 := Lib.hid h2
          clear h1 h2 h3
          go_wp2
          go_roundw
          case rel => exact ⟨j + 1, D', by omega, by go_num, HO.out, HN2.out, BF.out⟩
          case measure => simp [intOf]; omega
        · obtain rfl : j = n := by omega
          have F := Lib.hid (FIN.out wr D hown hN hw)
          clear hown hN hw
          go_wp2
          go_ret
          exact F.out
set_option maxRecDepth 100000 in
set_option maxHeartbeats 4000000 in
theorem implLogOk (d : DPgState) {a6 a7 a8 a11 : Option Addr} {c6 c7 c8 c11 : Nat} (w : World) (l6 : d.base.length ≤ 2097152) (l8 : d.log.length ≤ 2097152) (g8 : d.log.length ≤ c8) {fr : Bool} {lo : Nat} (r6 : Rows fr lo w a6 d.base) (r8 : Rows fr lo w a8 d.log) (hR : RisH d.base) (hT : Nam.Tabs w) :
    Calls Tryz.prog 45 #[.agg #[.int .i64 d.pg.pool, .int .i64 d.pg.no, .int .i64 d.seen, .int .i64 d.started, .int .i64 d.tail.epoch, .int .i64 d.tail.seq, .slice a6 d.base.length c6, .slice a7 d.clients.length c7, .slice a8 d.log.length c8, .int .i64 d.firm.epoch, .int .i64 d.firm.seq, .slice a11 d.chunks.length c11]] w (IffB (LogP d.tail d.base d.log) w) := by
  have LY := lay w (.cells #[.int .i64 d.pg.pool, .int .i64 d.pg.no, .int .i64 d.seen, .int .i64 d.started, .int .i64 d.tail.epoch, .int .i64 d.tail.seq, .slice a6 d.base.length c6, .slice a7 d.clients.length c7, .slice a8 d.log.length c8, .int .i64 d.firm.epoch, .int .i64 d.firm.seq, .slice a11 d.chunks.length c11] 41)
  have LW := Lib.hid LY
  have XX := BxN.new w #[.int .i64 d.pg.pool, .int .i64 d.pg.no, .int .i64 d.seen, .int .i64 d.started, .int .i64 d.tail.epoch, .int .i64 d.tail.seq, .slice a6 d.base.length c6, .slice a7 d.clients.length c7, .slice a8 d.log.length c8, .int .i64 d.firm.epoch, .int .i64 d.firm.seq, .slice a11 d.chunks.length c11] 41
  have X_0 := XX.cells 0 _ rfl
  have X_1 := XX.cells 1 _ rfl
  have X_2 := XX.cells 2 _ rfl
  have X_3 := XX.cells 3 _ rfl
  have X_4 := XX.cells 4 _ rfl
  have X_5 := XX.cells 5 _ rfl
  have X_6 := XX.cells 6 _ rfl
  have X_7 := XX.cells 7 _ rfl
  have X_8 := XX.cells 8 _ rfl
  have X_9 := XX.cells 9 _ rfl
  have X_10 := XX.cells 10 _ rfl
  have X_11 := XX.cells 11 _ rfl
  have XH := Lib.hid XX
  have XZ := Lib.hid XX
  have R8 := Lib.hid (r8.below LY)
  have GL := Lib.hid (fun k (h : k < d.log.length) => get_lt h)
  have HS := Lib.hid (fun k e (hk : d.log[k]? = some e) => headsAt_succ d.base hk)
  have LEN := Lib.hid (fun k e (hk : d.log[k]? = some e) => (List.getElem?_eq_some_iff.1 hk).1)
  have HC := Lib.hid (fun w' (b : Below (w.alloc (.cells #[.int .i64 d.pg.pool, .int .i64 d.pg.no, .int .i64 d.seen, .int .i64 d.started, .int .i64 d.tail.epoch, .int .i64 d.tail.seq, .slice a6 d.base.length c6, .slice a7 d.clients.length c7, .slice a8 d.log.length c8, .int .i64 d.firm.epoch, .int .i64 d.firm.seq, .slice a11 d.chunks.length c11] 41)).heap.size (w.alloc (.cells #[.int .i64 d.pg.pool, .int .i64 d.pg.no, .int .i64 d.seen, .int .i64 d.started, .int .i64 d.tail.epoch, .int .i64 d.tail.seq, .slice a6 d.base.length c6, .slice a7 d.clients.length c7, .slice a8 d.log.length c8, .int .i64 d.firm.epoch, .int .i64 d.firm.seq, .slice a11 d.chunks.length c11] 41)) w') => implHeadsAfter d (a6 := a6) (a7 := a7) (a8 := a8) (a11 := a11) (c6 := c6) (c7 := c7) (c8 := c8) (c11 := c11) 0 (Nat.zero_le _) w' l6 l8 g8 ((r6.below LY).below b) ((r8.below LY).below b) hR)
  have VC := Lib.hid (fun k (hk : k ≤ d.log.length) w' (b : Below (w.alloc (.cells #[.int .i64 d.pg.pool, .int .i64 d.pg.no, .int .i64 d.seen, .int .i64 d.started, .int .i64 d.tail.epoch, .int .i64 d.tail.seq, .slice a6 d.base.length c6, .slice a7 d.clients.length c7, .slice a8 d.log.length c8, .int .i64 d.firm.epoch, .int .i64 d.firm.seq, .slice a11 d.chunks.length c11] 41)).heap.size (w.alloc (.cells #[.int .i64 d.pg.pool, .int .i64 d.pg.no, .int .i64 d.seen, .int .i64 d.started, .int .i64 d.tail.epoch, .int .i64 d.tail.seq, .slice a6 d.base.length c6, .slice a7 d.clients.length c7, .slice a8 d.log.length c8, .int .i64 d.firm.epoch, .int .i64 d.firm.seq, .slice a11 d.chunks.length c11] 41)) w') => implVerAfter d (a6 := a6) (a7 := a7) (a8 := a8) (a11 := a11) (c6 := c6) (c7 := c7) (c8 := c8) (c11 := c11) k hk w' l8 ((r8.below LY).below b))
  have TB := Lib.hid (fun w' (b : Below (w.alloc (.cells #[.int .i64 d.pg.pool, .int .i64 d.pg.no, .int .i64 d.seen, .int .i64 d.started, .int .i64 d.tail.epoch, .int .i64 d.tail.seq, .slice a6 d.base.length c6, .slice a7 d.clients.length c7, .slice a8 d.log.length c8, .int .i64 d.firm.epoch, .int .i64 d.firm.seq, .slice a11 d.chunks.length c11] 41)).heap.size (w.alloc (.cells #[.int .i64 d.pg.pool, .int .i64 d.pg.no, .int .i64 d.seen, .int .i64 d.started, .int .i64 d.tail.epoch, .int .i64 d.tail.seq, .slice a6 d.base.length c6, .slice a7 d.clients.length c7, .slice a8 d.log.length c8, .int .i64 d.firm.epoch, .int .i64 d.firm.seq, .slice a11 d.chunks.length c11] 41)) w') => tabs_later (tabs_later hT LY) b)
  have BH := Lib.hid (Below.refl (w.alloc (.cells #[.int .i64 d.pg.pool, .int .i64 d.pg.no, .int .i64 d.seen, .int .i64 d.started, .int .i64 d.tail.epoch, .int .i64 d.tail.seq, .slice a6 d.base.length c6, .slice a7 d.clients.length c7, .slice a8 d.log.length c8, .int .i64 d.firm.epoch, .int .i64 d.firm.seq, .slice a11 d.chunks.length c11] 41)).heap.size (w.alloc (.cells #[.int .i64 d.pg.pool, .int .i64 d.pg.no, .int .i64 d.seen, .int .i64 d.started, .int .i64 d.tail.epoch, .int .i64 d.tail.seq, .slice a6 d.base.length c6, .slice a7 d.clients.length c7, .slice a8 d.log.length c8, .int .i64 d.firm.epoch, .int .i64 d.firm.seq, .slice a11 d.chunks.length c11] 41)))
  clear r6 r8 hR hT LY XX
  by_cases q0 : 24 < d.log.length
  · have NO := Lib.hid (show ¬ LogP d.tail d.base d.log from fun h => by have := h.1; omega)
    have q1 : decide ((24 : Int) < (d.log.length : Int)) = true := decide_eq_true (by omega)
    go_enter Tryz.func45, Tryz.ntmps45
    go_wp2
    go_ret
    exact IffB.no NO.out LW.out
  · have q1 : decide ((24 : Int) < (d.log.length : Int)) = false := decide_eq_false (by omega)
    have q24 : d.log.length ≤ 24 := by omega
    clear q0
    go_enter Tryz.func45, Tryz.ntmps45
    go_wp2_with fail
    refine (HC.out _ BH.out).mono ?_
    rintro en w2 ⟨B, m, D0, rfl, hBw, hm, hown0, hN0, b2⟩
    have BW := Lib.hid (show w.heap.size + 1 ≤ B from by simpa using hBw)
    have XH := Lib.hid (XH.out.later b2)
    have X_0 := XH.out.cells 0 _ rfl
    have X_1 := XH.out.cells 1 _ rfl
    have X_2 := XH.out.cells 2 _ rfl
    have X_3 := XH.out.cells 3 _ rfl
    have X_4 := XH.out.cells 4 _ rfl
    have X_5 := XH.out.cells 5 _ rfl
    have X_6 := XH.out.cells 6 _ rfl
    have X_7 := XH.out.cells 7 _ rfl
    have X_8 := XH.out.cells 8 _ rfl
    have X_9 := XH.out.cells 9 _ rfl
    have X_10 := XH.out.cells 10 _ rfl
    have X_11 := XH.out.cells 11 _ rfl
    have BH := Lib.hid (chainX _ BH.out b2)
    have MH := Lib.hid hown0
    have NH := Lib.hid hN0
    have hm2 : m ≤ 2097152 := by omega
    clear hBw hm hown0 hN0 b2 HC
    go_wp2
    go_loopw [15] (fun i wr => ∃ (k : Nat) (D : DataW Value), k ≤ d.log.length ∧ i = .int .i64 k ∧ wr.ownsMap Tryz.prog 9 RV B (m + k) D ∧ NM D (headsAt d.base d.log k) ∧ (∀ (j : Nat) (e : DEntry), j < k → d.log[j]? = some e → entryB e = true ∧ (e.prior.epoch = (verAt d.tail d.log j).epoch ∧ e.prior.seq = (verAt d.tail d.log j).seq) ∧ (headsAt d.base d.log (j + 1)).length ≤ 16) ∧ Below (w.alloc (.cells #[.int .i64 d.pg.pool, .int .i64 d.pg.no, .int .i64 d.seen, .int .i64 d.started, .int .i64 d.tail.epoch, .int .i64 d.tail.seq, .slice a6 d.base.length c6, .slice a7 d.clients.length c7, .slice a8 d.log.length c8, .int .i64 d.firm.epoch, .int .i64 d.firm.seq, .slice a11 d.chunks.length c11] 41)).heap.size (w.alloc (.cells #[.int .i64 d.pg.pool, .int .i64 d.pg.no, .int .i64 d.seen, .int .i64 d.started, .int .i64 d.tail.epoch, .int .i64 d.tail.seq, .slice a6 d.base.length c6, .slice a7 d.clients.length c7, .slice a8 d.log.length c8, .int .i64 d.firm.epoch, .int .i64 d.firm.seq, .slice a11 d.chunks.length c11] 41)) wr) (fun i _ => d.log.length - (intOf i).toNat)
    case atStart => exact ⟨0, D0, by omega, rfl, MH.out, NH.out, fun j e hj => absurd hj (Nat.not_lt_zero _), BH.out⟩
    case round =>
      obtain ⟨k, D, hk, rfl, hown, hN, hOK, hw⟩ := hrel
      clear BH MH NH
      have OK := Lib.hid hOK
      by_cases hlt : k < d.log.length
      · obtain ⟨e, hx⟩ := GL.out k hlt
        obtain ⟨b, off, cs, e8, -, hB, hr, hcc⟩ := (R8.out.below hw).at' hx
        obtain ⟨rfl, f0_0, f0_1, f0_2, f0_3, f0_4, f0_6, f0_7, f0_8, f0_9⟩ := shape_Entry hr
        have z0 : wr.cell? ⟨b, off + k * 10, none⟩ = some (.int .i64 e.ver.epoch) := hcc 0 _ rfl
        have z1 : wr.cell? ⟨b, off + k * 10 + 1, none⟩ = some (.int .i64 e.ver.seq) := hcc 1 _ rfl
        have z2 : wr.cell? ⟨b, off + k * 10 + 2, none⟩ = some (.int .i64 e.prior.epoch) := hcc 2 _ rfl
        have z3 : wr.cell? ⟨b, off + k * 10 + 3, none⟩ = some (.int .i64 e.prior.seq) := hcc 3 _ rfl
        have z4 : wr.cell? ⟨b, off + k * 10 + 4, none⟩ = some (.string e.name) := hcc 4 _ rfl
        have z5 : wr.cell? ⟨b, off + k * 10 + 5, none⟩ = some (.bool e.gone) := hcc 5 _ rfl
        have z6 : wr.cell? ⟨b, off + k * 10 + 6, none⟩ = some (.int .i64 e.size) := hcc 6 _ rfl
        have z7 : wr.cell? ⟨b, off + k * 10 + 7, none⟩ = some (.int .i64 e.sum) := hcc 7 _ rfl
        have z8 : wr.cell? ⟨b, off + k * 10 + 8, none⟩ = some (.int .i64 e.req.client) := hcc 8 _ rfl
        have z9 : wr.cell? ⟨b, off + k * 10 + 9, none⟩ = some (.int .i64 e.req.no) := hcc 9 _ rfl
        have EN := BxN.new wr #[.int .i64 e.ver.epoch, .int .i64 e.ver.seq, .int .i64 e.prior.epoch, .int .i64 e.prior.seq, .string e.name, .bool e.gone, .int .i64 e.size, .int .i64 e.sum, .int .i64 e.req.client, .int .i64 e.req.no] 114
        have LE := lay wr (.cells #[.int .i64 e.ver.epoch, .int .i64 e.ver.seq, .int .i64 e.prior.epoch, .int .i64 e.prior.seq, .string e.name, .bool e.gone, .int .i64 e.size, .int .i64 e.sum, .int .i64 e.req.client, .int .i64 e.req.no] 114)
        have TK := implTake e B (m + k) D (headsAt d.base d.log k) (wr.alloc (.cells #[.int .i64 e.ver.epoch, .int .i64 e.ver.seq, .int .i64 e.prior.epoch, .int .i64 e.prior.seq, .string e.name, .bool e.gone, .int .i64 e.size, .int .i64 e.sum, .int .i64 e.req.client, .int .i64 e.req.no] 114)) (by omega) (hown.alloc (.cells #[.int .i64 e.ver.epoch, .int .i64 e.ver.seq, .int .i64 e.prior.epoch, .int .i64 e.prior.seq, .string e.name, .bool e.gone, .int .i64 e.size, .int .i64 e.sum, .int .i64 e.req.client, .int .i64 e.req.no] 114)) hN f0_4
        rw [← HS.out k e hx] at TK
        have TK := Lib.hid TK
        have G1 := Lib.hid (World.grownBy_alloc wr (.cells #[.int .i64 e.ver.epoch, .int .i64 e.ver.seq, .int .i64 e.prior.epoch, .int .i64 e.prior.seq, .string e.name, .bool e.gone, .int .i64 e.size, .int .i64 e.sum, .int .i64 e.req.client, .int .i64 e.req.no] 114) (some B))
        have LTB := Lib.hid (show wr.heap.size ≠ B ∧ w.heap.size ≠ B from ⟨by have := hown.lt; omega, by have := BW.out; omega⟩)
        have YN := EN
        have y0 := YN.cells 0 _ rfl
        have y1 := YN.cells 1 _ rfl
        have y2 := YN.cells 2 _ rfl
        have y3 := YN.cells 3 _ rfl
        have y4 := YN.cells 4 _ rfl
        have y5 := YN.cells 5 _ rfl
        have y6 := YN.cells 6 _ rfl
        have y7 := YN.cells 7 _ rfl
        have y8 := YN.cells 8 _ rfl
        have y9 := YN.cells 9 _ rfl
        have EH := Lib.hid EN
        have XE := Lib.hid ((XZ.out.later hw).later LE)
        have BH := Lib.hid hw
        have HX := Lib.hid hx
        have CE := Lib.hid (fun w' (b : Below (w.alloc (.cells #[.int .i64 d.pg.pool, .int .i64 d.pg.no, .int .i64 d.seen, .int .i64 d.started, .int .i64 d.tail.epoch, .int .i64 d.tail.seq, .slice a6 d.base.length c6, .slice a7 d.clients.length c7, .slice a8 d.log.length c8, .int .i64 d.firm.epoch, .int .i64 d.firm.seq, .slice a11 d.chunks.length c11] 41)).heap.size (w.alloc (.cells #[.int .i64 d.pg.pool, .int .i64 d.pg.no, .int .i64 d.seen, .int .i64 d.started, .int .i64 d.tail.epoch, .int .i64 d.tail.seq, .slice a6 d.base.length c6, .slice a7 d.clients.length c7, .slice a8 d.log.length c8, .int .i64 d.firm.epoch, .int .i64 d.firm.seq, .slice a11 d.chunks.length c11] 41)) w') => implEntryOk e w' f0_4 (TB.out w' b))
        have CV := Lib.hid (fun w' (b : Below (w.alloc (.cells #[.int .i64 d.pg.pool, .int .i64 d.pg.no, .int .i64 d.seen, .int .i64 d.started, .int .i64 d.tail.epoch, .int .i64 d.tail.seq, .slice a6 d.base.length c6, .slice a7 d.clients.length c7, .slice a8 d.log.length c8, .int .i64 d.firm.epoch, .int .i64 d.firm.seq, .slice a11 d.chunks.length c11] 41)).heap.size (w.alloc (.cells #[.int .i64 d.pg.pool, .int .i64 d.pg.no, .int .i64 d.seen, .int .i64 d.started, .int .i64 d.tail.epoch, .int .i64 d.tail.seq, .slice a6 d.base.length c6, .slice a7 d.clients.length c7, .slice a8 d.log.length c8, .int .i64 d.firm.epoch, .int .i64 d.firm.seq, .slice a11 d.chunks.length c11] 41)) w') => VC.out k hk w' b)
        clear hcc hr hx hown hN hOK hw EN LE YN
        subst e8
        go_wp2_with fail
        refine TK.out.mono ?_
        rintro en w3 ⟨rfl, D', h1, h2, h3⟩
        have EH := Lib.hid (bxGrown EH.out h3 (fun e => LTB.out.1 (Option.some.inj e)))
        have XH := Lib.hid (bxGrown XE.out h3 (fun e => LTB.out.2 (Option.some.inj e)))
        have BH := Lib.hid (BH.out.grown (G1.out.trans h3) BH.out.size (fun j hj => by cases hj; have := BW.out; simpa using this))
        have MH := Lib.hid h1
        have MH2 := Lib.hid h1
        have NH := Lib.hid h2
        have SZ := Lib.hid h2.size
        have E_0 := EH.out.cells 0 _ rfl
        have E_1 := EH.out.cells 1 _ rfl
        have E_2 := EH.out.cells 2 _ rfl
        have E_3 := EH.out.cells 3 _ rfl
        have E_4 := EH.out.cells 4 _ rfl
        have E_5 := EH.out.cells 5 _ rfl
        have E_6 := EH.out.cells 6 _ rfl
        have E_7 := EH.out.cells 7 _ rfl
        have E_8 := EH.out.cells 8 _ rfl
        have E_9 := EH.out.cells 9 _ rfl
        have X_0 := XH.out.cells 0 _ rfl
        have X_1 := XH.out.cells 1 _ rfl
        have X_2 := XH.out.cells 2 _ rfl
        have X_3 := XH.out.cells 3 _ rfl
        have X_4 := XH.out.cells 4 _ rfl
        have X_5 := XH.out.cells 5 _ rfl
        have X_6 := XH.out.cells 6 _ rfl
        have X_7 := XH.out.cells 7 _ rfl
        have X_8 := XH.out.cells 8 _ rfl
        have X_9 := XH.out.cells 9 _ rfl
        have X_10 := XH.out.cells 10 _ rfl
        have X_11 := XH.out.cells 11 _ rfl
        clear h1 h2 h3 TK XE G1
        have NOW := Lib.hid (fun (hno : ¬ (entryB e = true ∧ (e.prior.epoch = (verAt d.tail d.log k).epoch ∧ e.prior.seq = (verAt d.tail d.log k).seq) ∧ (headsAt d.base d.log (k + 1)).length ≤ 16)) => (show ¬ LogP d.tail d.base d.log from fun h => hno (h.2 k e HX.out)))
        have YES := Lib.hid (fun (hok : entryB e = true ∧ (e.prior.epoch = (verAt d.tail d.log k).epoch ∧ e.prior.seq = (verAt d.tail d.log k).seq) ∧ (headsAt d.base d.log (k + 1)).length ≤ 16) => (show ∀ (j : Nat) (e : DEntry), j < k + 1 → d.log[j]? = some e → entryB e = true ∧ (e.prior.epoch = (verAt d.tail d.log j).epoch ∧ e.prior.seq = (verAt d.tail d.log j).seq) ∧ (headsAt d.base d.log (j + 1)).length ≤ 16 from fun j x hj hjx => by
          by_cases ej : j = k
          · subst ej; rw [HX.out] at hjx; cases hjx; exact hok
          · exact OK.out j x (by omega) hjx))
        clear OK HX
        obtain ⟨ln, hln⟩ : ∃ ln, (headsAt d.base d.log (k + 1)).length = ln := ⟨_, rfl⟩
        rw [hln] at SZ NOW YES
        have LN := fun ty => MH.out.len Tryz.underlying135 ty
        rw [SZ.out] at LN
        have LND := fun ty => (MH.out.drew).len Tryz.underlying135 ty
        rw [SZ.out] at LND
        clear hln
        generalize entryB e = be at *
        generalize (verAt d.tail d.log k).epoch = ve at *
        generalize (verAt d.tail d.log k).seq = vs at *
        generalize e.prior.epoch = pe at *
        generalize e.prior.seq = ps at *
        cases be
        · have NO := Lib.hid (NOW.out (fun h => Bool.false_ne_true h.1))
          clear NOW YES
          go_wp2
          have E_0 := EH.out.cells 0 _ rfl
          have E_1 := EH.out.cells 1 _ rfl
          have E_2 := EH.out.cells 2 _ rfl
          have E_3 := EH.out.cells 3 _ rfl
          have E_4 := EH.out.cells 4 _ rfl
          have E_5 := EH.out.cells 5 _ rfl
          have E_6 := EH.out.cells 6 _ rfl
          have E_7 := EH.out.cells 7 _ rfl
          have E_8 := EH.out.cells 8 _ rfl
          have E_9 := EH.out.cells 9 _ rfl
          refine wp_region_noPanic ?_
          refine wp_region_held_drew (S := (fun w' => w'.cell? ⟨wr.heap.size, 0, none⟩ = some (.int .i64 e.ver.epoch) ∧ w'.cell? ⟨wr.heap.size, 1, none⟩ = some (.int .i64 e.ver.seq) ∧ w'.cell? ⟨wr.heap.size, 2, none⟩ = some (.int .i64 pe) ∧ w'.cell? ⟨wr.heap.size, 3, none⟩ = some (.int .i64 ps) ∧ w'.cell? ⟨wr.heap.size, 4, none⟩ = some (.string e.name) ∧ w'.cell? ⟨wr.heap.size, 5, none⟩ = some (.bool e.gone) ∧ w'.cell? ⟨wr.heap.size, 6, none⟩ = some (.int .i64 e.size) ∧ w'.cell? ⟨wr.heap.size, 7, none⟩ = some (.int .i64 e.sum) ∧ w'.cell? ⟨wr.heap.size, 8, none⟩ = some (.int .i64 e.req.client) ∧ w'.cell? ⟨wr.heap.size, 9, none⟩ = some (.int .i64 e.req.no) ∧ w'.cell? ⟨w.heap.size, 0, none⟩ = some (.int .i64 d.pg.pool) ∧ w'.cell? ⟨w.heap.size, 1, none⟩ = some (.int .i64 d.pg.no) ∧ w'.cell? ⟨w.heap.size, 2, none⟩ = some (.int .i64 d.seen) ∧ w'.cell? ⟨w.heap.size, 3, none⟩ = some (.int .i64 d.started) ∧ w'.cell? ⟨w.heap.size, 4, none⟩ = some (.int .i64 d.tail.epoch) ∧ w'.cell? ⟨w.heap.size, 5, none⟩ = some (.int .i64 d.tail.seq) ∧ w'.cell? ⟨w.heap.size, 6, none⟩ = some (.slice a6 d.base.length c6) ∧ w'.cell? ⟨w.heap.size, 7, none⟩ = some (.slice a7 d.clients.length c7) ∧ w'.cell? ⟨w.heap.size, 8, none⟩ = some (.slice (some ⟨b, off, none⟩) d.log.length c8) ∧ w'.cell? ⟨w.heap.size, 9, none⟩ = some (.int .i64 d.firm.epoch) ∧ w'.cell? ⟨w.heap.size, 10, none⟩ = some (.int .i64 d.firm.seq) ∧ w'.cell? ⟨w.heap.size, 11, none⟩ = some (.slice a11 d.chunks.length c11) ∧ (∀ ty, (Builtin.len_ #[135] ty #[.map (some B)]).run Tryz.prog w' = .ok (.int .i64 (ln : Int)) w'))) (by kernel_rfl) ?_ (fun hHeld => ?_)
          · go_keep
          refine tj 0 rfl ?_
          try simp only [Act.put, ya, yb, yc, yd, ye, yf]
          refine wpAnyH_ready (rs := [1]) (by kernel_rfl) (by simp) ?_
          refine AllReadyH.cons rfl (fun K hK => ?_) AllReadyH.nil
          go_simp
          (go_at_call 90; refine (CE.out _ (by first | exact BH.out | exact BH.out.drew)).mono ?_; rintro e9 w9 ⟨rfl, b9⟩; (try replace b9 := undrewX b9); have EH := Lib.hid (EH.out.later b9); have XH := Lib.hid (XH.out.later b9); have MH := Lib.hid (own_below MH.out b9); have BH := Lib.hid (chainX _ BH.out b9); obtain ⟨E_0, E_1, E_2, E_3, E_4, E_5, E_6, E_7, E_8, E_9⟩ := c10 EH.out; obtain ⟨X_0, X_1, X_2, X_3, X_4, X_5, X_6, X_7, X_8, X_9, X_10, X_11⟩ := c12 XH.out; have LN := fun ty => MH.out.len Tryz.underlying135 ty; rw [SZ.out] at LN; clear b9)
          (try go_wp2_with fail)
          refine hK.out _ _ ?_ (fun hHeld1 => ?_)
          · (try dsimp only); go_keep
          clear hK K
          try simp only [Act.put, ya, yb, yc, yd, ye, yf]
          refine tj 2 rfl ?_
          try simp only [Act.put, ya, yb, yc, yd, ye, yf]
          refine tj 3 rfl ?_
          try simp only [Act.put, ya, yb, yc, yd, ye, yf]
          refine tk 4 (v := undef) rfl (Or.inr ⟨by kernel_rfl, rfl⟩) (by assumption) ?_
          try simp only [Act.put, ya, yb, yc, yd, ye, yf]
          refine tk 5 (v := undef) rfl (Or.inr ⟨by kernel_rfl, rfl⟩) (by assumption) ?_
          try simp only [Act.put, ya, yb, yc, yd, ye, yf]
          refine tk 6 (v := undef) rfl (Or.inr ⟨by kernel_rfl, rfl⟩) (by assumption) ?_
          try simp only [Act.put, ya, yb, yc, yd, ye, yf]
          refine tk 7 (v := undef) rfl (Or.inr ⟨by kernel_rfl, rfl⟩) (by assumption) ?_
          try simp only [Act.put, ya, yb, yc, yd, ye, yf]
          refine tk 8 (v := undef) rfl (Or.inr ⟨by kernel_rfl, rfl⟩) (by assumption) ?_
          try simp only [Act.put, ya, yb, yc, yd, ye, yf]
          refine tk 9 (v := undef) rfl (Or.inr ⟨by kernel_rfl, rfl⟩) (by assumption) ?_
          try simp only [Act.put, ya, yb, yc, yd, ye, yf]
          refine tj 10 rfl ?_
          try simp only [Act.put, ya, yb, yc, yd, ye, yf]
          refine tj 11 rfl ?_
          try simp only [Act.put, ya, yb, yc, yd, ye, yf]
          refine tk 12 (v := undef) rfl (Or.inr ⟨by kernel_rfl, rfl⟩) (by assumption) ?_
          try simp only [Act.put, ya, yb, yc, yd, ye, yf]
          refine tk 13 (v := undef) rfl (Or.inr ⟨by kernel_rfl, rfl⟩) (by assumption) ?_
          try simp only [Act.put, ya, yb, yc, yd, ye, yf]
          refine tk 14 (v := undef) rfl (Or.inr ⟨by kernel_rfl, rfl⟩) (by assumption) ?_
          try simp only [Act.put, ya, yb, yc, yd, ye, yf]
          refine tj 15 rfl ?_
          try simp only [Act.put, ya, yb, yc, yd, ye, yf]
          refine wpAnyH_done (by kernel_rfl) ?_ _
          refine NoPanic.normal ?_
          go_wp2
          go_ret
          exact IffB.no NO.out (chainX w LW.out BH.out)
        · by_cases hpe : pe = ve
          · subst hpe
            by_cases hps : ps = vs
            · subst hps
              by_cases hl : ln ≤ 16
              · have OK2 := Lib.hid (YES.out ⟨rfl, ⟨rfl, rfl⟩, hl⟩)
                have hl1 : decide ((16 : Int) < (ln : Int)) = false := decide_eq_false (by omega)
                clear NOW YES
                go_wp2
                have E_0 := EH.out.cells 0 _ rfl
                have E_1 := EH.out.cells 1 _ rfl
                have E_2 := EH.out.cells 2 _ rfl
                have E_3 := EH.out.cells 3 _ rfl
                have E_4 := EH.out.cells 4 _ rfl
                have E_5 := EH.out.cells 5 _ rfl
                have E_6 := EH.out.cells 6 _ rfl
                have E_7 := EH.out.cells 7 _ rfl
                have E_8 := EH.out.cells 8 _ rfl
                have E_9 := EH.out.cells 9 _ rfl
                refine wp_region_noPanic ?_
                refine wp_region_held_drew (S := (fun w' => w'.cell? ⟨wr.heap.size, 0, none⟩ = some (.int .i64 e.ver.epoch) ∧ w'.cell? ⟨wr.heap.size, 1, none⟩ = some (.int .i64 e.ver.seq) ∧ w'.cell? ⟨wr.heap.size, 2, none⟩ = some (.int .i64 pe) ∧ w'.cell? ⟨wr.heap.size, 3, none⟩ = some (.int .i64 ps) ∧ w'.cell? ⟨wr.heap.size, 4, none⟩ = some (.string e.name) ∧ w'.cell? ⟨wr.heap.size, 5, none⟩ = some (.bool e.gone) ∧ w'.cell? ⟨wr.heap.size, 6, none⟩ = some (.int .i64 e.size) ∧ w'.cell? ⟨wr.heap.size, 7, none⟩ = some (.int .i64 e.sum) ∧ w'.cell? ⟨wr.heap.size, 8, none⟩ = some (.int .i64 e.req.client) ∧ w'.cell? ⟨wr.heap.size, 9, none⟩ = some (.int .i64 e.req.no) ∧ w'.cell? ⟨w.heap.size, 0, none⟩ = some (.int .i64 d.pg.pool) ∧ w'.cell? ⟨w.heap.size, 1, none⟩ = some (.int .i64 d.pg.no) ∧ w'.cell? ⟨w.heap.size, 2, none⟩ = some (.int .i64 d.seen) ∧ w'.cell? ⟨w.heap.size, 3, none⟩ = some (.int .i64 d.started) ∧ w'.cell? ⟨w.heap.size, 4, none⟩ = some (.int .i64 d.tail.epoch) ∧ w'.cell? ⟨w.heap.size, 5, none⟩ = some (.int .i64 d.tail.seq) ∧ w'.cell? ⟨w.heap.size, 6, none⟩ = some (.slice a6 d.base.length c6) ∧ w'.cell? ⟨w.heap.size, 7, none⟩ = some (.slice a7 d.clients.length c7) ∧ w'.cell? ⟨w.heap.size, 8, none⟩ = some (.slice (some ⟨b, off, none⟩) d.log.length c8) ∧ w'.cell? ⟨w.heap.size, 9, none⟩ = some (.int .i64 d.firm.epoch) ∧ w'.cell? ⟨w.heap.size, 10, none⟩ = some (.int .i64 d.firm.seq) ∧ w'.cell? ⟨w.heap.size, 11, none⟩ = some (.slice a11 d.chunks.length c11) ∧ (∀ ty, (Builtin.len_ #[135] ty #[.map (some B)]).run Tryz.prog w' = .ok (.int .i64 (ln : Int)) w'))) (by kernel_rfl) ?_ (fun hHeld => ?_)
                · go_keep
                refine tj 0 rfl ?_
                try simp only [Act.put, ya, yb, yc, yd, ye, yf]
                refine wpAnyH_ready (rs := [1]) (by kernel_rfl) (by simp) ?_
                refine AllReadyH.cons rfl (fun K hK => ?_) AllReadyH.nil
                go_simp
                (go_at_call 90; refine (CE.out _ (by first | exact BH.out | exact BH.out.drew)).mono ?_; rintro e9 w9 ⟨rfl, b9⟩; (try replace b9 := undrewX b9); have EH := Lib.hid (EH.out.later b9); have XH := Lib.hid (XH.out.later b9); have MH := Lib.hid (own_below MH.out b9); have BH := Lib.hid (chainX _ BH.out b9); obtain ⟨E_0, E_1, E_2, E_3, E_4, E_5, E_6, E_7, E_8, E_9⟩ := c10 EH.out; obtain ⟨X_0, X_1, X_2, X_3, X_4, X_5, X_6, X_7, X_8, X_9, X_10, X_11⟩ := c12 XH.out; have LN := fun ty => MH.out.len Tryz.underlying135 ty; rw [SZ.out] at LN; clear b9)
                (try go_wp2_with fail)
                refine hK.out _ _ ?_ (fun hHeld1 => ?_)
                · (try dsimp only); go_keep
                clear hK K
                try simp only [Act.put, ya, yb, yc, yd, ye, yf]
                refine tj 2 rfl ?_
                try simp only [Act.put, ya, yb, yc, yd, ye, yf]
                refine tj 3 rfl ?_
                try simp only [Act.put, ya, yb, yc, yd, ye, yf]
                refine tj 4 rfl ?_
                try simp only [Act.put, ya, yb, yc, yd, ye, yf]
                refine tj 5 rfl ?_
                try simp only [Act.put, ya, yb, yc, yd, ye, yf]
                refine tj 6 rfl ?_
                try simp only [Act.put, ya, yb, yc, yd, ye, yf]
                refine tj 7 rfl ?_
                try simp only [Act.put, ya, yb, yc, yd, ye, yf]
                refine wpAnyH_ready (rs := [8]) (by kernel_rfl) (by simp) ?_
                refine AllReadyH.cons rfl (fun K hK => ?_) AllReadyH.nil
                go_simp
                (go_at_call 91; refine (CV.out _ (by first | exact BH.out | exact BH.out.drew)).mono ?_; rintro e9 w9 ⟨rfl, b9⟩; (try replace b9 := undrewX b9); have EH := Lib.hid (EH.out.later b9); have XH := Lib.hid (XH.out.later b9); have MH := Lib.hid (own_below MH.out b9); have BH := Lib.hid (chainX _ BH.out b9); obtain ⟨E_0, E_1, E_2, E_3, E_4, E_5, E_6, E_7, E_8, E_9⟩ := c10 EH.out; obtain ⟨X_0, X_1, X_2, X_3, X_4, X_5, X_6, X_7, X_8, X_9, X_10, X_11⟩ := c12 XH.out; have LN := fun ty => MH.out.len Tryz.underlying135 ty; rw [SZ.out] at LN; clear b9)
                (try go_wp2_with fail)
                refine hK.out _ _ ?_ (fun hHeld8 => ?_)
                · (try dsimp only); go_keep
                clear hK K
                try simp only [Act.put, ya, yb, yc, yd, ye, yf]
                refine tj 9 rfl ?_
                try simp only [Act.put, ya, yb, yc, yd, ye, yf]
                refine tj 10 rfl ?_
                try simp only [Act.put, ya, yb, yc, yd, ye, yf]
                refine tj 11 rfl ?_
                try simp only [Act.put, ya, yb, yc, yd, ye, yf]
                refine tj 12 rfl ?_
                try simp only [Act.put, ya, yb, yc, yd, ye, yf]
                refine tj 13 rfl ?_
                try simp only [Act.put, ya, yb, yc, yd, ye, yf]
                refine tj 14 rfl ?_
                try simp only [Act.put, ya, yb, yc, yd, ye, yf]
                refine tj 15 rfl ?_
                try simp only [Act.put, ya, yb, yc, yd, ye, yf]
                refine wpAnyH_done (by kernel_rfl) ?_ _
                refine NoPanic.normal ?_
                go_wp2
                go_roundw
                case rel => exact ⟨k + 1, D', by omega, by go_num, MH.out, NH.out, OK2.out, BH.out⟩
                case measure => simp [intOf]; omega
              · have NO := Lib.hid (NOW.out (fun h => hl h.2.2))
                have hl1 : decide ((16 : Int) < (ln : Int)) = true := decide_eq_true (by omega)
                clear NOW YES
                go_wp2
                have E_0 := EH.out.cells 0 _ rfl
                have E_1 := EH.out.cells 1 _ rfl
                have E_2 := EH.out.cells 2 _ rfl
                have E_3 := EH.out.cells 3 _ rfl
                have E_4 := EH.out.cells 4 _ rfl
                have E_5 := EH.out.cells 5 _ rfl
                have E_6 := EH.out.cells 6 _ rfl
                have E_7 := EH.out.cells 7 _ rfl
                have E_8 := EH.out.cells 8 _ rfl
                have E_9 := EH.out.cells 9 _ rfl
                refine wp_region_noPanic ?_
                refine wp_region_held_drew (S := (fun w' => w'.cell? ⟨wr.heap.size, 0, none⟩ = some (.int .i64 e.ver.epoch) ∧ w'.cell? ⟨wr.heap.size, 1, none⟩ = some (.int .i64 e.ver.seq) ∧ w'.cell? ⟨wr.heap.size, 2, none⟩ = some (.int .i64 pe) ∧ w'.cell? ⟨wr.heap.size, 3, none⟩ = some (.int .i64 ps) ∧ w'.cell? ⟨wr.heap.size, 4, none⟩ = some (.string e.name) ∧ w'.cell? ⟨wr.heap.size, 5, none⟩ = some (.bool e.gone) ∧ w'.cell? ⟨wr.heap.size, 6, none⟩ = some (.int .i64 e.size) ∧ w'.cell? ⟨wr.heap.size, 7, none⟩ = some (.int .i64 e.sum) ∧ w'.cell? ⟨wr.heap.size, 8, none⟩ = some (.int .i64 e.req.client) ∧ w'.cell? ⟨wr.heap.size, 9, none⟩ = some (.int .i64 e.req.no) ∧ w'.cell? ⟨w.heap.size, 0, none⟩ = some (.int .i64 d.pg.pool) ∧ w'.cell? ⟨w.heap.size, 1, none⟩ = some (.int .i64 d.pg.no) ∧ w'.cell? ⟨w.heap.size, 2, none⟩ = some (.int .i64 d.seen) ∧ w'.cell? ⟨w.heap.size, 3, none⟩ = some (.int .i64 d.started) ∧ w'.cell? ⟨w.heap.size, 4, none⟩ = some (.int .i64 d.tail.epoch) ∧ w'.cell? ⟨w.heap.size, 5, none⟩ = some (.int .i64 d.tail.seq) ∧ w'.cell? ⟨w.heap.size, 6, none⟩ = some (.slice a6 d.base.length c6) ∧ w'.cell? ⟨w.heap.size, 7, none⟩ = some (.slice a7 d.clients.length c7) ∧ w'.cell? ⟨w.heap.size, 8, none⟩ = some (.slice (some ⟨b, off, none⟩) d.log.length c8) ∧ w'.cell? ⟨w.heap.size, 9, none⟩ = some (.int .i64 d.firm.epoch) ∧ w'.cell? ⟨w.heap.size, 10, none⟩ = some (.int .i64 d.firm.seq) ∧ w'.cell? ⟨w.heap.size, 11, none⟩ = some (.slice a11 d.chunks.length c11) ∧ (∀ ty, (Builtin.len_ #[135] ty #[.map (some B)]).run Tryz.prog w' = .ok (.int .i64 (ln : Int)) w'))) (by kernel_rfl) ?_ (fun hHeld => ?_)
                · go_keep
                refine tj 0 rfl ?_
                try simp only [Act.put, ya, yb, yc, yd, ye, yf]
                refine wpAnyH_ready (rs := [1]) (by kernel_rfl) (by simp) ?_
                refine AllReadyH.cons rfl (fun K hK => ?_) AllReadyH.nil
                go_simp
                (go_at_call 90; refine (CE.out _ (by first | exact BH.out | exact BH.out.drew)).mono ?_; rintro e9 w9 ⟨rfl, b9⟩; (try replace b9 := undrewX b9); have EH := Lib.hid (EH.out.later b9); have XH := Lib.hid (XH.out.later b9); have MH := Lib.hid (own_below MH.out b9); have BH := Lib.hid (chainX _ BH.out b9); obtain ⟨E_0, E_1, E_2, E_3, E_4, E_5, E_6, E_7, E_8, E_9⟩ := c10 EH.out; obtain ⟨X_0, X_1, X_2, X_3, X_4, X_5, X_6, X_7, X_8, X_9, X_10, X_11⟩ := c12 XH.out; have LN := fun ty => MH.out.len Tryz.underlying135 ty; rw [SZ.out] at LN; clear b9)
                (try go_wp2_with fail)
                refine hK.out _ _ ?_ (fun hHeld1 => ?_)
                · (try dsimp only); go_keep
                clear hK K
                try simp only [Act.put, ya, yb, yc, yd, ye, yf]
                refine tj 2 rfl ?_
                try simp only [Act.put, ya, yb, yc, yd, ye, yf]
                refine tj 3 rfl ?_
                try simp only [Act.put, ya, yb, yc, yd, ye, yf]
                refine tj 4 rfl ?_
                try simp only [Act.put, ya, yb, yc, yd, ye, yf]
                refine tj 5 rfl ?_
                try simp only [Act.put, ya, yb, yc, yd, ye, yf]
                refine tj 6 rfl ?_
                try simp only [Act.put, ya, yb, yc, yd, ye, yf]
                refine tj 7 rfl ?_
                try simp only [Act.put, ya, yb, yc, yd, ye, yf]
                refine wpAnyH_ready (rs := [8]) (by kernel_rfl) (by simp) ?_
                refine AllReadyH.cons rfl (fun K hK => ?_) AllReadyH.nil
                go_simp
                (go_at_call 91; refine (CV.out _ (by first | exact BH.out | exact BH.out.drew)).mono ?_; rintro e9 w9 ⟨rfl, b9⟩; (try replace b9 := undrewX b9); have EH := Lib.hid (EH.out.later b9); have XH := Lib.hid (XH.out.later b9); have MH := Lib.hid (own_below MH.out b9); have BH := Lib.hid (chainX _ BH.out b9); obtain ⟨E_0, E_1, E_2, E_3, E_4, E_5, E_6, E_7, E_8, E_9⟩ := c10 EH.out; obtain ⟨X_0, X_1, X_2, X_3, X_4, X_5, X_6, X_7, X_8, X_9, X_10, X_11⟩ := c12 XH.out; have LN := fun ty => MH.out.len Tryz.underlying135 ty; rw [SZ.out] at LN; clear b9)
                (try go_wp2_with fail)
                refine hK.out _ _ ?_ (fun hHeld8 => ?_)
                · (try dsimp only); go_keep
                clear hK K
                try simp only [Act.put, ya, yb, yc, yd, ye, yf]
                refine tj 9 rfl ?_
                try simp only [Act.put, ya, yb, yc, yd, ye, yf]
                refine tj 10 rfl ?_
                try simp only [Act.put, ya, yb, yc, yd, ye, yf]
                refine tj 11 rfl ?_
                try simp only [Act.put, ya, yb, yc, yd, ye, yf]
                refine tj 12 rfl ?_
                try simp only [Act.put, ya, yb, yc, yd, ye, yf]
                refine tj 13 rfl ?_
                try simp only [Act.put, ya, yb, yc, yd, ye, yf]
                refine tj 14 rfl ?_
                try simp only [Act.put, ya, yb, yc, yd, ye, yf]
                refine tj 15 rfl ?_
                try simp only [Act.put, ya, yb, yc, yd, ye, yf]
                refine wpAnyH_done (by kernel_rfl) ?_ _
                refine NoPanic.normal ?_
                go_wp2
                go_ret
                exact IffB.no NO.out (chainX w LW.out BH.out)
            · have NO := Lib.hid (NOW.out (fun h => hps h.2.1.2))
              clear NOW YES
              go_wp2
              have E_0 := EH.out.cells 0 _ rfl
              have E_1 := EH.out.cells 1 _ rfl
              have E_2 := EH.out.cells 2 _ rfl
              have E_3 := EH.out.cells 3 _ rfl
              have E_4 := EH.out.cells 4 _ rfl
              have E_5 := EH.out.cells 5 _ rfl
              have E_6 := EH.out.cells 6 _ rfl
              have E_7 := EH.out.cells 7 _ rfl
              have E_8 := EH.out.cells 8 _ rfl
              have E_9 := EH.out.cells 9 _ rfl
              refine wp_region_noPanic ?_
              refine wp_region_held_drew (S := (fun w' => w'.cell? ⟨wr.heap.size, 0, none⟩ = some (.int .i64 e.ver.epoch) ∧ w'.cell? ⟨wr.heap.size, 1, none⟩ = some (.int .i64 e.ver.seq) ∧ w'.cell? ⟨wr.heap.size, 2, none⟩ = some (.int .i64 pe) ∧ w'.cell? ⟨wr.heap.size, 3, none⟩ = some (.int .i64 ps) ∧ w'.cell? ⟨wr.heap.size, 4, none⟩ = some (.string e.name) ∧ w'.cell? ⟨wr.heap.size, 5, none⟩ = some (.bool e.gone) ∧ w'.cell? ⟨wr.heap.size, 6, none⟩ = some (.int .i64 e.size) ∧ w'.cell? ⟨wr.heap.size, 7, none⟩ = some (.int .i64 e.sum) ∧ w'.cell? ⟨wr.heap.size, 8, none⟩ = some (.int .i64 e.req.client) ∧ w'.cell? ⟨wr.heap.size, 9, none⟩ = some (.int .i64 e.req.no) ∧ w'.cell? ⟨w.heap.size, 0, none⟩ = some (.int .i64 d.pg.pool) ∧ w'.cell? ⟨w.heap.size, 1, none⟩ = some (.int .i64 d.pg.no) ∧ w'.cell? ⟨w.heap.size, 2, none⟩ = some (.int .i64 d.seen) ∧ w'.cell? ⟨w.heap.size, 3, none⟩ = some (.int .i64 d.started) ∧ w'.cell? ⟨w.heap.size, 4, none⟩ = some (.int .i64 d.tail.epoch) ∧ w'.cell? ⟨w.heap.size, 5, none⟩ = some (.int .i64 d.tail.seq) ∧ w'.cell? ⟨w.heap.size, 6, none⟩ = some (.slice a6 d.base.length c6) ∧ w'.cell? ⟨w.heap.size, 7, none⟩ = some (.slice a7 d.clients.length c7) ∧ w'.cell? ⟨w.heap.size, 8, none⟩ = some (.slice (some ⟨b, off, none⟩) d.log.length c8) ∧ w'.cell? ⟨w.heap.size, 9, none⟩ = some (.int .i64 d.firm.epoch) ∧ w'.cell? ⟨w.heap.size, 10, none⟩ = some (.int .i64 d.firm.seq) ∧ w'.cell? ⟨w.heap.size, 11, none⟩ = some (.slice a11 d.chunks.length c11) ∧ (∀ ty, (Builtin.len_ #[135] ty #[.map (some B)]).run Tryz.prog w' = .ok (.int .i64 (ln : Int)) w'))) (by kernel_rfl) ?_ (fun hHeld => ?_)
              · go_keep
              refine tj 0 rfl ?_
              try simp only [Act.put, ya, yb, yc, yd, ye, yf]
              refine wpAnyH_ready (rs := [1]) (by kernel_rfl) (by simp) ?_
              refine AllReadyH.cons rfl (fun K hK => ?_) AllReadyH.nil
              go_simp
              (go_at_call 90; refine (CE.out _ (by first | exact BH.out | exact BH.out.drew)).mono ?_; rintro e9 w9 ⟨rfl, b9⟩; (try replace b9 := undrewX b9); have EH := Lib.hid (EH.out.later b9); have XH := Lib.hid (XH.out.later b9); have MH := Lib.hid (own_below MH.out b9); have BH := Lib.hid (chainX _ BH.out b9); obtain ⟨E_0, E_1, E_2, E_3, E_4, E_5, E_6, E_7, E_8, E_9⟩ := c10 EH.out; obtain ⟨X_0, X_1, X_2, X_3, X_4, X_5, X_6, X_7, X_8, X_9, X_10, X_11⟩ := c12 XH.out; have LN := fun ty => MH.out.len Tryz.underlying135 ty; rw [SZ.out] at LN; clear b9)
              (try go_wp2_with fail)
              refine hK.out _ _ ?_ (fun hHeld1 => ?_)
              · (try dsimp only); go_keep
              clear hK K
              try simp only [Act.put, ya, yb, yc, yd, ye, yf]
              refine tj 2 rfl ?_
              try simp only [Act.put, ya, yb, yc, yd, ye, yf]
              refine tj 3 rfl ?_
              try simp only [Act.put, ya, yb, yc, yd, ye, yf]
              refine tj 4 rfl ?_
              try simp only [Act.put, ya, yb, yc, yd, ye, yf]
              refine tj 5 rfl ?_
              try simp only [Act.put, ya, yb, yc, yd, ye, yf]
              refine tj 6 rfl ?_
              try simp only [Act.put, ya, yb, yc, yd, ye, yf]
              refine tj 7 rfl ?_
              try simp only [Act.put, ya, yb, yc, yd, ye, yf]
              refine wpAnyH_ready (rs := [8]) (by kernel_rfl) (by simp) ?_
              refine AllReadyH.cons rfl (fun K hK => ?_) AllReadyH.nil
              go_simp
              (go_at_call 91; refine (CV.out _ (by first | exact BH.out | exact BH.out.drew)).mono ?_; rintro e9 w9 ⟨rfl, b9⟩; (try replace b9 := undrewX b9); have EH := Lib.hid (EH.out.later b9); have XH := Lib.hid (XH.out.later b9); have MH := Lib.hid (own_below MH.out b9); have BH := Lib.hid (chainX _ BH.out b9); obtain ⟨E_0, E_1, E_2, E_3, E_4, E_5, E_6, E_7, E_8, E_9⟩ := c10 EH.out; obtain ⟨X_0, X_1, X_2, X_3, X_4, X_5, X_6, X_7, X_8, X_9, X_10, X_11⟩ := c12 XH.out; have LN := fun ty => MH.out.len Tryz.underlying135 ty; rw [SZ.out] at LN; clear b9)
              (try go_wp2_with fail)
              refine hK.out _ _ ?_ (fun hHeld8 => ?_)
              · (try dsimp only); go_keep
              clear hK K
              try simp only [Act.put, ya, yb, yc, yd, ye, yf]
              refine tj 9 rfl ?_
              try simp only [Act.put, ya, yb, yc, yd, ye, yf]
              refine tj 10 rfl ?_
              try simp only [Act.put, ya, yb, yc, yd, ye, yf]
              refine tj 11 rfl ?_
              try simp only [Act.put, ya, yb, yc, yd, ye, yf]
              refine tk 12 (v := undef) rfl (Or.inr ⟨by kernel_rfl, rfl⟩) (by assumption) ?_
              try simp only [Act.put, ya, yb, yc, yd, ye, yf]
              refine tk 13 (v := undef) rfl (Or.inr ⟨by kernel_rfl, rfl⟩) (by assumption) ?_
              try simp only [Act.put, ya, yb, yc, yd, ye, yf]
              refine tk 14 (v := undef) rfl (Or.inr ⟨by kernel_rfl, rfl⟩) (by assumption) ?_
              try simp only [Act.put, ya, yb, yc, yd, ye, yf]
              refine tj 15 rfl ?_
              try simp only [Act.put, ya, yb, yc, yd, ye, yf]
              refine wpAnyH_done (by kernel_rfl) ?_ _
              refine NoPanic.normal ?_
              go_wp2
              go_ret
              exact IffB.no NO.out (chainX w LW.out BH.out)
          · have NO := Lib.hid (NOW.out (fun h => hpe h.2.1.1))
            clear NOW YES
            go_wp2
            have E_0 := EH.out.cells 0 _ rfl
            have E_1 := EH.out.cells 1 _ rfl
            have E_2 := EH.out.cells 2 _ rfl
            have E_3 := EH.out.cells 3 _ rfl
            have E_4 := EH.out.cells 4 _ rfl
            have E_5 := EH.out.cells 5 _ rfl
            have E_6 := EH.out.cells 6 _ rfl
            have E_7 := EH.out.cells 7 _ rfl
            have E_8 := EH.out.cells 8 _ rfl
            have E_9 := EH.out.cells 9 _ rfl
            refine wp_region_noPanic ?_
            refine wp_region_held_drew (S := (fun w' => w'.cell? ⟨wr.heap.size, 0, none⟩ = some (.int .i64 e.ver.epoch) ∧ w'.cell? ⟨wr.heap.size, 1, none⟩ = some (.int .i64 e.ver.seq) ∧ w'.cell? ⟨wr.heap.size, 2, none⟩ = some (.int .i64 pe) ∧ w'.cell? ⟨wr.heap.size, 3, none⟩ = some (.int .i64 ps) ∧ w'.cell? ⟨wr.heap.size, 4, none⟩ = some (.string e.name) ∧ w'.cell? ⟨wr.heap.size, 5, none⟩ = some (.bool e.gone) ∧ w'.cell? ⟨wr.heap.size, 6, none⟩ = some (.int .i64 e.size) ∧ w'.cell? ⟨wr.heap.size, 7, none⟩ = some (.int .i64 e.sum) ∧ w'.cell? ⟨wr.heap.size, 8, none⟩ = some (.int .i64 e.req.client) ∧ w'.cell? ⟨wr.heap.size, 9, none⟩ = some (.int .i64 e.req.no) ∧ w'.cell? ⟨w.heap.size, 0, none⟩ = some (.int .i64 d.pg.pool) ∧ w'.cell? ⟨w.heap.size, 1, none⟩ = some (.int .i64 d.pg.no) ∧ w'.cell? ⟨w.heap.size, 2, none⟩ = some (.int .i64 d.seen) ∧ w'.cell? ⟨w.heap.size, 3, none⟩ = some (.int .i64 d.started) ∧ w'.cell? ⟨w.heap.size, 4, none⟩ = some (.int .i64 d.tail.epoch) ∧ w'.cell? ⟨w.heap.size, 5, none⟩ = some (.int .i64 d.tail.seq) ∧ w'.cell? ⟨w.heap.size, 6, none⟩ = some (.slice a6 d.base.length c6) ∧ w'.cell? ⟨w.heap.size, 7, none⟩ = some (.slice a7 d.clients.length c7) ∧ w'.cell? ⟨w.heap.size, 8, none⟩ = some (.slice (some ⟨b, off, none⟩) d.log.length c8) ∧ w'.cell? ⟨w.heap.size, 9, none⟩ = some (.int .i64 d.firm.epoch) ∧ w'.cell? ⟨w.heap.size, 10, none⟩ = some (.int .i64 d.firm.seq) ∧ w'.cell? ⟨w.heap.size, 11, none⟩ = some (.slice a11 d.chunks.length c11) ∧ (∀ ty, (Builtin.len_ #[135] ty #[.map (some B)]).run Tryz.prog w' = .ok (.int .i64 (ln : Int)) w'))) (by kernel_rfl) ?_ (fun hHeld => ?_)
            · go_keep
            refine tj 0 rfl ?_
            try simp only [Act.put, ya, yb, yc, yd, ye, yf]
            refine wpAnyH_ready (rs := [1]) (by kernel_rfl) (by simp) ?_
            refine AllReadyH.cons rfl (fun K hK => ?_) AllReadyH.nil
            go_simp
            (go_at_call 90; refine (CE.out _ (by first | exact BH.out | exact BH.out.drew)).mono ?_; rintro e9 w9 ⟨rfl, b9⟩; (try replace b9 := undrewX b9); have EH := Lib.hid (EH.out.later b9); have XH := Lib.hid (XH.out.later b9); have MH := Lib.hid (own_below MH.out b9); have BH := Lib.hid (chainX _ BH.out b9); obtain ⟨E_0, E_1, E_2, E_3, E_4, E_5, E_6, E_7, E_8, E_9⟩ := c10 EH.out; obtain ⟨X_0, X_1, X_2, X_3, X_4, X_5, X_6, X_7, X_8, X_9, X_10, X_11⟩ := c12 XH.out; have LN := fun ty => MH.out.len Tryz.underlying135 ty; rw [SZ.out] at LN; clear b9)
            (try go_wp2_with fail)
            refine hK.out _ _ ?_ (fun hHeld1 => ?_)
            · (try dsimp only); go_keep
            clear hK K
            try simp only [Act.put, ya, yb, yc, yd, ye, yf]
            refine tj 2 rfl ?_
            try simp only [Act.put, ya, yb, yc, yd, ye, yf]
            refine tj 3 rfl ?_
            try simp only [Act.put, ya, yb, yc, yd, ye, yf]
            refine tj 4 rfl ?_
            try simp only [Act.put, ya, yb, yc, yd, ye, yf]
            refine tj 5 rfl ?_
            try simp only [Act.put, ya, yb, yc, yd, ye, yf]
            refine tj 6 rfl ?_
            try simp only [Act.put, ya, yb, yc, yd, ye, yf]
            refine tj 7 rfl ?_
            try simp only [Act.put, ya, yb, yc, yd, ye, yf]
            refine wpAnyH_ready (rs := [8]) (by kernel_rfl) (by simp) ?_
            refine AllReadyH.cons rfl (fun K hK => ?_) AllReadyH.nil
            go_simp
            (go_at_call 91; refine (CV.out _ (by first | exact BH.out | exact BH.out.drew)).mono ?_; rintro e9 w9 ⟨rfl, b9⟩; (try replace b9 := undrewX b9); have EH := Lib.hid (EH.out.later b9); have XH := Lib.hid (XH.out.later b9); have MH := Lib.hid (own_below MH.out b9); have BH := Lib.hid (chainX _ BH.out b9); obtain ⟨E_0, E_1, E_2, E_3, E_4, E_5, E_6, E_7, E_8, E_9⟩ := c10 EH.out; obtain ⟨X_0, X_1, X_2, X_3, X_4, X_5, X_6, X_7, X_8, X_9, X_10, X_11⟩ := c12 XH.out; have LN := fun ty => MH.out.len Tryz.underlying135 ty; rw [SZ.out] at LN; clear b9)
            (try go_wp2_with fail)
            refine hK.out _ _ ?_ (fun hHeld8 => ?_)
            · (try dsimp only); go_keep
            clear hK K
            try simp only [Act.put, ya, yb, yc, yd, ye, yf]
            refine tj 9 rfl ?_
            try simp only [Act.put, ya, yb, yc, yd, ye, yf]
            refine tj 10 rfl ?_
            try simp only [Act.put, ya, yb, yc, yd, ye, yf]
            refine tj 11 rfl ?_
            try simp only [Act.put, ya, yb, yc, yd, ye, yf]
            refine tk 12 (v := undef) rfl (Or.inr ⟨by kernel_rfl, rfl⟩) (by assumption) ?_
            try simp only [Act.put, ya, yb, yc, yd, ye, yf]
            refine tk 13 (v := undef) rfl (Or.inr ⟨by kernel_rfl, rfl⟩) (by assumption) ?_
            try simp only [Act.put, ya, yb, yc, yd, ye, yf]
            refine tk 14 (v := undef) rfl (Or.inr ⟨by kernel_rfl, rfl⟩) (by assumption) ?_
            try simp only [Act.put, ya, yb, yc, yd, ye, yf]
            refine tj 15 rfl ?_
            try simp only [Act.put, ya, yb, yc, yd, ye, yf]
            refine wpAnyH_done (by kernel_rfl) ?_ _
            refine NoPanic.normal ?_
            go_wp2
            go_ret
            exact IffB.no NO.out (chainX w LW.out BH.out)
      · obtain rfl : k = d.log.length := by omega
        have YS := Lib.hid (show LogP d.tail d.base d.log from ⟨q24, fun i e he => OK.out i e (LEN.out i e he) he⟩)
        have BH := Lib.hid (chainX w LW.out hw)
        clear hown hN hOK hw
        go_wp2
        go_ret
        exact IffB.yes YS.out BH.out
end Go.Proofs.YtbckdfoapmjilaaGreatDoor.Rd
