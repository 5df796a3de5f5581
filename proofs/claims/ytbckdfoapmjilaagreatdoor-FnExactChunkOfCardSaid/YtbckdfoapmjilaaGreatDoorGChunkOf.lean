/-
  The exact law of ChunkOf, given the model's answer and the program's (written by tools/gen/chlaw.py).
-/
import Derived.Test.YtbckdfoapmjilaaGreatDoorDPgState
import Derived.Test.YtbckdfoapmjilaaGreatDoorRs
import Derived.Deep.DeepCutAuto
import Derived.Deep.RegionHeld3
namespace Go.Proofs.YtbckdfoapmjilaaGreatDoor.Rd
open Go.RowKit Go.ChangeShapes Go.WideShapes
open Go.Proofs.YtbckdfoapmjilaaGreatDoor.Sg (BxN)
set_option linter.unusedVariables false
set_option linter.unusedSimpArgs false

theorem set6B {w : World} {b : Nat} {z0 z1 z2 z3 z4 z5 : Value} (h : BxN w b [z0, z1, z2, z3, z4, z5]) (v0 v1 v2 v3 v4 v5 : Value) :
    BxN ((((((w.setCell ⟨b, 0, none⟩ v0).setCell ⟨b, 1, none⟩ v1).setCell ⟨b, 2, none⟩ v2).setCell ⟨b, 3, none⟩ v3).setCell ⟨b, 4, none⟩ v4).setCell ⟨b, 5, none⟩ v5) b [v0, v1, v2, v3, v4, v5] :=
  (((((h.put 0 (by simp) v0).put 1 (by simp) v1).put 2 (by simp) v2).put 3 (by simp) v3).put 4 (by simp) v4).put 5 (by simp) v5
theorem set6X {w : World} {b g : Nat} {vs : List Value} (h : BxN w b vs) (hne : b ≠ g) (v0 v1 v2 v3 v4 v5 : Value) :
    BxN ((((((w.setCell ⟨g, 0, none⟩ v0).setCell ⟨g, 1, none⟩ v1).setCell ⟨g, 2, none⟩ v2).setCell ⟨g, 3, none⟩ v3).setCell ⟨g, 4, none⟩ v4).setCell ⟨g, 5, none⟩ v5) b vs :=
  (((((h.far (p := ⟨g, 0, none⟩) hne.symm v0).far (p := ⟨g, 1, none⟩) hne.symm v1).far (p := ⟨g, 2, none⟩) hne.symm v2).far (p := ⟨g, 3, none⟩) hne.symm v3).far (p := ⟨g, 4, none⟩) hne.symm v4).far (p := ⟨g, 5, none⟩) hne.symm v5
theorem set6W {B : Nat} {w0 w : World} {b : Nat} (h : Below B w0 w) (hb : B ≤ b) (v0 v1 v2 v3 v4 v5 : Value) :
    Below B w0 ((((((w.setCell ⟨b, 0, none⟩ v0).setCell ⟨b, 1, none⟩ v1).setCell ⟨b, 2, none⟩ v2).setCell ⟨b, 3, none⟩ v3).setCell ⟨b, 4, none⟩ v4).setCell ⟨b, 5, none⟩ v5) :=
  (((((h.setCell (p := ⟨b, 0, none⟩) hb v0).setCell (p := ⟨b, 1, none⟩) hb v1).setCell (p := ⟨b, 2, none⟩) hb v2).setCell (p := ⟨b, 3, none⟩) hb v3).setCell (p := ⟨b, 4, none⟩) hb v4).setCell (p := ⟨b, 5, none⟩) hb v5
set_option maxRecDepth 100000 in
set_option maxHeartbeats 40000000 in
theorem fnChunkOf {cs vs : List Value} (d : DPgState) (nm : ByteArray) (v : DVer) (pos : Int) (q : DChunk) (b : Bool) (w : World) (h : Rdb.rd false 0 w cs d) (hv : Rdb.rd false 0 w vs v) (hq : ∀ w', Rdb.rd true 0 w' [.string q.name, .int .i64 q.ver.epoch, .int .i64 q.ver.seq, .int .i64 q.pos, .int .i64 q.sum, .string q.bytes] q) (hqz : Rdb.sz d ≤ 1048576 → Rdb.sz q ≤ 2097152)
    (hS : Rdb.sz d ≤ 1048576 → ∀ (es : List Value) w' (bw : Below w.heap.size w w') (k : Rdb.rd true 0 w' es d), Calls Tryz.prog 15 #[.agg es.toArray, .string nm, .agg #[.int .i64 v.epoch, .int .i64 v.seq], .int .i64 pos] w' (RetW (.tuple #[.agg #[.string q.name, .int .i64 q.ver.epoch, .int .i64 q.ver.seq, .int .i64 q.pos, .int .i64 q.sum, .string q.bytes], .bool b]) w')) (hI : Rdb.sz d ≤ 1048576 → ∀ (es : List Value) w' (bw : Below w.heap.size w w') (k : Rdb.rd true 0 w' es d), Calls Tryz.prog 17 #[.agg es.toArray, .string nm, .agg #[.int .i64 v.epoch, .int .i64 v.seq], .int .i64 pos] w' (RetW (.tuple #[.agg #[.string q.name, .int .i64 q.ver.epoch, .int .i64 q.ver.seq, .int .i64 q.pos, .int .i64 q.sum, .string q.bytes], .bool b]) w')) :
    Calls Tryz.prog 5 #[.agg cs.toArray, .string nm, .agg vs.toArray, .int .i64 pos] w (RetW (.bool true) w) := by
  obtain ⟨a0_6, c0_6, a0_7, c0_7, a0_8, c0_8, a0_11, c0_11, rfl, f0_0, f0_1, f0_2, f0_3, f0_4, f0_5, f0_6, g0_6, f0_7, g0_7, f0_8, g0_8, f0_9, f0_10, f0_11, g0_11⟩ := shape_PgState h
  obtain ⟨rfl, u0, u1⟩ := shape_Ver hv
  have BH := Lib.hid (chainX w (lay w (.cells #[.int .i64 d.pg.pool, .int .i64 d.pg.no, .int .i64 d.seen, .int .i64 d.started, .int .i64 d.tail.epoch, .int .i64 d.tail.seq, .slice a0_6 d.base.length c0_6, .slice a0_7 d.clients.length c0_7, .slice a0_8 d.log.length c0_8, .int .i64 d.firm.epoch, .int .i64 d.firm.seq, .slice a0_11 d.chunks.length c0_11] 31)) (lay _ (.cells #[.int .i64 v.epoch, .int .i64 v.seq] 25)))
  have XH := Lib.hid ((BxN.new w #[.int .i64 d.pg.pool, .int .i64 d.pg.no, .int .i64 d.seen, .int .i64 d.started, .int .i64 d.tail.epoch, .int .i64 d.tail.seq, .slice a0_6 d.base.length c0_6, .slice a0_7 d.clients.length c0_7, .slice a0_8 d.log.length c0_8, .int .i64 d.firm.epoch, .int .i64 d.firm.seq, .slice a0_11 d.chunks.length c0_11] 31).later (lay _ (.cells #[.int .i64 v.epoch, .int .i64 v.seq] 25)))
  have Y0 := BxN.new (w.alloc (.cells #[.int .i64 d.pg.pool, .int .i64 d.pg.no, .int .i64 d.seen, .int .i64 d.started, .int .i64 d.tail.epoch, .int .i64 d.tail.seq, .slice a0_6 d.base.length c0_6, .slice a0_7 d.clients.length c0_7, .slice a0_8 d.log.length c0_8, .int .i64 d.firm.epoch, .int .i64 d.firm.seq, .slice a0_11 d.chunks.length c0_11] 31)) #[.int .i64 v.epoch, .int .i64 v.seq] 25
  rw [World.size_alloc] at Y0
  have VH := Lib.hid Y0
  clear Y0
  have SZ0 := Lib.hid (fun (lf : Int) (p0 : 0 ≤ lf) (p1 : lf ≤ 2097152) w' (b : Below w.heap.size w w') => szPgState d lf p0 p1 w' (mk_PgState (d := d) (a6 := a0_6) (c6 := c0_6) (a7 := a0_7) (c7 := c0_7) (a8 := a0_8) (c8 := c0_8) (a11 := a0_11) (c11 := c0_11) f0_0 f0_1 f0_2 f0_3 f0_4 f0_5 (f0_6.below b) g0_6 (f0_7.below b) g0_7 (f0_8.below b) g0_8 f0_9 f0_10 (f0_11.below b) g0_11))
  have CP0 := Lib.hid (fun (z : Rdb.sz d ≤ 2097152) w' (b : Below w.heap.size w w') => toPgState d w' z (mk_PgState (d := d) (a6 := a0_6) (c6 := c0_6) (a7 := a0_7) (c7 := c0_7) (a8 := a0_8) (c8 := c0_8) (a11 := a0_11) (c11 := c0_11) f0_0 f0_1 f0_2 f0_3 f0_4 f0_5 (f0_6.below b) g0_6 (f0_7.below b) g0_7 (f0_8.below b) g0_8 f0_9 f0_10 (f0_11.below b) g0_11))
  have CV0 := Lib.hid (fun w' => toVer (fr := true) (lo := 0) v w' (show (0 : Nat) ≤ _ by omega) (mk_Ver (d := v) u0 u1))
  have EQ0 := Lib.hid (fun (z : Rdb.sz d ≤ 2097152) (cs ds : List Value) w' (k1 : Rdb.rd true 0 w' cs d) (k2 : Rdb.rd true 0 w' ds d) => eqPgState d w' z k1 k2)
  have EQC := Lib.hid (fun w' (z : Rdb.sz q ≤ 2097152) => eqChunk (fr := true) (lo := 0) (fr2 := true) (lo2 := 0) q w' z (hq w') (hq w'))
  have QZ := Lib.hid hqz
  clear hqz
  have HS := Lib.hid hS
  have HI := Lib.hid hI
  clear hS hI hv h hq
  clear f0_6 f0_7 f0_8 f0_11
  generalize hs0 : Rdb.sz d = s0 at *
  clear hs0
  by_cases ln : nm.size ≤ 1048576
  rotate_left
  · have dl : decide ((1048576 : Int) < (nm.size : Int)) = true := decide_eq_true (by omega)
    go_enter Tryz.func5, Tryz.ntmps5
    go_wp2
    go_ret
    exact ⟨rfl, BH.out⟩
  have dl : decide ((1048576 : Int) < (nm.size : Int)) = false := decide_eq_false (by omega)
  have cX := Rd.c12 XH.out
  by_cases q0 : (s0 : Int) ≤ 1048576
  rotate_left
  · skip
    have V0 := SZ0.out 1048576 (by omega) (by omega) _ BH.out
    unfold SzB at V0
    rw [show szI 1048576 s0 = -1 from szI_no (by omega)] at V0
    have VV := Lib.hid V0
    clear V0
    go_enter Tryz.func5, Tryz.ntmps5
    go_wp2_with fail
    refine VV.out.mono ?_
    rintro e w1 ⟨rfl, b1⟩
    have B1 := Lib.hid (chainX w BH.out b1)
    clear b1
    go_wp2
    go_ret
    exact ⟨rfl, B1.out⟩
  have V0 := SZ0.out 1048576 (by omega) (by omega) _ BH.out
  unfold SzB at V0
  rw [show szI 1048576 s0 = 1048576 - (s0 : Int) from szI_yes (by omega)] at V0
  have VV := Lib.hid V0
  clear V0
  go_enter Tryz.func5, Tryz.ntmps5
  go_wp2_with fail
  refine VV.out.mono ?_
  rintro e w1 ⟨rfl, b1⟩
  have XH := Lib.hid (XH.out.later b1)
  have VH := Lib.hid (VH.out.later b1)
  have BH := Lib.hid (chainX w BH.out b1)
  clear b1 cX VV
  have dz : decide ((1048576 : Int) - (s0 : Int) < 0) = false := decide_eq_false (by omega)
  have cX := Rd.c12 XH.out
  have cV := Rd.c2 VH.out
  have BW := Lib.hid (Below.refl w1.heap.size w1)
  go_upto_region 7 with fail
  go_cut [10, 11] (fun s10 s11 wx => ∃ g : Nat, s10 = .pointer (some ⟨g, 0, none⟩) ∧ s11 = .bool b ∧ BxN wx g [.string q.name, .int .i64 q.ver.epoch, .int .i64 q.ver.seq, .int .i64 q.pos, .int .i64 q.sum, .string q.bytes] ∧ Below w1.heap.size w1 wx)
  case first =>
    refine wp_region_noPanic ?_
    refine wp_region_held_drew (S := (fun w' => w'.cell? ⟨w.heap.size, 0, none⟩ = some (.int .i64 d.pg.pool) ∧ w'.cell? ⟨w.heap.size, 1, none⟩ = some (.int .i64 d.pg.no) ∧ w'.cell? ⟨w.heap.size, 2, none⟩ = some (.int .i64 d.seen) ∧ w'.cell? ⟨w.heap.size, 3, none⟩ = some (.int .i64 d.started) ∧ w'.cell? ⟨w.heap.size, 4, none⟩ = some (.int .i64 d.tail.epoch) ∧ w'.cell? ⟨w.heap.size, 5, none⟩ = some (.int .i64 d.tail.seq) ∧ w'.cell? ⟨w.heap.size, 6, none⟩ = some (.slice a0_6 d.base.length c0_6) ∧ w'.cell? ⟨w.heap.size, 7, none⟩ = some (.slice a0_7 d.clients.length c0_7) ∧ w'.cell? ⟨w.heap.size, 8, none⟩ = some (.slice a0_8 d.log.length c0_8) ∧ w'.cell? ⟨w.heap.size, 9, none⟩ = some (.int .i64 d.firm.epoch) ∧ w'.cell? ⟨w.heap.size, 10, none⟩ = some (.int .i64 d.firm.seq) ∧ w'.cell? ⟨w.heap.size, 11, none⟩ = some (.slice a0_11 d.chunks.length c0_11) ∧ w'.cell? ⟨w.heap.size + 1, 0, none⟩ = some (.int .i64 v.epoch) ∧ w'.cell? ⟨w.heap.size + 1, 1, none⟩ = some (.int .i64 v.seq))) (by kernel_rfl) ?_ (fun hHeld => ?_)
    · go_keep
    refine tj 0 rfl ?_
    (try simp only [Act.put, ya, yb, yc, yd, ye, yf])
    refine tj 2 rfl ?_
    (try simp only [Act.put, ya, yb, yc, yd, ye, yf])
    refine tj 3 rfl ?_
    (try simp only [Act.put, ya, yb, yc, yd, ye, yf])
    refine tj 5 rfl ?_
    (try simp only [Act.put, ya, yb, yc, yd, ye, yf])
    refine wpAnyH_ready (rs := [1, 10]) (by kernel_rfl) (by simp) ?_
    refine AllReadyH.cons rfl (fun K hK => ?_) (AllReadyH.cons rfl (fun K hK => ?_) (AllReadyH.nil))
    · skip
      go_simp
      go_at_call 9
      refine (CP0.out (by omega) _ (by first | exact BH.out | exact BH.out.drew)).mono ?_
      rintro e w2 ⟨es, rfl, rr, b2⟩
      have RR := Lib.hid (Rdb.weak rr (Nat.zero_le _) id)
      obtain ⟨as_6, cs_6, as_7, cs_7, as_8, cs_8, as_11, cs_11, rfl, -, -, -, -, -, -, -, -, -, -, -, -, -, -, -, -⟩ := shape_PgState rr
      clear rr
      have b9 := b2
      (try replace b9 := undrewX b9)
      have XH := Lib.hid (XH.out.later b9)
      have VH := Lib.hid (VH.out.later b9)
      (try have ZH := Lib.hid (ZH.out.later b9))
      have BH := Lib.hid (chainX _ BH.out b9)
      have BW := Lib.hid (chainX _ BW.out b9)
      have cX := Rd.c12 XH.out
      have cV := Rd.c2 VH.out
      clear b9 b2
      (try go_wp2_with fail)
      refine hK.out _ _ ?_ (fun hHeld1 => ?_)
      · (try dsimp only); go_keep
      clear hK K
      (try simp only [Act.put, ya, yb, yc, yd, ye, yf])
      refine wpAnyH_ready (rs := [4, 10]) (by kernel_rfl) (by simp) ?_
      refine AllReadyH.cons rfl (fun K hK => ?_) (AllReadyH.cons rfl (fun K hK => ?_) (AllReadyH.nil))
      · skip
        go_simp
        go_at_call 16
        refine (CV0.out _).mono ?_
        rintro e w3 ⟨es, rfl, rv, b3⟩
        obtain ⟨rfl, -⟩ := shape_Ver rv
        clear rv
        have b9 := b3
        (try replace b9 := undrewX b9)
        have XH := Lib.hid (XH.out.later b9)
        have VH := Lib.hid (VH.out.later b9)
        (try have ZH := Lib.hid (ZH.out.later b9))
        have BH := Lib.hid (chainX _ BH.out b9)
        have BW := Lib.hid (chainX _ BW.out b9)
        have cX := Rd.c12 XH.out
        have cV := Rd.c2 VH.out
        (try have RR := Lib.hid (Rdb.below RR.out b9))
        clear b9 b3
        (try go_wp2_with fail)
        refine hK.out _ _ ?_ (fun hHeld4 => ?_)
        · (try dsimp only); go_keep
        clear hK K
        (try simp only [Act.put, ya, yb, yc, yd, ye, yf])
        refine wpAnyH_ready (rs := [6, 10]) (by kernel_rfl) (by simp) ?_
        refine AllReadyH.cons rfl (fun K hK => ?_) (AllReadyH.cons rfl (fun K hK => ?_) (AllReadyH.nil))
        · skip
          go_simp
          go_at_call 15
          refine (HS.out (by omega) _ _ BH.out RR.out).mono ?_
          rintro e w4 ⟨rfl, b4⟩
          have b9 := b4
          (try replace b9 := undrewX b9)
          have XH := Lib.hid (XH.out.later b9)
          have VH := Lib.hid (VH.out.later b9)
          (try have ZH := Lib.hid (ZH.out.later b9))
          have BH := Lib.hid (chainX _ BH.out b9)
          have BW := Lib.hid (chainX _ BW.out b9)
          have cX := Rd.c12 XH.out
          have cV := Rd.c2 VH.out
          (try have RR := Lib.hid (Rdb.below RR.out b9))
          clear b9 b4
          (try go_wp2_with fail)
          refine hK.out _ _ ?_ (fun hHeld6 => ?_)
          · (try dsimp only); go_keep
          clear hK K
          (try simp only [Act.put, ya, yb, yc, yd, ye, yf])
          refine tj 7 rfl ?_
          (try simp only [Act.put, ya, yb, yc, yd, ye, yf])
          refine tj 8 rfl ?_
          (try simp only [Act.put, ya, yb, yc, yd, ye, yf])
          refine tj 9 rfl ?_
          (try simp only [Act.put, ya, yb, yc, yd, ye, yf])
          refine wpAnyH_ready (rs := [10]) (by kernel_rfl) (by simp) ?_
          refine AllReadyH.cons rfl (fun K hK => ?_) (AllReadyH.nil)
          go_simp
          have GLXH := Lib.hid XH.out.lt
          have GLVH := Lib.hid VH.out.lt
          have GW := Lib.hid (show w1.heap.size ≤ w4.heap.size from BW.out.size)
          have XH0 := Lib.hid XH.out
          have VH0 := Lib.hid VH.out
          have BW0 := Lib.hid BW.out
          have LZ := lay w4 (.cells #[.string ByteArray.empty, .int .i64 0, .int .i64 0, .int .i64 0, .int .i64 0, .string ByteArray.empty] 48)
          have ZH := Lib.hid (BxN.new w4 #[.string ByteArray.empty, .int .i64 0, .int .i64 0, .int .i64 0, .int .i64 0, .string ByteArray.empty] 48)
          have XH := Lib.hid (XH.out.later LZ)
          have VH := Lib.hid (VH.out.later LZ)
          have BH := Lib.hid (chainX _ BH.out LZ)
          have BW := Lib.hid (chainX _ BW.out LZ)
          have cX := Rd.c12 XH.out
          have cV := Rd.c2 VH.out
          (try have RR := Lib.hid (Rdb.below RR.out LZ))
          clear LZ
          refine hK.out _ _ ?_ (fun hHeld10 => ?_)
          · (try dsimp only); go_keep
          clear hK K
          (try simp only [Act.put, ya, yb, yc, yd, ye, yf])
          refine wpAnyH_ready (rs := [11]) (by kernel_rfl) (by simp) ?_
          refine AllReadyH.cons rfl (fun K hK => ?_) AllReadyH.nil
          have cZ := Rd.c6 ZH.out
          have zf := ZH.out.free
          go_simp
          have LQ := lay w4 (.cells #[.string q.name, .int .i64 q.ver.epoch, .int .i64 q.ver.seq, .int .i64 q.pos, .int .i64 q.sum, .string q.bytes] 48)
          have XH := Lib.hid (XH0.out.later LQ)
          have VH := Lib.hid (VH0.out.later LQ)
          have ZQ := Lib.hid (BxN.new w4 #[.string q.name, .int .i64 q.ver.epoch, .int .i64 q.ver.seq, .int .i64 q.pos, .int .i64 q.sum, .string q.bytes] 48)
          have BW := Lib.hid (chainX _ BW0.out LQ)
          clear LQ
          clear cX cV cZ zf
          have cX := Rd.c12 XH.out
          have cV := Rd.c2 VH.out
          refine hK.out _ _ ?_ (fun hHeldS => ?_)
          · (try dsimp only); go_keep
          clear hK K
          (try simp only [Act.put, ya, yb, yc, yd, ye, yf])
          refine tj 12 rfl ?_
          (try simp only [Act.put, ya, yb, yc, yd, ye, yf])
          refine wpAnyH_done (by kernel_rfl) ?_ _
          refine NoPanic.normal ?_
          go_wp2_with fail
          go_meet
          case rel => exact ⟨_, rfl, rfl, ZQ.out, BW.out⟩
        · skip
          go_simp
          have GLXH := Lib.hid XH.out.lt
          have GLVH := Lib.hid VH.out.lt
          have GW := Lib.hid (show w1.heap.size ≤ w3.heap.size from BW.out.size)
          have LZ := lay w3 (.cells #[.string ByteArray.empty, .int .i64 0, .int .i64 0, .int .i64 0, .int .i64 0, .string ByteArray.empty] 48)
          have ZH := Lib.hid (BxN.new w3 #[.string ByteArray.empty, .int .i64 0, .int .i64 0, .int .i64 0, .int .i64 0, .string ByteArray.empty] 48)
          have XH := Lib.hid (XH.out.later LZ)
          have VH := Lib.hid (VH.out.later LZ)
          have BH := Lib.hid (chainX _ BH.out LZ)
          have BW := Lib.hid (chainX _ BW.out LZ)
          have cX := Rd.c12 XH.out
          have cV := Rd.c2 VH.out
          (try have RR := Lib.hid (Rdb.below RR.out LZ))
          clear LZ
          refine hK.out _ _ ?_ (fun hHeld10 => ?_)
          · (try dsimp only); go_keep
          clear hK K
          (try simp only [Act.put, ya, yb, yc, yd, ye, yf])
          refine wpAnyH_ready (rs := [6]) (by kernel_rfl) (by simp) ?_
          refine AllReadyH.cons rfl (fun K hK => ?_) (AllReadyH.nil)
          go_simp
          go_at_call 15
          refine (HS.out (by omega) _ _ BH.out RR.out).mono ?_
          rintro e w4 ⟨rfl, b4⟩
          have b9 := b4
          (try replace b9 := undrewX b9)
          have XH := Lib.hid (XH.out.later b9)
          have VH := Lib.hid (VH.out.later b9)
          (try have ZH := Lib.hid (ZH.out.later b9))
          have BH := Lib.hid (chainX _ BH.out b9)
          have BW := Lib.hid (chainX _ BW.out b9)
          have cX := Rd.c12 XH.out
          have cV := Rd.c2 VH.out
          (try have RR := Lib.hid (Rdb.below RR.out b9))
          clear b9 b4
          (try go_wp2_with fail)
          refine hK.out _ _ ?_ (fun hHeld6 => ?_)
          · (try dsimp only); go_keep
          clear hK K
          (try simp only [Act.put, ya, yb, yc, yd, ye, yf])
          refine tj 7 rfl ?_
          (try simp only [Act.put, ya, yb, yc, yd, ye, yf])
          refine tj 8 rfl ?_
          (try simp only [Act.put, ya, yb, yc, yd, ye, yf])
          refine tj 9 rfl ?_
          (try simp only [Act.put, ya, yb, yc, yd, ye, yf])
          refine wpAnyH_ready (rs := [11]) (by kernel_rfl) (by simp) ?_
          refine AllReadyH.cons rfl (fun K hK => ?_) AllReadyH.nil
          have cZ := Rd.c6 ZH.out
          have zf := ZH.out.free
          go_simp
          have XH := Lib.hid (set6X XH.out (Nat.ne_of_lt GLXH.out) (.string q.name) (.int .i64 q.ver.epoch) (.int .i64 q.ver.seq) (.int .i64 q.pos) (.int .i64 q.sum) (.string q.bytes))
          have VH := Lib.hid (set6X VH.out (Nat.ne_of_lt GLVH.out) (.string q.name) (.int .i64 q.ver.epoch) (.int .i64 q.ver.seq) (.int .i64 q.pos) (.int .i64 q.sum) (.string q.bytes))
          have ZQ := Lib.hid (set6B ZH.out (.string q.name) (.int .i64 q.ver.epoch) (.int .i64 q.ver.seq) (.int .i64 q.pos) (.int .i64 q.sum) (.string q.bytes))
          have BW := Lib.hid (set6W BW.out GW.out (.string q.name) (.int .i64 q.ver.epoch) (.int .i64 q.ver.seq) (.int .i64 q.pos) (.int .i64 q.sum) (.string q.bytes))
          clear cX cV cZ zf
          have cX := Rd.c12 XH.out
          have cV := Rd.c2 VH.out
          refine hK.out _ _ ?_ (fun hHeldS => ?_)
          · (try dsimp only); go_keep
          clear hK K
          (try simp only [Act.put, ya, yb, yc, yd, ye, yf])
          refine tj 12 rfl ?_
          (try simp only [Act.put, ya, yb, yc, yd, ye, yf])
          refine wpAnyH_done (by kernel_rfl) ?_ _
          refine NoPanic.normal ?_
          go_wp2_with fail
          go_meet
          case rel => exact ⟨_, rfl, rfl, ZQ.out, BW.out⟩
      · skip
        go_simp
        have GLXH := Lib.hid XH.out.lt
        have GLVH := Lib.hid VH.out.lt
        have GW := Lib.hid (show w1.heap.size ≤ w2.heap.size from BW.out.size)
        have LZ := lay w2 (.cells #[.string ByteArray.empty, .int .i64 0, .int .i64 0, .int .i64 0, .int .i64 0, .string ByteArray.empty] 48)
        have ZH := Lib.hid (BxN.new w2 #[.string ByteArray.empty, .int .i64 0, .int .i64 0, .int .i64 0, .int .i64 0, .string ByteArray.empty] 48)
        have XH := Lib.hid (XH.out.later LZ)
        have VH := Lib.hid (VH.out.later LZ)
        have BH := Lib.hid (chainX _ BH.out LZ)
        have BW := Lib.hid (chainX _ BW.out LZ)
        have cX := Rd.c12 XH.out
        have cV := Rd.c2 VH.out
        (try have RR := Lib.hid (Rdb.below RR.out LZ))
        clear LZ
        refine hK.out _ _ ?_ (fun hHeld10 => ?_)
        · (try dsimp only); go_keep
        clear hK K
        (try simp only [Act.put, ya, yb, yc, yd, ye, yf])
        refine wpAnyH_ready (rs := [4]) (by kernel_rfl) (by simp) ?_
        refine AllReadyH.cons rfl (fun K hK => ?_) (AllReadyH.nil)
        go_simp
        go_at_call 16
        refine (CV0.out _).mono ?_
        rintro e w3 ⟨es, rfl, rv, b3⟩
        obtain ⟨rfl, -⟩ := shape_Ver rv
        clear rv
        have b9 := b3
        (try replace b9 := undrewX b9)
        have XH := Lib.hid (XH.out.later b9)
        have VH := Lib.hid (VH.out.later b9)
        (try have ZH := Lib.hid (ZH.out.later b9))
        have BH := Lib.hid (chainX _ BH.out b9)
        have BW := Lib.hid (chainX _ BW.out b9)
        have cX := Rd.c12 XH.out
        have cV := Rd.c2 VH.out
        (try have RR := Lib.hid (Rdb.below RR.out b9))
        clear b9 b3
        (try go_wp2_with fail)
        refine hK.out _ _ ?_ (fun hHeld4 => ?_)
        · (try dsimp only); go_keep
        clear hK K
        (try simp only [Act.put, ya, yb, yc, yd, ye, yf])
        refine wpAnyH_ready (rs := [6]) (by kernel_rfl) (by simp) ?_
        refine AllReadyH.cons rfl (fun K hK => ?_) (AllReadyH.nil)
        go_simp
        go_at_call 15
        refine (HS.out (by omega) _ _ BH.out RR.out).mono ?_
        rintro e w4 ⟨rfl, b4⟩
        have b9 := b4
        (try replace b9 := undrewX b9)
        have XH := Lib.hid (XH.out.later b9)
        have VH := Lib.hid (VH.out.later b9)
        (try have ZH := Lib.hid (ZH.out.later b9))
        have BH := Lib.hid (chainX _ BH.out b9)
        have BW := Lib.hid (chainX _ BW.out b9)
        have cX := Rd.c12 XH.out
        have cV := Rd.c2 VH.out
        (try have RR := Lib.hid (Rdb.below RR.out b9))
        clear b9 b4
        (try go_wp2_with fail)
        refine hK.out _ _ ?_ (fun hHeld6 => ?_)
        · (try dsimp only); go_keep
        clear hK K
        (try simp only [Act.put, ya, yb, yc, yd, ye, yf])
        refine tj 7 rfl ?_
        (try simp only [Act.put, ya, yb, yc, yd, ye, yf])
        refine tj 8 rfl ?_
        (try simp only [Act.put, ya, yb, yc, yd, ye, yf])
        refine tj 9 rfl ?_
        (try simp only [Act.put, ya, yb, yc, yd, ye, yf])
        refine wpAnyH_ready (rs := [11]) (by kernel_rfl) (by simp) ?_
        refine AllReadyH.cons rfl (fun K hK => ?_) AllReadyH.nil
        have cZ := Rd.c6 ZH.out
        have zf := ZH.out.free
        go_simp
        have XH := Lib.hid (set6X XH.out (Nat.ne_of_lt GLXH.out) (.string q.name) (.int .i64 q.ver.epoch) (.int .i64 q.ver.seq) (.int .i64 q.pos) (.int .i64 q.sum) (.string q.bytes))
        have VH := Lib.hid (set6X VH.out (Nat.ne_of_lt GLVH.out) (.string q.name) (.int .i64 q.ver.epoch) (.int .i64 q.ver.seq) (.int .i64 q.pos) (.int .i64 q.sum) (.string q.bytes))
        have ZQ := Lib.hid (set6B ZH.out (.string q.name) (.int .i64 q.ver.epoch) (.int .i64 q.ver.seq) (.int .i64 q.pos) (.int .i64 q.sum) (.string q.bytes))
        have BW := Lib.hid (set6W BW.out GW.out (.string q.name) (.int .i64 q.ver.epoch) (.int .i64 q.ver.seq) (.int .i64 q.pos) (.int .i64 q.sum) (.string q.bytes))
        clear cX cV cZ zf
        have cX := Rd.c12 XH.out
        have cV := Rd.c2 VH.out
        refine hK.out _ _ ?_ (fun hHeldS => ?_)
        · (try dsimp only); go_keep
        clear hK K
        (try simp only [Act.put, ya, yb, yc, yd, ye, yf])
        refine tj 12 rfl ?_
        (try simp only [Act.put, ya, yb, yc, yd, ye, yf])
        refine wpAnyH_done (by kernel_rfl) ?_ _
        refine NoPanic.normal ?_
        go_wp2_with fail
        go_meet
        case rel => exact ⟨_, rfl, rfl, ZQ.out, BW.out⟩
    · skip
      go_simp
      have GLXH := Lib.hid XH.out.lt
      have GLVH := Lib.hid VH.out.lt
      have GW := Lib.hid (show w1.heap.size ≤ w1.heap.size from BW.out.size)
      have LZ := lay w1 (.cells #[.string ByteArray.empty, .int .i64 0, .int .i64 0, .int .i64 0, .int .i64 0, .string ByteArray.empty] 48)
      have ZH := Lib.hid (BxN.new w1 #[.string ByteArray.empty, .int .i64 0, .int .i64 0, .int .i64 0, .int .i64 0, .string ByteArray.empty] 48)
      have XH := Lib.hid (XH.out.later LZ)
      have VH := Lib.hid (VH.out.later LZ)
      have BH := Lib.hid (chainX _ BH.out LZ)
      have BW := Lib.hid (chainX _ BW.out LZ)
      have cX := Rd.c12 XH.out
      have cV := Rd.c2 VH.out
      (try have RR := Lib.hid (Rdb.below RR.out LZ))
      clear LZ
      refine hK.out _ _ ?_ (fun hHeld10 => ?_)
      · (try dsimp only); go_keep
      clear hK K
      (try simp only [Act.put, ya, yb, yc, yd, ye, yf])
      refine wpAnyH_ready (rs := [1]) (by kernel_rfl) (by simp) ?_
      refine AllReadyH.cons rfl (fun K hK => ?_) (AllReadyH.nil)
      go_simp
      go_at_call 9
      refine (CP0.out (by omega) _ (by first | exact BH.out | exact BH.out.drew)).mono ?_
      rintro e w2 ⟨es, rfl, rr, b2⟩
      have RR := Lib.hid (Rdb.weak rr (Nat.zero_le _) id)
      obtain ⟨as_6, cs_6, as_7, cs_7, as_8, cs_8, as_11, cs_11, rfl, -, -, -, -, -, -, -, -, -, -, -, -, -, -, -, -⟩ := shape_PgState rr
      clear rr
      have b9 := b2
      (try replace b9 := undrewX b9)
      have XH := Lib.hid (XH.out.later b9)
      have VH := Lib.hid (VH.out.later b9)
      (try have ZH := Lib.hid (ZH.out.later b9))
      have BH := Lib.hid (chainX _ BH.out b9)
      have BW := Lib.hid (chainX _ BW.out b9)
      have cX := Rd.c12 XH.out
      have cV := Rd.c2 VH.out
      clear b9 b2
      (try go_wp2_with fail)
      refine hK.out _ _ ?_ (fun hHeld1 => ?_)
      · (try dsimp only); go_keep
      clear hK K
      (try simp only [Act.put, ya, yb, yc, yd, ye, yf])
      refine wpAnyH_ready (rs := [4]) (by kernel_rfl) (by simp) ?_
      refine AllReadyH.cons rfl (fun K hK => ?_) (AllReadyH.nil)
      go_simp
      go_at_call 16
      refine (CV0.out _).mono ?_
      rintro e w3 ⟨es, rfl, rv, b3⟩
      obtain ⟨rfl, -⟩ := shape_Ver rv
      clear rv
      have b9 := b3
      (try replace b9 := undrewX b9)
      have XH := Lib.hid (XH.out.later b9)
      have VH := Lib.hid (VH.out.later b9)
      (try have ZH := Lib.hid (ZH.out.later b9))
      have BH := Lib.hid (chainX _ BH.out b9)
      have BW := Lib.hid (chainX _ BW.out b9)
      have cX := Rd.c12 XH.out
      have cV := Rd.c2 VH.out
      (try have RR := Lib.hid (Rdb.below RR.out b9))
      clear b9 b3
      (try go_wp2_with fail)
      refine hK.out _ _ ?_ (fun hHeld4 => ?_)
      · (try dsimp only); go_keep
      clear hK K
      (try simp only [Act.put, ya, yb, yc, yd, ye, yf])
      refine wpAnyH_ready (rs := [6]) (by kernel_rfl) (by simp) ?_
      refine AllReadyH.cons rfl (fun K hK => ?_) (AllReadyH.nil)
      go_simp
      go_at_call 15
      refine (HS.out (by omega) _ _ BH.out RR.out).mono ?_
      rintro e w4 ⟨rfl, b4⟩
      have b9 := b4
      (try replace b9 := undrewX b9)
      have XH := Lib.hid (XH.out.later b9)
      have VH := Lib.hid (VH.out.later b9)
      (try have ZH := Lib.hid (ZH.out.later b9))
      have BH := Lib.hid (chainX _ BH.out b9)
      have BW := Lib.hid (chainX _ BW.out b9)
      have cX := Rd.c12 XH.out
      have cV := Rd.c2 VH.out
      (try have RR := Lib.hid (Rdb.below RR.out b9))
      clear b9 b4
      (try go_wp2_with fail)
      refine hK.out _ _ ?_ (fun hHeld6 => ?_)
      · (try dsimp only); go_keep
      clear hK K
      (try simp only [Act.put, ya, yb, yc, yd, ye, yf])
      refine tj 7 rfl ?_
      (try simp only [Act.put, ya, yb, yc, yd, ye, yf])
      refine tj 8 rfl ?_
      (try simp only [Act.put, ya, yb, yc, yd, ye, yf])
      refine tj 9 rfl ?_
      (try simp only [Act.put, ya, yb, yc, yd, ye, yf])
      refine wpAnyH_ready (rs := [11]) (by kernel_rfl) (by simp) ?_
      refine AllReadyH.cons rfl (fun K hK => ?_) AllReadyH.nil
      have cZ := Rd.c6 ZH.out
      have zf := ZH.out.free
      go_simp
      have XH := Lib.hid (set6X XH.out (Nat.ne_of_lt GLXH.out) (.string q.name) (.int .i64 q.ver.epoch) (.int .i64 q.ver.seq) (.int .i64 q.pos) (.int .i64 q.sum) (.string q.bytes))
      have VH := Lib.hid (set6X VH.out (Nat.ne_of_lt GLVH.out) (.string q.name) (.int .i64 q.ver.epoch) (.int .i64 q.ver.seq) (.int .i64 q.pos) (.int .i64 q.sum) (.string q.bytes))
      have ZQ := Lib.hid (set6B ZH.out (.string q.name) (.int .i64 q.ver.epoch) (.int .i64 q.ver.seq) (.int .i64 q.pos) (.int .i64 q.sum) (.string q.bytes))
      have BW := Lib.hid (set6W BW.out GW.out (.string q.name) (.int .i64 q.ver.epoch) (.int .i64 q.ver.seq) (.int .i64 q.pos) (.int .i64 q.sum) (.string q.bytes))
      clear cX cV cZ zf
      have cX := Rd.c12 XH.out
      have cV := Rd.c2 VH.out
      refine hK.out _ _ ?_ (fun hHeldS => ?_)
      · (try dsimp only); go_keep
      clear hK K
      (try simp only [Act.put, ya, yb, yc, yd, ye, yf])
      refine tj 12 rfl ?_
      (try simp only [Act.put, ya, yb, yc, yd, ye, yf])
      refine wpAnyH_done (by kernel_rfl) ?_ _
      refine NoPanic.normal ?_
      go_wp2_with fail
      go_meet
      case rel => exact ⟨_, rfl, rfl, ZQ.out, BW.out⟩
  case rest =>
    obtain ⟨g1, rfl, rfl, ZC, BC⟩ := hcut
    have XH := Lib.hid (XH.out.later BC)
    have VH := Lib.hid (VH.out.later BC)
    have BH := Lib.hid (chainX _ BH.out BC)
    have GH := Lib.hid ZC
    clear ZC BC BW cX cV
    have cX := Rd.c12 XH.out
    go_wp2_with fail
    refine (CP0.out (by omega) _ BH.out).mono ?_
    rintro e wp ⟨ep, rfl, rr, b5⟩
    have RR := Lib.hid (Rdb.weak rr (Nat.zero_le _) id)
    obtain ⟨ap_6, cp_6, ap_7, cp_7, ap_8, cp_8, ap_11, cp_11, rfl, -, -, -, -, -, -, -, -, -, -, -, -, -, -, -, -⟩ := shape_PgState rr
    clear rr
    have XH := Lib.hid (XH.out.later b5)
    have VH := Lib.hid (VH.out.later b5)
    have GH := Lib.hid (GH.out.later b5)
    have BH := Lib.hid (chainX _ BH.out b5)
    clear b5 cX
    have LY := lay wp (.cells #[.int .i64 d.pg.pool, .int .i64 d.pg.no, .int .i64 d.seen, .int .i64 d.started, .int .i64 d.tail.epoch, .int .i64 d.tail.seq, .slice ap_6 d.base.length cp_6, .slice ap_7 d.clients.length cp_7, .slice ap_8 d.log.length cp_8, .int .i64 d.firm.epoch, .int .i64 d.firm.seq, .slice ap_11 d.chunks.length cp_11] 41)
    have PH := Lib.hid (BxN.new wp #[.int .i64 d.pg.pool, .int .i64 d.pg.no, .int .i64 d.seen, .int .i64 d.started, .int .i64 d.tail.epoch, .int .i64 d.tail.seq, .slice ap_6 d.base.length cp_6, .slice ap_7 d.clients.length cp_7, .slice ap_8 d.log.length cp_8, .int .i64 d.firm.epoch, .int .i64 d.firm.seq, .slice ap_11 d.chunks.length cp_11] 41)
    have XH := Lib.hid (XH.out.later LY)
    have VH := Lib.hid (VH.out.later LY)
    have GH := Lib.hid (GH.out.later LY)
    have BH := Lib.hid (chainX _ BH.out LY)
    have RR := Lib.hid (Rdb.below RR.out LY)
    clear LY
    have cX := Rd.c12 XH.out
    have cV := Rd.c2 VH.out
    have cP := Rd.c12 PH.out
    go_upto_region 9 with fail
    generalize wp.alloc (.cells #[.int .i64 d.pg.pool, .int .i64 d.pg.no, .int .i64 d.seen, .int .i64 d.started, .int .i64 d.tail.epoch, .int .i64 d.tail.seq, .slice ap_6 d.base.length cp_6, .slice ap_7 d.clients.length cp_7, .slice ap_8 d.log.length cp_8, .int .i64 d.firm.epoch, .int .i64 d.firm.seq, .slice ap_11 d.chunks.length cp_11] 41) = W5 at *
    have BW := Lib.hid (Below.refl W5.heap.size W5)
    go_upto_region 9 with fail
    go_cut [13, 14] (fun s10 s11 wx => ∃ g : Nat, s10 = .pointer (some ⟨g, 0, none⟩) ∧ s11 = .bool b ∧ BxN wx g [.string q.name, .int .i64 q.ver.epoch, .int .i64 q.ver.seq, .int .i64 q.pos, .int .i64 q.sum, .string q.bytes] ∧ Below W5.heap.size W5 wx)
    case first =>
      refine wp_region_noPanic ?_
      refine wp_region_held_drew (S := (fun w' => w'.cell? ⟨w.heap.size, 0, none⟩ = some (.int .i64 d.pg.pool) ∧ w'.cell? ⟨w.heap.size, 1, none⟩ = some (.int .i64 d.pg.no) ∧ w'.cell? ⟨w.heap.size, 2, none⟩ = some (.int .i64 d.seen) ∧ w'.cell? ⟨w.heap.size, 3, none⟩ = some (.int .i64 d.started) ∧ w'.cell? ⟨w.heap.size, 4, none⟩ = some (.int .i64 d.tail.epoch) ∧ w'.cell? ⟨w.heap.size, 5, none⟩ = some (.int .i64 d.tail.seq) ∧ w'.cell? ⟨w.heap.size, 6, none⟩ = some (.slice a0_6 d.base.length c0_6) ∧ w'.cell? ⟨w.heap.size, 7, none⟩ = some (.slice a0_7 d.clients.length c0_7) ∧ w'.cell? ⟨w.heap.size, 8, none⟩ = some (.slice a0_8 d.log.length c0_8) ∧ w'.cell? ⟨w.heap.size, 9, none⟩ = some (.int .i64 d.firm.epoch) ∧ w'.cell? ⟨w.heap.size, 10, none⟩ = some (.int .i64 d.firm.seq) ∧ w'.cell? ⟨w.heap.size, 11, none⟩ = some (.slice a0_11 d.chunks.length c0_11) ∧ w'.cell? ⟨w.heap.size + 1, 0, none⟩ = some (.int .i64 v.epoch) ∧ w'.cell? ⟨w.heap.size + 1, 1, none⟩ = some (.int .i64 v.seq) ∧ w'.cell? ⟨wp.heap.size, 0, none⟩ = some (.int .i64 d.pg.pool) ∧ w'.cell? ⟨wp.heap.size, 1, none⟩ = some (.int .i64 d.pg.no) ∧ w'.cell? ⟨wp.heap.size, 2, none⟩ = some (.int .i64 d.seen) ∧ w'.cell? ⟨wp.heap.size, 3, none⟩ = some (.int .i64 d.started) ∧ w'.cell? ⟨wp.heap.size, 4, none⟩ = some (.int .i64 d.tail.epoch) ∧ w'.cell? ⟨wp.heap.size, 5, none⟩ = some (.int .i64 d.tail.seq) ∧ w'.cell? ⟨wp.heap.size, 6, none⟩ = some (.slice ap_6 d.base.length cp_6) ∧ w'.cell? ⟨wp.heap.size, 7, none⟩ = some (.slice ap_7 d.clients.length cp_7) ∧ w'.cell? ⟨wp.heap.size, 8, none⟩ = some (.slice ap_8 d.log.length cp_8) ∧ w'.cell? ⟨wp.heap.size, 9, none⟩ = some (.int .i64 d.firm.epoch) ∧ w'.cell? ⟨wp.heap.size, 10, none⟩ = some (.int .i64 d.firm.seq) ∧ w'.cell? ⟨wp.heap.size, 11, none⟩ = some (.slice ap_11 d.chunks.length cp_11))) (by kernel_rfl) ?_ (fun hHeld => ?_)
      · go_keep
      refine tj 0 rfl ?_
      (try simp only [Act.put, ya, yb, yc, yd, ye, yf])
      refine tj 1 rfl ?_
      (try simp only [Act.put, ya, yb, yc, yd, ye, yf])
      refine tj 2 rfl ?_
      (try simp only [Act.put, ya, yb, yc, yd, ye, yf])
      refine tj 4 rfl ?_
      (try simp only [Act.put, ya, yb, yc, yd, ye, yf])
      refine wpAnyH_ready (rs := [3, 9]) (by kernel_rfl) (by simp) ?_
      refine AllReadyH.cons rfl (fun K hK => ?_) (AllReadyH.cons rfl (fun K hK => ?_) (AllReadyH.nil))
      · skip
        go_simp
        go_at_call 16
        refine (CV0.out _).mono ?_
        rintro e w3 ⟨es, rfl, rv, b3⟩
        obtain ⟨rfl, -⟩ := shape_Ver rv
        clear rv
        have b9 := b3
        (try replace b9 := undrewX b9)
        have XH := Lib.hid (XH.out.later b9)
        have VH := Lib.hid (VH.out.later b9)
        have PH := Lib.hid (PH.out.later b9)
        have GH := Lib.hid (GH.out.later b9)
        (try have ZH := Lib.hid (ZH.out.later b9))
        have BH := Lib.hid (chainX _ BH.out b9)
        have BW := Lib.hid (chainX _ BW.out b9)
        have cX := Rd.c12 XH.out
        have cV := Rd.c2 VH.out
        have cP := Rd.c12 PH.out
        (try have RR := Lib.hid (Rdb.below RR.out b9))
        clear b9 b3
        (try go_wp2_with fail)
        refine hK.out _ _ ?_ (fun hHeld3 => ?_)
        · (try dsimp only); go_keep
        clear hK K
        (try simp only [Act.put, ya, yb, yc, yd, ye, yf])
        refine wpAnyH_ready (rs := [5, 9]) (by kernel_rfl) (by simp) ?_
        refine AllReadyH.cons rfl (fun K hK => ?_) (AllReadyH.cons rfl (fun K hK => ?_) (AllReadyH.nil))
        · skip
          go_simp
          go_at_call 17
          refine (HI.out (by omega) _ _ BH.out RR.out).mono ?_
          rintro e w4 ⟨rfl, b4⟩
          have b9 := b4
          (try replace b9 := undrewX b9)
          have XH := Lib.hid (XH.out.later b9)
          have VH := Lib.hid (VH.out.later b9)
          have PH := Lib.hid (PH.out.later b9)
          have GH := Lib.hid (GH.out.later b9)
          (try have ZH := Lib.hid (ZH.out.later b9))
          have BH := Lib.hid (chainX _ BH.out b9)
          have BW := Lib.hid (chainX _ BW.out b9)
          have cX := Rd.c12 XH.out
          have cV := Rd.c2 VH.out
          have cP := Rd.c12 PH.out
          (try have RR := Lib.hid (Rdb.below RR.out b9))
          clear b9 b4
          (try go_wp2_with fail)
          refine hK.out _ _ ?_ (fun hHeld5 => ?_)
          · (try dsimp only); go_keep
          clear hK K
          (try simp only [Act.put, ya, yb, yc, yd, ye, yf])
          refine tj 6 rfl ?_
          (try simp only [Act.put, ya, yb, yc, yd, ye, yf])
          refine tj 7 rfl ?_
          (try simp only [Act.put, ya, yb, yc, yd, ye, yf])
          refine tj 8 rfl ?_
          (try simp only [Act.put, ya, yb, yc, yd, ye, yf])
          refine wpAnyH_ready (rs := [9]) (by kernel_rfl) (by simp) ?_
          refine AllReadyH.cons rfl (fun K hK => ?_) (AllReadyH.nil)
          go_simp
          have GLXH := Lib.hid XH.out.lt
          have GLVH := Lib.hid VH.out.lt
          have GLPH := Lib.hid PH.out.lt
          have GLGH := Lib.hid GH.out.lt
          have GW := Lib.hid (show W5.heap.size ≤ w4.heap.size from BW.out.size)
          have XH0 := Lib.hid XH.out
          have VH0 := Lib.hid VH.out
          have PH0 := Lib.hid PH.out
          have GH0 := Lib.hid GH.out
          have BW0 := Lib.hid BW.out
          have LZ := lay w4 (.cells #[.string ByteArray.empty, .int .i64 0, .int .i64 0, .int .i64 0, .int .i64 0, .string ByteArray.empty] 48)
          have ZH := Lib.hid (BxN.new w4 #[.string ByteArray.empty, .int .i64 0, .int .i64 0, .int .i64 0, .int .i64 0, .string ByteArray.empty] 48)
          have XH := Lib.hid (XH.out.later LZ)
          have VH := Lib.hid (VH.out.later LZ)
          have PH := Lib.hid (PH.out.later LZ)
          have GH := Lib.hid (GH.out.later LZ)
          have BH := Lib.hid (chainX _ BH.out LZ)
          have BW := Lib.hid (chainX _ BW.out LZ)
          have cX := Rd.c12 XH.out
          have cV := Rd.c2 VH.out
          have cP := Rd.c12 PH.out
          (try have RR := Lib.hid (Rdb.below RR.out LZ))
          clear LZ
          refine hK.out _ _ ?_ (fun hHeld9 => ?_)
          · (try dsimp only); go_keep
          clear hK K
          (try simp only [Act.put, ya, yb, yc, yd, ye, yf])
          refine wpAnyH_ready (rs := [10]) (by kernel_rfl) (by simp) ?_
          refine AllReadyH.cons rfl (fun K hK => ?_) AllReadyH.nil
          have cZ := Rd.c6 ZH.out
          have zf := ZH.out.free
          go_simp
          have LQ := lay w4 (.cells #[.string q.name, .int .i64 q.ver.epoch, .int .i64 q.ver.seq, .int .i64 q.pos, .int .i64 q.sum, .string q.bytes] 48)
          have XH := Lib.hid (XH0.out.later LQ)
          have VH := Lib.hid (VH0.out.later LQ)
          have PH := Lib.hid (PH0.out.later LQ)
          have GH := Lib.hid (GH0.out.later LQ)
          have ZQ := Lib.hid (BxN.new w4 #[.string q.name, .int .i64 q.ver.epoch, .int .i64 q.ver.seq, .int .i64 q.pos, .int .i64 q.sum, .string q.bytes] 48)
          have BW := Lib.hid (chainX _ BW0.out LQ)
          clear LQ
          clear cX cV cZ zf cP
          have cX := Rd.c12 XH.out
          have cV := Rd.c2 VH.out
          have cP := Rd.c12 PH.out
          refine hK.out _ _ ?_ (fun hHeldS => ?_)
          · (try dsimp only); go_keep
          clear hK K
          (try simp only [Act.put, ya, yb, yc, yd, ye, yf])
          refine tj 11 rfl ?_
          (try simp only [Act.put, ya, yb, yc, yd, ye, yf])
          refine wpAnyH_done (by kernel_rfl) ?_ _
          refine NoPanic.normal ?_
          go_wp2_with fail
          go_meet
          case rel => exact ⟨_, rfl, rfl, ZQ.out, BW.out⟩
        · skip
          go_simp
          have GLXH := Lib.hid XH.out.lt
          have GLVH := Lib.hid VH.out.lt
          have GLPH := Lib.hid PH.out.lt
          have GLGH := Lib.hid GH.out.lt
          have GW := Lib.hid (show W5.heap.size ≤ w3.heap.size from BW.out.size)
          have LZ := lay w3 (.cells #[.string ByteArray.empty, .int .i64 0, .int .i64 0, .int .i64 0, .int .i64 0, .string ByteArray.empty] 48)
          have ZH := Lib.hid (BxN.new w3 #[.string ByteArray.empty, .int .i64 0, .int .i64 0, .int .i64 0, .int .i64 0, .string ByteArray.empty] 48)
          have XH := Lib.hid (XH.out.later LZ)
          have VH := Lib.hid (VH.out.later LZ)
          have PH := Lib.hid (PH.out.later LZ)
          have GH := Lib.hid (GH.out.later LZ)
          have BH := Lib.hid (chainX _ BH.out LZ)
          have BW := Lib.hid (chainX _ BW.out LZ)
          have cX := Rd.c12 XH.out
          have cV := Rd.c2 VH.out
          have cP := Rd.c12 PH.out
          (try have RR := Lib.hid (Rdb.below RR.out LZ))
          clear LZ
          refine hK.out _ _ ?_ (fun hHeld9 => ?_)
          · (try dsimp only); go_keep
          clear hK K
          (try simp only [Act.put, ya, yb, yc, yd, ye, yf])
          refine wpAnyH_ready (rs := [5]) (by kernel_rfl) (by simp) ?_
          refine AllReadyH.cons rfl (fun K hK => ?_) (AllReadyH.nil)
          go_simp
          go_at_call 17
          refine (HI.out (by omega) _ _ BH.out RR.out).mono ?_
          rintro e w4 ⟨rfl, b4⟩
          have b9 := b4
          (try replace b9 := undrewX b9)
          have XH := Lib.hid (XH.out.later b9)
          have VH := Lib.hid (VH.out.later b9)
          have PH := Lib.hid (PH.out.later b9)
          have GH := Lib.hid (GH.out.later b9)
          (try have ZH := Lib.hid (ZH.out.later b9))
          have BH := Lib.hid (chainX _ BH.out b9)
          have BW := Lib.hid (chainX _ BW.out b9)
          have cX := Rd.c12 XH.out
          have cV := Rd.c2 VH.out
          have cP := Rd.c12 PH.out
          (try have RR := Lib.hid (Rdb.below RR.out b9))
          clear b9 b4
          (try go_wp2_with fail)
          refine hK.out _ _ ?_ (fun hHeld5 => ?_)
          · (try dsimp only); go_keep
          clear hK K
          (try simp only [Act.put, ya, yb, yc, yd, ye, yf])
          refine tj 6 rfl ?_
          (try simp only [Act.put, ya, yb, yc, yd, ye, yf])
          refine tj 7 rfl ?_
          (try simp only [Act.put, ya, yb, yc, yd, ye, yf])
          refine tj 8 rfl ?_
          (try simp only [Act.put, ya, yb, yc, yd, ye, yf])
          refine wpAnyH_ready (rs := [10]) (by kernel_rfl) (by simp) ?_
          refine AllReadyH.cons rfl (fun K hK => ?_) AllReadyH.nil
          have cZ := Rd.c6 ZH.out
          have zf := ZH.out.free
          go_simp
          have XH := Lib.hid (set6X XH.out (Nat.ne_of_lt GLXH.out) (.string q.name) (.int .i64 q.ver.epoch) (.int .i64 q.ver.seq) (.int .i64 q.pos) (.int .i64 q.sum) (.string q.bytes))
          have VH := Lib.hid (set6X VH.out (Nat.ne_of_lt GLVH.out) (.string q.name) (.int .i64 q.ver.epoch) (.int .i64 q.ver.seq) (.int .i64 q.pos) (.int .i64 q.sum) (.string q.bytes))
          have PH := Lib.hid (set6X PH.out (Nat.ne_of_lt GLPH.out) (.string q.name) (.int .i64 q.ver.epoch) (.int .i64 q.ver.seq) (.int .i64 q.pos) (.int .i64 q.sum) (.string q.bytes))
          have GH := Lib.hid (set6X GH.out (Nat.ne_of_lt GLGH.out) (.string q.name) (.int .i64 q.ver.epoch) (.int .i64 q.ver.seq) (.int .i64 q.pos) (.int .i64 q.sum) (.string q.bytes))
          have ZQ := Lib.hid (set6B ZH.out (.string q.name) (.int .i64 q.ver.epoch) (.int .i64 q.ver.seq) (.int .i64 q.pos) (.int .i64 q.sum) (.string q.bytes))
          have BW := Lib.hid (set6W BW.out GW.out (.string q.name) (.int .i64 q.ver.epoch) (.int .i64 q.ver.seq) (.int .i64 q.pos) (.int .i64 q.sum) (.string q.bytes))
          clear cX cV cZ zf cP
          have cX := Rd.c12 XH.out
          have cV := Rd.c2 VH.out
          have cP := Rd.c12 PH.out
          refine hK.out _ _ ?_ (fun hHeldS => ?_)
          · (try dsimp only); go_keep
          clear hK K
          (try simp only [Act.put, ya, yb, yc, yd, ye, yf])
          refine tj 11 rfl ?_
          (try simp only [Act.put, ya, yb, yc, yd, ye, yf])
          refine wpAnyH_done (by kernel_rfl) ?_ _
          refine NoPanic.normal ?_
          go_wp2_with fail
          go_meet
          case rel => exact ⟨_, rfl, rfl, ZQ.out, BW.out⟩
      · skip
        go_simp
        have GLXH := Lib.hid XH.out.lt
        have GLVH := Lib.hid VH.out.lt
        have GLPH := Lib.hid PH.out.lt
        have GLGH := Lib.hid GH.out.lt
        have GW := Lib.hid (show W5.heap.size ≤ W5.heap.size from BW.out.size)
        have LZ := lay W5 (.cells #[.string ByteArray.empty, .int .i64 0, .int .i64 0, .int .i64 0, .int .i64 0, .string ByteArray.empty] 48)
        have ZH := Lib.hid (BxN.new W5 #[.string ByteArray.empty, .int .i64 0, .int .i64 0, .int .i64 0, .int .i64 0, .string ByteArray.empty] 48)
        have XH := Lib.hid (XH.out.later LZ)
        have VH := Lib.hid (VH.out.later LZ)
        have PH := Lib.hid (PH.out.later LZ)
        have GH := Lib.hid (GH.out.later LZ)
        have BH := Lib.hid (chainX _ BH.out LZ)
        have BW := Lib.hid (chainX _ BW.out LZ)
        have cX := Rd.c12 XH.out
        have cV := Rd.c2 VH.out
        have cP := Rd.c12 PH.out
        (try have RR := Lib.hid (Rdb.below RR.out LZ))
        clear LZ
        refine hK.out _ _ ?_ (fun hHeld9 => ?_)
        · (try dsimp only); go_keep
        clear hK K
        (try simp only [Act.put, ya, yb, yc, yd, ye, yf])
        refine wpAnyH_ready (rs := [3]) (by kernel_rfl) (by simp) ?_
        refine AllReadyH.cons rfl (fun K hK => ?_) (AllReadyH.nil)
        go_simp
        go_at_call 16
        refine (CV0.out _).mono ?_
        rintro e w3 ⟨es, rfl, rv, b3⟩
        obtain ⟨rfl, -⟩ := shape_Ver rv
        clear rv
        have b9 := b3
        (try replace b9 := undrewX b9)
        have XH := Lib.hid (XH.out.later b9)
        have VH := Lib.hid (VH.out.later b9)
        have PH := Lib.hid (PH.out.later b9)
        have GH := Lib.hid (GH.out.later b9)
        (try have ZH := Lib.hid (ZH.out.later b9))
        have BH := Lib.hid (chainX _ BH.out b9)
        have BW := Lib.hid (chainX _ BW.out b9)
        have cX := Rd.c12 XH.out
        have cV := Rd.c2 VH.out
        have cP := Rd.c12 PH.out
        (try have RR := Lib.hid (Rdb.below RR.out b9))
        clear b9 b3
        (try go_wp2_with fail)
        refine hK.out _ _ ?_ (fun hHeld3 => ?_)
        · (try dsimp only); go_keep
        clear hK K
        (try simp only [Act.put, ya, yb, yc, yd, ye, yf])
        refine wpAnyH_ready (rs := [5]) (by kernel_rfl) (by simp) ?_
        refine AllReadyH.cons rfl (fun K hK => ?_) (AllReadyH.nil)
        go_simp
        go_at_call 17
        refine (HI.out (by omega) _ _ BH.out RR.out).mono ?_
        rintro e w4 ⟨rfl, b4⟩
        have b9 := b4
        (try replace b9 := undrewX b9)
        have XH := Lib.hid (XH.out.later b9)
        have VH := Lib.hid (VH.out.later b9)
        have PH := Lib.hid (PH.out.later b9)
        have GH := Lib.hid (GH.out.later b9)
        (try have ZH := Lib.hid (ZH.out.later b9))
        have BH := Lib.hid (chainX _ BH.out b9)
        have BW := Lib.hid (chainX _ BW.out b9)
        have cX := Rd.c12 XH.out
        have cV := Rd.c2 VH.out
        have cP := Rd.c12 PH.out
        (try have RR := Lib.hid (Rdb.below RR.out b9))
        clear b9 b4
        (try go_wp2_with fail)
        refine hK.out _ _ ?_ (fun hHeld5 => ?_)
        · (try dsimp only); go_keep
        clear hK K
        (try simp only [Act.put, ya, yb, yc, yd, ye, yf])
        refine tj 6 rfl ?_
        (try simp only [Act.put, ya, yb, yc, yd, ye, yf])
        refine tj 7 rfl ?_
        (try simp only [Act.put, ya, yb, yc, yd, ye, yf])
        refine tj 8 rfl ?_
        (try simp only [Act.put, ya, yb, yc, yd, ye, yf])
        refine wpAnyH_ready (rs := [10]) (by kernel_rfl) (by simp) ?_
        refine AllReadyH.cons rfl (fun K hK => ?_) AllReadyH.nil
        have cZ := Rd.c6 ZH.out
        have zf := ZH.out.free
        go_simp
        have XH := Lib.hid (set6X XH.out (Nat.ne_of_lt GLXH.out) (.string q.name) (.int .i64 q.ver.epoch) (.int .i64 q.ver.seq) (.int .i64 q.pos) (.int .i64 q.sum) (.string q.bytes))
        have VH := Lib.hid (set6X VH.out (Nat.ne_of_lt GLVH.out) (.string q.name) (.int .i64 q.ver.epoch) (.int .i64 q.ver.seq) (.int .i64 q.pos) (.int .i64 q.sum) (.string q.bytes))
        have PH := Lib.hid (set6X PH.out (Nat.ne_of_lt GLPH.out) (.string q.name) (.int .i64 q.ver.epoch) (.int .i64 q.ver.seq) (.int .i64 q.pos) (.int .i64 q.sum) (.string q.bytes))
        have GH := Lib.hid (set6X GH.out (Nat.ne_of_lt GLGH.out) (.string q.name) (.int .i64 q.ver.epoch) (.int .i64 q.ver.seq) (.int .i64 q.pos) (.int .i64 q.sum) (.string q.bytes))
        have ZQ := Lib.hid (set6B ZH.out (.string q.name) (.int .i64 q.ver.epoch) (.int .i64 q.ver.seq) (.int .i64 q.pos) (.int .i64 q.sum) (.string q.bytes))
        have BW := Lib.hid (set6W BW.out GW.out (.string q.name) (.int .i64 q.ver.epoch) (.int .i64 q.ver.seq) (.int .i64 q.pos) (.int .i64 q.sum) (.string q.bytes))
        clear cX cV cZ zf cP
        have cX := Rd.c12 XH.out
        have cV := Rd.c2 VH.out
        have cP := Rd.c12 PH.out
        refine hK.out _ _ ?_ (fun hHeldS => ?_)
        · (try dsimp only); go_keep
        clear hK K
        (try simp only [Act.put, ya, yb, yc, yd, ye, yf])
        refine tj 11 rfl ?_
        (try simp only [Act.put, ya, yb, yc, yd, ye, yf])
        refine wpAnyH_done (by kernel_rfl) ?_ _
        refine NoPanic.normal ?_
        go_wp2_with fail
        go_meet
        case rel => exact ⟨_, rfl, rfl, ZQ.out, BW.out⟩
    case rest =>
      obtain ⟨g2, rfl, rfl, ZC, BC⟩ := hcut
      have XH := Lib.hid (XH.out.later BC)
      have VH := Lib.hid (VH.out.later BC)
      have GH := Lib.hid (GH.out.later BC)
      have PH := Lib.hid (PH.out.later BC)
      have BH := Lib.hid (chainX _ BH.out BC)
      have G2 := Lib.hid ZC
      have RR := Lib.hid (Rdb.below RR.out BC)
      clear ZC BC BW cX cV cP
      have cG := Rd.c6 GH.out
      have c2 := Rd.c6 G2.out
      have bb : (b != b) = false := by simp
      go_wp2_with fail
      refine (EQC.out _ (QZ.out (by omega))).mono ?_
      rintro e w6 ⟨rfl, b6⟩
      have XH := Lib.hid (XH.out.later b6)
      have PH := Lib.hid (PH.out.later b6)
      have BH := Lib.hid (chainX _ BH.out b6)
      have RR := Lib.hid (Rdb.below RR.out b6)
      clear b6 cG c2 GH G2
      have cX := Rd.c12 XH.out
      have cP := Rd.c12 PH.out
      go_wp2_with fail
      go_region_held3 (fun w' => w'.cell? ⟨w.heap.size, 0, none⟩ = some (.int .i64 d.pg.pool) ∧ w'.cell? ⟨w.heap.size, 1, none⟩ = some (.int .i64 d.pg.no) ∧ w'.cell? ⟨w.heap.size, 2, none⟩ = some (.int .i64 d.seen) ∧ w'.cell? ⟨w.heap.size, 3, none⟩ = some (.int .i64 d.started) ∧ w'.cell? ⟨w.heap.size, 4, none⟩ = some (.int .i64 d.tail.epoch) ∧ w'.cell? ⟨w.heap.size, 5, none⟩ = some (.int .i64 d.tail.seq) ∧ w'.cell? ⟨w.heap.size, 6, none⟩ = some (.slice a0_6 d.base.length c0_6) ∧ w'.cell? ⟨w.heap.size, 7, none⟩ = some (.slice a0_7 d.clients.length c0_7) ∧ w'.cell? ⟨w.heap.size, 8, none⟩ = some (.slice a0_8 d.log.length c0_8) ∧ w'.cell? ⟨w.heap.size, 9, none⟩ = some (.int .i64 d.firm.epoch) ∧ w'.cell? ⟨w.heap.size, 10, none⟩ = some (.int .i64 d.firm.seq) ∧ w'.cell? ⟨w.heap.size, 11, none⟩ = some (.slice a0_11 d.chunks.length c0_11) ∧ w'.cell? ⟨wp.heap.size, 0, none⟩ = some (.int .i64 d.pg.pool) ∧ w'.cell? ⟨wp.heap.size, 1, none⟩ = some (.int .i64 d.pg.no) ∧ w'.cell? ⟨wp.heap.size, 2, none⟩ = some (.int .i64 d.seen) ∧ w'.cell? ⟨wp.heap.size, 3, none⟩ = some (.int .i64 d.started) ∧ w'.cell? ⟨wp.heap.size, 4, none⟩ = some (.int .i64 d.tail.epoch) ∧ w'.cell? ⟨wp.heap.size, 5, none⟩ = some (.int .i64 d.tail.seq) ∧ w'.cell? ⟨wp.heap.size, 6, none⟩ = some (.slice ap_6 d.base.length cp_6) ∧ w'.cell? ⟨wp.heap.size, 7, none⟩ = some (.slice ap_7 d.clients.length cp_7) ∧ w'.cell? ⟨wp.heap.size, 8, none⟩ = some (.slice ap_8 d.log.length cp_8) ∧ w'.cell? ⟨wp.heap.size, 9, none⟩ = some (.int .i64 d.firm.epoch) ∧ w'.cell? ⟨wp.heap.size, 10, none⟩ = some (.int .i64 d.firm.seq) ∧ w'.cell? ⟨wp.heap.size, 11, none⟩ = some (.slice ap_11 d.chunks.length cp_11)) (go_keep)
        (first
          | (go_at_call 9; refine (CP0.out (by omega) _ BH.out.drew).mono ?_; rintro e w7 ⟨ee, rfl, re, b7⟩; have b7 := undrewX b7; have XH := Lib.hid (XH.out.later b7); have PH := Lib.hid (PH.out.later b7); have cX := Rd.c12 XH.out; have cP := Rd.c12 PH.out; have RR := Lib.hid (Rdb.below RR.out b7); have BH := Lib.hid (chainX w BH.out b7); clear b7; have RE := Lib.hid (Rdb.weak re (Nat.zero_le _) id); obtain ⟨ae_6, ce_6, ae_7, ce_7, ae_8, ce_8, ae_11, ce_11, rfl, -, -, -, -, -, -, -, -, -, -, -, -, -, -, -, -⟩ := shape_PgState re; clear re)
          | (go_at_call 11; refine (EQ0.out (by omega) _ _ _ RR.out RE.out).mono ?_; rintro e w8 ⟨rfl, b8⟩; have XH := Lib.hid (XH.out.later b8); have PH := Lib.hid (PH.out.later b8); have cX := Rd.c12 XH.out; have cP := Rd.c12 PH.out; have BH := Lib.hid (chainX w BH.out b8); clear b8))
      all_goals
        go_wp2
        go_ret
        exact ⟨rfl, BH.out⟩
end Go.Proofs.YtbckdfoapmjilaaGreatDoor.Rd
