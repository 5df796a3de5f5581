/-
  All writes of a disk done, in the model.
-/
import Derived.Test.YtpafhbnjefdhjaaDkF
import Derived.Test.YtpafhbnjefdhjaaDkS
import Derived.StillTailTactics
import Derived.Deep.AppendLies
namespace Go.Proofs.Ytpafhbnjefdhjaa.Rd
open Go.RowKit Go.ChangeShapes Go.WideShapes Go.Proofs.Ytpafhbnjefdhjaa.GfI Go.Proofs.Ytpafhbnjefdhjaa.GfS
open Go.Proofs.Ytpafhbnjefdhjaa.Sg (BxN)
set_option linter.unusedVariables false
set_option linter.unusedSimpArgs false

theorem BxN.lo {w w' : World} {B b : Nat} {vs : List Value} (h : Sg.BxN w b vs) (k : Below B w w') (hb : b < B) : Sg.BxN w' b vs :=
  ⟨Nat.lt_of_lt_of_le h.lt k.size, fun i v hv => (k.cell (p := ⟨b, i, none⟩) hb).trans (h.cells i v hv), fun i => (k.frozen (p := ⟨b, i, none⟩) hb).trans (h.free i)⟩
set_option maxRecDepth 100000 in
set_option maxHeartbeats 4000000 in
theorem specL14Flush (d : DDisk) (a0 : Option Addr) (c0 : Nat) (a1 : Option Addr) (c1 : Nat) (w : World) (hn : d.sectors.length ≤ 1000000) (hm : d.waits.length ≤ 1000000) (r : Rw2 w d a0 a1) (hin : ∀ x, x ∈ d.waits → inD d.sectors.length x.atF = true) :
    Calls Try.prog 68 #[.agg #[.slice a0 d.sectors.length c0, .slice a1 d.waits.length c1]] w (AnsKD (flushD d) w) := by
  have L := Lib.hid (chain (lay w (.cells #[.slice a0 d.sectors.length c0, .slice a1 d.waits.length c1] 30)) (lay _ (.cells #[.slice none 0 0, .slice none 0 0] 30)))
  have X := Lib.hid ((BxN.new w #[.slice a0 d.sectors.length c0, .slice a1 d.waits.length c1] 30).later (lay _ (.cells #[.slice none 0 0, .slice none 0 0] 30)))
  have Y0 := BxN.new (w.alloc (.cells #[.slice a0 d.sectors.length c0, .slice a1 d.waits.length c1] 30)) #[.slice none 0 0, .slice none 0 0] 30
  rw [World.size_alloc] at Y0
  have Y := Lib.hid Y0
  have x0 := X.out.cells 0 _ rfl
  have x1 := X.out.cells 1 _ rfl
  have SZ := Lib.hid (show ((w.alloc (.cells #[.slice a0 d.sectors.length c0, .slice a1 d.waits.length c1] 30)).alloc (.cells #[.slice none 0 0, .slice none 0 0] 30)).heap.size = w.heap.size + 1 + 1 from by simp)
  have r0 := r.1
  have rw := r.2
  have RW := Lib.hid (fun w' (b : Below w.heap.size w w') => rw.below b)
  have GET := Lib.hid (fun j (h : j < d.waits.length) => get_lt h)
  have HIN := Lib.hid (fun j x (h : d.waits[j]? = some x) => inD_yes (hin x (List.mem_of_getElem? h)))
  have FL := Lib.hid (fun j => flushL_len (d.waits.take j) d.sectors)
  have FA := Lib.hid (show flushL d.sectors (d.waits.take d.waits.length) = flushL d.sectors d.waits from by rw [List.take_length])
  have FS := Lib.hid (fun j x (h : d.waits[j]? = some x) => flushL_succ (l := d.sectors) h)
  have FLA := Lib.hid (flushL_len d.waits d.sectors)
  have WH := Lib.hid (r0.below (chain L.out (lay _ (.cells #[] 9))))
  have LH := Lib.hid (chain L.out (lay _ (.cells #[] 9)))
  have J0 := OwnL.made (α := ByteArray) 9 (w.heap.size + 1 + 1) ((w.alloc (.cells #[.slice a0 d.sectors.length c0, .slice a1 d.waits.length c1] 30)).alloc (.cells #[.slice none 0 0, .slice none 0 0] 30)) (by rw [SZ.out]; exact Nat.le_refl _)
  rw [SZ.out] at J0
  have J0 := Lib.hid J0
  have XA := X.out.later (lay _ (.cells #[] 9))
  have YA := Lib.hid (Y.out.later (lay _ (.cells #[] 9)))
  have xa0 := XA.cells 0 _ rfl
  have xa1 := XA.cells 1 _ rfl
  have XAH := Lib.hid XA
  clear Y0 r hin x0 x1 XA r0 rw
  go_enter Try.func68, Try.ntmps68
  go_wp2_with (at_builtin; refine wpList_append_F rfl (.tmp 5) (.tmp 7) 22 9 (.string ByteArray.empty) 16 rfl Try.underlying22 infoStr rfl (by omega) (w.heap.size + 1 + 1) _ [] d.sectors rfl J0.out a0 c0 rfl WH.out (by simp; omega) (by rw [World.size_alloc, SZ.out]; omega) ?_; intro v' w3 J3 g3; rw [List.nil_append] at J3; obtain ⟨p, k, rfl, hk, o3, -⟩ := J3.shape)
  have B3 := Lib.hid (LH.out.grown g3 (by rw [World.size_alloc, SZ.out]; omega) (fun c hc => by cases hc; show w.heap.size ≤ w.heap.size + 1 + 1; omega))
  have B4 := Lib.hid ((Below.refl (w.heap.size + 1 + 1) (((w.alloc (.cells #[.slice a0 d.sectors.length c0, .slice a1 d.waits.length c1] 30)).alloc (.cells #[.slice none 0 0, .slice none 0 0] 30)).alloc (.cells #[] 9))).grown g3 (by rw [World.size_alloc, SZ.out]; omega) (fun c hc => by cases hc; exact Nat.le_refl _))
  have X3 := BxN.lo XAH.out B4.out (by show w.heap.size < _; omega)
  have Y3 := BxN.lo YA.out B4.out (by show w.heap.size + 1 < _; omega)
  have S3 := Lib.hid (show w.heap.size + 1 + 1 ≤ w3.heap.size from by have := B4.out.size; rw [World.size_alloc, SZ.out] at this; omega)
  have ON := Lib.hid (BxN.new w3 #[.slice p d.sectors.length k, .slice none 0 0] 30)
  have LO := lay w3 (.cells #[.slice p d.sectors.length k, .slice none 0 0] 30)
  have X4 := Lib.hid (X3.later LO)
  have Y4 := Lib.hid (Y3.later LO)
  have B5 := Lib.hid (chainX w B3.out LO)
  have O4 := Lib.hid (show One (w.heap.size + 1 + 1) w3.heap.size (w3.alloc (.cells #[.slice p d.sectors.length k, .slice none 0 0] 30)) p (flushL d.sectors (d.waits.take 0)) from o3.later (Nat.le_refl _) LO)
  have S4 := Lib.hid (show w3.heap.size + 1 ≤ (w3.alloc (.cells #[.slice p d.sectors.length k, .slice none 0 0] 30)).heap.size from by simp)
  have FIN := Lib.hid (fun (wr : World) (hO : One (w.heap.size + 1 + 1) w3.heap.size wr p (flushL d.sectors (d.waits.take d.waits.length))) (hS : w3.heap.size ≤ wr.heap.size) (hb : Below w.heap.size w wr) =>
    (show AnsKD (flushD d) w (.returned (.agg #[.slice p d.sectors.length k, .slice none 0 0])) ((wr.setCell ⟨w.heap.size + 1, 0, none⟩ (.slice p d.sectors.length k)).setCell ⟨w.heap.size + 1, 1, none⟩ (.slice none 0 0)) from
      ⟨p, k, none, 0, by rw [show (flushD d).sectors.length = d.sectors.length from FLA.out]; rfl, ⟨Nat.le_refl _, w3.heap.size, by have := S3.out; omega, by simpa using hS,
        (((show One (w.heap.size + 1 + 1) w3.heap.size wr p (flushL d.sectors d.waits) from by rw [← FA.out]; exact hO).set _ _ (.inl (by show w.heap.size + 1 < _; omega))).set _ _ (.inl (by show w.heap.size + 1 < _; omega))).wide (by omega) (Nat.le_refl _), .inl rfl⟩,
        ⟨by rw [show (flushD d).sectors.length = d.sectors.length from FLA.out]; exact hk, Nat.le_refl _⟩,
        (hb.setCell (p := ⟨w.heap.size + 1, 0, none⟩) (by show _ ≤ w.heap.size + 1; omega) _).setCell (p := ⟨w.heap.size + 1, 1, none⟩) (by show _ ≤ w.heap.size + 1; omega) _⟩))
  clear J3 g3 o3 X3 Y3 LO FLA xa0 xa1 B4 XAH YA X Y L SZ WH LH J0
  obtain ⟨n, hnn⟩ : ∃ n, n = d.sectors.length := ⟨_, rfl⟩
  obtain ⟨m, hmm⟩ : ∃ m, m = d.waits.length := ⟨_, rfl⟩
  rw [← hnn] at FL FIN X4 Y4 B5 O4 S4 ON HIN hn hk
  rw [← hmm] at GET FA FIN hm X4
  rw [← hnn, ← hmm]
  clear hnn
  (try go_wp2)
  go_loopw [4] (fun i wr => ∃ j : Nat, j ≤ m ∧ i = .int .i64 j ∧ One (w.heap.size + 1 + 1) w3.heap.size wr p (flushL d.sectors (d.waits.take j)) ∧ w3.heap.size + 1 ≤ wr.heap.size ∧ Below w.heap.size w wr ∧ BxN wr w.heap.size [.slice a0 n c0, .slice a1 m c1] ∧ BxN wr (w.heap.size + 1) [.slice none 0 0, .slice none 0 0] ∧ BxN wr w3.heap.size [.slice p n k, .slice none 0 0]) (fun i _ => m - (intOf i).toNat)
  case atStart => exact ⟨0, by omega, rfl, O4.out, S4.out, B5.out, X4.out, Y4.out, ON.out⟩
  case round =>
    obtain ⟨j, hj, rfl, hO, hS, hB, hX, hY, hZ⟩ := hrel
    have x1 := hX.cells 1 _ rfl
    clear X4 Y4 B5 O4 S4 ON
    by_cases hlt : j < m
    · obtain ⟨x, hx⟩ := GET.out j hlt
      obtain ⟨b, off, cs, rfl, -, hBb, hr, hcc⟩ := (RW.out _ hB).at' hx
      obtain ⟨rfl, f0, f1⟩ := shape_Pending hr
      have c0' : wr.cell? ⟨b, off + j * 2, none⟩ = some (.int .i64 x.atF) := hcc 0 _ rfl
      have c1' : wr.cell? ⟨b, off + j * 2 + 1, none⟩ = some (.string x.bytes) := hcc 1 _ rfl
      obtain ⟨i0, i1⟩ := HIN.out j x hx
      obtain ⟨t, ht⟩ : ∃ t : Nat, x.atF = (t : Int) := ⟨x.atF.toNat, by omega⟩
      have htn : t < n := by omega
      have htl : t < (flushL d.sectors (d.waits.take j)).length := by rw [FL.out]; exact htn
      have HPX := Lib.hid (show flushL d.sectors (d.waits.take (j + 1)) = (flushL d.sectors (d.waits.take j)).set t x.bytes from by rw [FS.out j x hx]; unfold putS; rw [ht, Int.toNat_natCast])
      obtain ⟨q, rfl, rq, q1, q2⟩ := hO.resolve_left (by intro e; rw [e] at htl; simp at htl)
      obtain ⟨u, hu⟩ := get_lt htl
      obtain ⟨bq, oq, csq, eq, -, hBq, ⟨rfl, -⟩, hcq⟩ := rq.at' hu
      obtain ⟨rfl, rfl⟩ : q = bq ∧ 0 = oq := by simpa using eq
      have DR := below_drewN' (Below.refl wr.heap.size wr) 1
      have rq1 := rq.below DR
      have dq : (wr.drewN 1).cell? ⟨q, t, none⟩ = some (.string u) := by have := hcq 0 _ rfl; rwa [show 0 + t * Rdb.size ByteArray + 0 = t from by show 0 + t * 1 + 0 = _; omega] at this
      have zq : (wr.drewN 1).frozen? ⟨q, t, none⟩ = false := by
        rcases rq1 with e | ⟨b2, o2, e2, -, -, hf2, -⟩
        · rw [e] at htl; simp at htl
        · obtain ⟨rfl, -⟩ : q = b2 ∧ 0 = o2 := by simpa using e2
          exact hf2 rfl t
      have PUT := Rows.put (fun h => h) rq1 htl (show Rdb.rd true (w.heap.size + 1 + 1) (wr.drewN 1) [.string x.bytes] x.bytes from ⟨rfl, f1⟩)
      rw [show 0 + t * Rdb.size ByteArray = t from by show 0 + t * 1 = _; omega] at PUT
      have PUT : Rows true (w.heap.size + 1 + 1) ((wr.drewN 1).setCell ⟨q, t, none⟩ (.string x.bytes)) (some ⟨q, 0, none⟩) ((flushL d.sectors (d.waits.take j)).set t x.bytes) := PUT
      have HO2 := Lib.hid (show One (w.heap.size + 1 + 1) w3.heap.size ((wr.drewN 1).setCell ⟨q, t, none⟩ (.string x.bytes)) (some ⟨q, 0, none⟩) (flushL d.sectors (d.waits.take (j + 1))) from .inr ⟨q, rfl, by rw [HPX.out]; exact PUT, q1, q2⟩)
      have HS2 := Lib.hid (show w3.heap.size + 1 ≤ ((wr.drewN 1).setCell ⟨q, t, none⟩ (.string x.bytes)).heap.size from by rw [World.size_setCell]; exact hS)
      have HB2 := Lib.hid ((chainX w hB DR).setCell (p := ⟨q, t, none⟩) (by show w.heap.size ≤ q; omega) (.string x.bytes))
      have HX2 := Lib.hid ((hX.later DR).far (p := ⟨q, t, none⟩) (by show q ≠ w.heap.size; omega) (.string x.bytes))
      have HY2 := Lib.hid ((hY.later DR).far (p := ⟨q, t, none⟩) (by show q ≠ w.heap.size + 1; omega) (.string x.bytes))
      have HZ2 := Lib.hid ((hZ.later DR).far (p := ⟨q, t, none⟩) (by show q ≠ w3.heap.size; omega) (.string x.bytes))
      have z0 := hZ.cells 0 _ rfl
      have t0 : (0 : Int) ≤ (t : Int) := by omega
      have t1 : (t : Int) < (n : Int) := by omega
      have j0 : (0 : Int) ≤ (j : Int) := by omega
      have j1 : (j : Int) < (m : Int) := by omega
      rw [ht] at c0'
      clear hO hS hB hX hY hZ rq rq1 PUT hcq hcc hr hx hu eq i0 i1 HPX htl DR
      generalize x.bytes = xb at *
      go_wp2
      go_still_tail 15, (by kernel_rfl)
      change wpList _ _ _ _ _ (wr.drewN 1)
      generalize wr.drewN 1 = w2 at *
      go_wp2
      go_roundw
      case rel => exact ⟨j + 1, by omega, by go_num, HO2.out, HS2.out, HB2.out, HX2.out, HY2.out, HZ2.out⟩
      case measure => simp [intOf]; omega
    · obtain rfl : j = m := by omega
      have y0 := hZ.cells 0 _ rfl
      have y1 := hZ.cells 1 _ rfl
      have v0 := hY.cells 0 _ rfl
      have v1 := hY.cells 1 _ rfl
      have vf0 := hY.free 0
      have vf1 := hY.free 1
      have F := Lib.hid (FIN.out wr hO (by omega) hB)
      clear hO hS hB hX hY hZ
      go_wp2
      exact bodyPost_ret (v := .agg #[.slice p n k, .slice none 0 0]) (by simp [results, Try.results68, go_sem, *]) rfl F.out
set_option maxRecDepth 100000 in
set_option maxHeartbeats 4000000 in
theorem specFlushDisk {cs : List Value} {fr : Bool} {lo : Nat} (d : DDisk) (b : Bool) (hb : b = true ↔ DOk d) (w : World) (hs : Rdb.sz d ≤ 2097152) (h : Rdb.rd fr lo w cs d) :
    Calls Try.prog 33 #[.agg cs.toArray] w (AnsKRD (if b then flushD d else zeroD) w) := by
  have RD := h
  obtain ⟨a0, c0, a1, c1, rfl, f0, g0, f1, g1⟩ := shape_Disk h
  have L := Lib.hid (chain (lay w (.cells #[.slice a0 d.sectors.length c0, .slice a1 d.waits.length c1] 30)) (lay _ (.cells #[.slice none 0 0, .slice none 0 0] 30)))
  have X := Lib.hid ((BxN.new w #[.slice a0 d.sectors.length c0, .slice a1 d.waits.length c1] 30).later (lay _ (.cells #[.slice none 0 0, .slice none 0 0] 30)))
  have Y0 := BxN.new (w.alloc (.cells #[.slice a0 d.sectors.length c0, .slice a1 d.waits.length c1] 30)) #[.slice none 0 0, .slice none 0 0] 30
  rw [World.size_alloc] at Y0
  have Y := Lib.hid Y0
  have x0 := X.out.cells 0 _ rfl
  have x1 := X.out.cells 1 _ rfl
  have SZ := Lib.hid (show ((w.alloc (.cells #[.slice a0 d.sectors.length c0, .slice a1 d.waits.length c1] 30)).alloc (.cells #[.slice none 0 0, .slice none 0 0] 30)).heap.size = w.heap.size + 1 + 1 from by simp)
  have RW := Lib.hid (rd_rw2 f0 f1)
  have C := Lib.hid (specDiskOk d _ hs (Rdb.below RD L.out))
  have C2 := Lib.hid (fun (k : DOk d) w' (b : Below w.heap.size w w') => specL14Flush d a0 c0 a1 c1 w' (dok_lens k).1 (dok_lens k).2 (RW.out.below b) (dok_in k))
  have FIN := Lib.hid (fun (W : World) (v : Value) (w2 : World) (bb : Below w.heap.size w W) (hy : w.heap.size + 1 + 1 ≤ W.heap.size) (h : AnsKD (flushD d) W (.returned v) w2) v0 v1 => h.lift (v0 := v0) (v1 := v1) (y := w.heap.size + 1) bb (by omega) (by omega))
  generalize hR : (if b then flushD d else zeroD) = R
  have HR := Lib.hid hR
  clear Y0 f0 f1 h RD hR
  go_enter Try.func33, Try.ntmps33
  go_wp2_with fail
  refine C.out.mono ?_
  rintro e w1 ⟨b', rfl, hb', b1⟩
  obtain rfl := iff_eq hb' hb
  have B1 := Lib.hid (chainX w L.out b1)
  have X1 := X.out.later b1
  have Y1 := Lib.hid (Y.out.later b1)
  have S1 := Lib.hid (show w.heap.size + 1 + 1 ≤ w1.heap.size from by rw [← SZ.out]; exact b1.size)
  have x2 := X1.cells 0 _ rfl
  have x3 := X1.cells 1 _ rfl
  have HB := Lib.hid hb
  clear b1 X1 x0 x1 hb hb'
  cases b'
  · obtain rfl : zeroD = R := HR.out
    have y0 := Y1.out.cells 0 _ rfl
    have y1 := Y1.out.cells 1 _ rfl
    have z0 := Y1.out.free 0
    have z1 := Y1.out.free 1
    have F := Lib.hid ((ansKD_zero (w := w) (((B1.out.setCell (p := ⟨w.heap.size + 1, 0, none⟩) (by show _ ≤ w.heap.size + 1; omega) (.slice none 0 0)).setCell (p := ⟨w.heap.size + 1, 1, none⟩) (by show _ ≤ w.heap.size + 1; omega) (.slice none 0 0)))).r)
    go_wp2
    exact bodyPost_ret (v := .agg #[.slice none 0 0, .slice none 0 0]) (by simp [results, Try.results33, go_sem, *]) rfl F.out
  · obtain rfl : flushD d = R := HR.out
    have CC := Lib.hid (C2.out (HB.out.1 rfl) _ B1.out)
    go_wp2_with fail
    refine CC.out.mono ?_
    rintro e w2 ⟨p0, k0, p1, k1, rfl, o, l, b2⟩
    have F := Lib.hid (FIN.out _ _ w2 B1.out S1.out ⟨p0, k0, p1, k1, rfl, o, l, b2⟩ (.slice p0 (flushD d).sectors.length k0) (.slice p1 (flushD d).waits.length k1))
    have Y2 := Y1.out.later b2
    have y0 := Y2.cells 0 _ rfl
    have y1 := Y2.cells 1 _ rfl
    have z0 := Y2.free 0
    have z1 := Y2.free 1
    clear o l b2 Y2 x2 x3
    go_wp2
    exact bodyPost_ret (v := .agg #[.slice p0 (flushD d).sectors.length k0, .slice p1 (flushD d).waits.length k1]) (by simp [results, Try.results33, go_sem, *]) rfl F.out.r
end Go.Proofs.Ytpafhbnjefdhjaa.Rd
