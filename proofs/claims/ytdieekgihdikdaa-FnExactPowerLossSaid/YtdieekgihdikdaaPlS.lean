/-
  PowerLoss in the model.
-/
import Derived.Test.YtdieekgihdikdaaPlN
import Derived.Test.YtdieekgihdikdaaDkU
import Derived.Deep.RegionWith
namespace Go.Proofs.Ytdieekgihdikdaa.Rd
open Go.RowKit Go.ChangeShapes Go.WideShapes Go.Proofs.Ytdieekgihdikdaa.GfI Go.Proofs.Ytdieekgihdikdaa.GfS
open Go.Proofs.Ytdieekgihdikdaa.Sg (BxN)
set_option linter.unusedVariables false
set_option linter.unusedSimpArgs false

set_option maxRecDepth 100000 in
set_option maxHeartbeats 4000000 in
theorem specPowerLoss {cs : List Value} {fr : Bool} {lo : Nat} (d : DDisk) (z : List Int) (t : Int) (R : DDisk) (rc : Int) (hp : LossP d z t R rc) (w : World) (hs : Rdb.sz d ≤ 2097152) (h : Rdb.rd fr lo w cs d) (az : Option Addr) (cz : Nat) (hzl : z.length ≤ 2097152) {fr2 : Bool} {lo2 : Nat} (hz : Rows fr2 lo2 w az z) :
    Calls Try.prog 12 #[.agg cs.toArray, .slice az z.length cz, .int .i64 t] w (AnsKR R rc w) := by
  have RD := h
  obtain ⟨a0, c0, a1, c1, rfl, f0, g0, f1, g1⟩ := shape_Disk h
  have L := Lib.hid (chain (lay w (.cells #[.slice a0 d.sectors.length c0, .slice a1 d.waits.length c1] 36)) (lay _ (.cells #[.slice none 0 0, .slice none 0 0] 36)))
  have X := Lib.hid ((BxN.new w #[.slice a0 d.sectors.length c0, .slice a1 d.waits.length c1] 36).later (lay _ (.cells #[.slice none 0 0, .slice none 0 0] 36)))
  have Y0 := BxN.new (w.alloc (.cells #[.slice a0 d.sectors.length c0, .slice a1 d.waits.length c1] 36)) #[.slice none 0 0, .slice none 0 0] 36
  rw [World.size_alloc] at Y0
  have Y := Lib.hid Y0
  have x0 := X.out.cells 0 _ rfl
  have x1 := X.out.cells 1 _ rfl
  have SZ := Lib.hid (show ((w.alloc (.cells #[.slice a0 d.sectors.length c0, .slice a1 d.waits.length c1] 36)).alloc (.cells #[.slice none 0 0, .slice none 0 0] 36)).heap.size = w.heap.size + 1 + 1 from by simp)
  have RW := Lib.hid (rd_rw2 f0 f1)
  have C := Lib.hid (specDiskOk d _ hs (Rdb.below RD L.out))
  have CR := Lib.hid (fun w' (b : Below w.heap.size w w') => Ac.risesH ((d.waits.length : Int) - 1) az cz z w' hzl (rows_words (hz.below b)))
  have HZ := Lib.hid (fun w' (b : Below w.heap.size w w') => hz.below b)
  have CT := Lib.hid (fun w' => GfS.l00In t (-1) 64 w')
  have KO := Lib.hid (kok_out d.waits.length z)
  clear Y0 f0 f1 h RD hz
  have hq : (¬ DOk d ∧ R = zeroD ∧ rc = 1) ∨ (DOk d ∧ ¬ (KOk d.waits.length z ∧ inB t (-1) 64 = true) ∧ R = zeroD ∧ rc = 2) ∨ (DOk d ∧ KOk d.waits.length z ∧ inB t (-1) 64 = true ∧ (∃ S, Run d z t R S) ∧ rc = 0) := by
    rcases hp with q | q | ⟨h, k, i, e, rfl, r⟩ | ⟨h, k, za, v, x, s, n, i, rfl, hx, hi, rfl, hn, hs, rfl, r⟩
    · exact .inl q
    · exact .inr (.inl q)
    · exact .inr (.inr ⟨h, k, i, run_plain h e, r⟩)
    · exact .inr (.inr ⟨h, k, inB_yes (by omega) (by omega), run_torn h hx hi hn hs, r⟩)
  clear hp
  rcases hq with ⟨hk, rfl, rfl⟩ | ⟨hk, hi, rfl, rfl⟩ | ⟨hk, ko, hi, ⟨S, run⟩, rfl⟩
  · have HK := Lib.hid hk
    clear hk
    go_enter Try.func12, Try.ntmps12
    go_wp2_with fail
    refine C.out.mono ?_
    rintro e w1 ⟨b, rfl, hb, b1⟩
    have B1 := Lib.hid (chainX w L.out b1)
    have X1 := Lib.hid (X.out.later b1)
    have Y1 := Lib.hid (Y.out.later b1)
    have x2 := X1.out.cells 0 _ rfl
    have x3 := X1.out.cells 1 _ rfl
    have HBB := Lib.hid hb
    clear b1 hb x0 x1
    cases b
    · clear HBB
      have y0 := Y1.out.cells 0 _ rfl
      have y1 := Y1.out.cells 1 _ rfl
      have z0 := Y1.out.free 0
      have z1 := Y1.out.free 1
      have F := Lib.hid (AnsKR.zero 1 (((B1.out.setCell (p := ⟨w.heap.size + 1, 0, none⟩) (by show _ ≤ w.heap.size + 1; omega) (.slice none 0 0)).setCell (p := ⟨w.heap.size + 1, 1, none⟩) (by show _ ≤ w.heap.size + 1; omega) (.slice none 0 0))))
      go_wp2
      exact bodyPost_ret (v := .tuple #[.agg #[.slice none 0 0, .slice none 0 0], .int .i64 1]) (by simp [results, Try.results12, go_sem, *]) rfl F.out
    · exact absurd (HBB.out.1 rfl) HK.out
  · have HK := Lib.hid hk
    have HI := Lib.hid hi
    have WM : IntKind.i64.wrap ((d.waits.length : Int) - 1) = (d.waits.length : Int) - 1 := by have := hk.2.1; rw [IntKind.wrap_i64]; omega
    clear hk hi
    generalize hu : inB t (-1) 64 = u at *
    clear hu
    go_enter Try.func12, Try.ntmps12
    go_wp2_with fail
    refine C.out.mono ?_
    rintro e w1 ⟨b, rfl, hb, b1⟩
    have B1 := Lib.hid (chainX w L.out b1)
    have X1 := Lib.hid (X.out.later b1)
    have Y1 := Lib.hid (Y.out.later b1)
    have x2 := X1.out.cells 0 _ rfl
    have x3 := X1.out.cells 1 _ rfl
    have HBB := Lib.hid hb
    clear b1 hb x0 x1
    cases b
    · have := HBB.out.2 HK.out; cases this
    clear HBB
    go_wp2_with fail
    refine (CR.out _ B1.out).mono ?_
    rintro e w2 ⟨b, rfl, hb, b2⟩
    have B2 := Lib.hid (chainX w B1.out b2)
    have X2 := Lib.hid (X1.out.later b2)
    have Y2 := Lib.hid (Y1.out.later b2)
    clear x2 x3 b2
    have x2 := X2.out.cells 0 _ rfl
    have x3 := X2.out.cells 1 _ rfl
    have HB2 := Lib.hid hb
    clear hb
    cases b
    · clear HB2
      have y0 := Y2.out.cells 0 _ rfl
      have y1 := Y2.out.cells 1 _ rfl
      have z0 := Y2.out.free 0
      have z1 := Y2.out.free 1
      have F := Lib.hid (AnsKR.zero 2 (((B2.out.setCell (p := ⟨w.heap.size + 1, 0, none⟩) (by show _ ≤ w.heap.size + 1; omega) (.slice none 0 0)).setCell (p := ⟨w.heap.size + 1, 1, none⟩) (by show _ ≤ w.heap.size + 1; omega) (.slice none 0 0))))
      go_wp2
      exact bodyPost_ret (v := .tuple #[.agg #[.slice none 0 0, .slice none 0 0], .int .i64 2]) (by simp [results, Try.results12, go_sem, *]) rfl F.out
    · cases u
      · go_wp2_with fail
        refine (CT.out _).mono ?_
        rintro e w9 ⟨rfl, rfl⟩
        have y0 := Y2.out.cells 0 _ rfl
        have y1 := Y2.out.cells 1 _ rfl
        have z0 := Y2.out.free 0
        have z1 := Y2.out.free 1
        have F := Lib.hid (AnsKR.zero 2 (((B2.out.setCell (p := ⟨w.heap.size + 1, 0, none⟩) (by show _ ≤ w.heap.size + 1; omega) (.slice none 0 0)).setCell (p := ⟨w.heap.size + 1, 1, none⟩) (by show _ ≤ w.heap.size + 1; omega) (.slice none 0 0))))
        go_wp2
        exact bodyPost_ret (v := .tuple #[.agg #[.slice none 0 0, .slice none 0 0], .int .i64 2]) (by simp [results, Try.results12, go_sem, *]) rfl F.out
      · exact absurd ⟨KO.out.1 (HB2.out.1 rfl), rfl⟩ HI.out
  · have HK := Lib.hid hk
    have hn : d.sectors.length ≤ 1000000 := (dok_lens hk).1
    have hm : d.waits.length ≤ 600 := hk.2.1
    have WM : IntKind.i64.wrap ((d.waits.length : Int) - 1) = (d.waits.length : Int) - 1 := by rw [IntKind.wrap_i64]; omega
    have ht : -1 ≤ t ∧ t ≤ 64 := of_decide_eq_true hi
    rw [hi] at CT
    have CT := Lib.hid CT.out
    have KK := Lib.hid ko
    have GZ := Lib.hid (fun j (h : j < z.length) => get_lt h)
    have RUN := Lib.hid run
    clear hk hi ko run
    go_enter Try.func12, Try.ntmps12
    go_wp2_with fail
    refine C.out.mono ?_
    rintro e w1 ⟨b, rfl, hb, b1⟩
    have B1 := Lib.hid (chainX w L.out b1)
    have X1 := Lib.hid (X.out.later b1)
    have Y1 := Lib.hid (Y.out.later b1)
    have x2 := X1.out.cells 0 _ rfl
    have x3 := X1.out.cells 1 _ rfl
    have HBB := Lib.hid hb
    clear b1 hb x0 x1
    cases b
    · have := HBB.out.2 HK.out; cases this
    clear HBB
    go_wp2_with fail
    refine (CR.out _ B1.out).mono ?_
    rintro e w2 ⟨b, rfl, hb, b2⟩
    have B2 := Lib.hid (chainX w B1.out b2)
    have X2 := Lib.hid (X1.out.later b2)
    have Y2 := Lib.hid (Y1.out.later b2)
    clear x2 x3 b2
    have x2 := X2.out.cells 0 _ rfl
    have x3 := X2.out.cells 1 _ rfl
    have HB2 := Lib.hid hb
    clear hb
    cases b
    · have := HB2.out.2 (KO.out.2 KK.out); cases this
    clear HB2
    go_wp2_with fail
    refine (CT.out _).mono ?_
    rintro e w9 ⟨rfl, rfl⟩
    have LA := lay w2 (.cells #[] 9)
    have J0 := Lib.hid (OwnL.made (α := ByteArray) 9 w2.heap.size w2 (Nat.le_refl _))
    have BA := Lib.hid (chainX w B2.out LA)
    have WH := Lib.hid (RW.out.1.below BA.out)
    have XA := Lib.hid (X2.out.later LA)
    have YA := Lib.hid (Y2.out.later LA)
    have SA := Lib.hid (show w2.heap.size ≤ (w2.alloc (.cells #[] 9)).heap.size from by rw [World.size_alloc]; omega)
    have xa0 := XA.out.cells 0 _ rfl
    clear x2 x3 LA
    go_wp2_with (at_builtin; refine wpList_append_F (α := ByteArray) rfl (.tmp 28) (.tmp 30) 28 9 (.string ByteArray.empty) 16 ?_ ?_ ?_ ?_ ?_ w2.heap.size (.slice (some ⟨w2.heap.size, 0, none⟩) 0 0) [] d.sectors ?_ ?_ a0 c0 (fr := false) (lo := 0) ?_ ?_ ?_ ?_ ?_; (· rfl); (· exact Try.underlying28); (· exact infoStr); (· rfl); (· omega); (· rfl); (· exact J0.out); (· rfl); (· exact WH.out); (· simp; omega); (· exact SA.out); intro v' w3 J3 g3; rw [List.nil_append] at J3; obtain ⟨p, k, rfl, hk, o3, -⟩ := J3.shape)
    have B3 := Lib.hid (BA.out.grown g3 (by have := BA.out.size; omega) (fun c hc => by cases hc; exact B2.out.size))
    have B4 := Lib.hid ((Below.refl w2.heap.size (w2.alloc (.cells #[] 9))).grown g3 SA.out (fun c hc => by cases hc; exact Nat.le_refl _))
    have X3 := BxN.lo XA.out B4.out X2.out.lt
    have Y3 := BxN.lo YA.out B4.out Y2.out.lt
    have LO := lay w3 (.cells #[.slice p d.sectors.length k, .slice none 0 0] 36)
    have X4 := Lib.hid (X3.later LO)
    have Y4 := Lib.hid (Y3.later LO)
    have B5 := Lib.hid (chainX w B3.out LO)
    have ON := Lib.hid (BxN.new w3 #[.slice p d.sectors.length k, .slice none 0 0] 36)
    have O4 := Lib.hid (show One w2.heap.size w3.heap.size (w3.alloc (.cells #[.slice p d.sectors.length k, .slice none 0 0] 36)) p (S 0) from by rw [RUN.out.zero]; exact o3.later (Nat.le_refl _) LO)
    have S4 := Lib.hid (show w3.heap.size + 1 ≤ (w3.alloc (.cells #[.slice p d.sectors.length k, .slice none 0 0] 36)).heap.size from by simp)
    have L2 := Lib.hid (show w.heap.size + 1 < w2.heap.size from Y2.out.lt)
    have S3 := Lib.hid (show w2.heap.size ≤ w3.heap.size from by have := B4.out.size; rw [World.size_alloc] at this; omega)
    have HKk := Lib.hid hk
    clear J3 g3 o3 X3 Y3 LO xa0 B4 XA YA X Y L SZ WH J0 BA SA hk X1 Y1 X2 Y2 B1 B2 CR CT C B3
    obtain ⟨n, hnn⟩ : ∃ n, n = d.sectors.length := ⟨_, rfl⟩
    obtain ⟨m, hmm⟩ : ∃ m, m = d.waits.length := ⟨_, rfl⟩
    obtain ⟨N, hNN⟩ : ∃ N, N = z.length := ⟨_, rfl⟩
    have EN := Lib.hid hnn
    have EM := Lib.hid hmm
    have EZ := Lib.hid hNN
    rw [← hnn] at X4 Y4 B5 O4 S4 ON hn HKk
    rw [← hmm] at hm X4 WM
    rw [← hNN] at hzl GZ
    rw [← hnn, ← hmm, ← hNN]
    clear hnn hmm hNN
    go_loopw [9] (fun i wr => ∃ j : Nat, j ≤ N ∧ i = .int .i64 j ∧ One w2.heap.size w3.heap.size wr p (S j) ∧ w3.heap.size + 1 ≤ wr.heap.size ∧ Below w.heap.size w wr ∧ BxN wr w.heap.size [.slice a0 n c0, .slice a1 m c1] ∧ BxN wr (w.heap.size + 1) [.slice none 0 0, .slice none 0 0] ∧ BxN wr w3.heap.size [.slice p n k, .slice none 0 0]) (fun i _ => N - (intOf i).toNat)
    case atStart => exact ⟨0, by omega, rfl, O4.out, S4.out, B5.out, X4.out, Y4.out, ON.out⟩
    case round =>
      obtain ⟨j, hj, rfl, hO, hS, hB, hX, hY, hZ⟩ := hrel
      clear X4 Y4 B5 O4 S4 ON
      by_cases hlt : j < N
      · obtain ⟨v, hv⟩ := GZ.out j hlt
        obtain ⟨bz, oz, csz, rfl, -, hBz, ⟨rfl, -⟩, hccz⟩ := (HZ.out _ hB).at' hv
        have kz : wr.cell? ⟨bz, oz + j, none⟩ = some (.int .i64 v) := by have := hccz 0 _ rfl; rwa [show oz + j * Rdb.size Int + 0 = oz + j from by show oz + j * 1 + 0 = _; omega] at this
        obtain ⟨i0, i1⟩ := inD_yes (KK.out.2 v (List.mem_of_getElem? hv))
        obtain ⟨vn, rfl⟩ : ∃ vn : Nat, v = (vn : Int) := ⟨v.toNat, by omega⟩
        obtain ⟨x, hx⟩ := get_lt (show vn < d.waits.length by omega)
        obtain ⟨b, off, cs, rfl, -, hBb, hr, hcc⟩ := (RW.out.2.below hB).at' hx
        obtain ⟨rfl, f0, f1⟩ := shape_Pending hr
        have c0' : wr.cell? ⟨b, off + vn * 2, none⟩ = some (.int .i64 x.atF) := hcc 0 _ rfl
        have c1' : wr.cell? ⟨b, off + vn * 2 + 1, none⟩ = some (.string x.bytes) := hcc 1 _ rfl
        have hw := HK.out.2.2.2 x (List.mem_of_getElem? hx)
        have hws : x.bytes.size = 64 := of_decide_eq_true (wait_sec hw)
        unfold wait at hw
        obtain ⟨u0, u1⟩ := inD_yes (Bool.and_eq_true_iff.1 hw).1
        obtain ⟨i, hi⟩ : ∃ i : Nat, x.atF = ((i : Nat) : Int) := ⟨x.atF.toNat, by omega⟩
        have hil : i < n := by have := EN.out; omega
        have hin : i < (S j).length := by rw [RUN.out.len]; have := EN.out; omega
        obtain ⟨s, hs⟩ := get_lt hin
        have hss : s.size = 64 := RUN.out.size j s (List.mem_of_getElem? hs)
        have ST := Lib.hid (RUN.out.step j (vn : Int) x i s hv (by rw [Int.toNat_natCast]; exact hx) hi hs)
        obtain ⟨q, rfl, q1, q2, qc, qf⟩ := hO.at_ hs
        rw [hi] at c0'
        have XA0 := x.atF
        clear XA0
        have DR := lay wr (.cells #[.int .i64 0, .string ⟨#[]⟩] 87)
        have PN := BxN.new wr #[.int .i64 0, .string ⟨#[]⟩] 87
        have x1 := (hX.later DR).cells 1 _ rfl
        have xw1 := hX.cells 1 _ rfl
        have kz2 := (DR.cell (p := ⟨bz, oz + j, none⟩) hBz).trans kz
        have c2' := (DR.cell (p := ⟨b, off + vn * 2, none⟩) hBb).trans c0'
        have c3' := (DR.cell (p := ⟨b, off + vn * 2 + 1, none⟩) hBb).trans c1'
        have w0 := PN.cells 0 _ rfl
        have w1' := PN.cells 1 _ rfl
        have wf0 := PN.free 0
        have wf1 := PN.free 1
        have vv0 : (0 : Int) ≤ (vn : Int) := by omega
        have vv1 : (vn : Int) < (m : Int) := by have := EM.out; omega
        have j0 : (0 : Int) ≤ (j : Int) := by omega
        have j1 : (j : Int) < (N : Int) := by omega
        have HO := Lib.hid hO
        have HSz := Lib.hid hS
        have HB := Lib.hid hB
        have HX := Lib.hid hX
        have HY := Lib.hid hY
        have HZ3 := Lib.hid hZ
        have QC := Lib.hid qc
        have QF := Lib.hid qf
        have HIN := Lib.hid hin
        have Q1 := Lib.hid q1
        have Q2 := Lib.hid q2
        have XS := Lib.hid hws
        have SS := Lib.hid hss
        clear hO hS hB hX hY hZ hccz hcc hr hx hs hv hw u0 u1 qc qf hin q1 q2 hws hss hi i0 i1
        generalize x.bytes = xb at *
        go_wp2
        go_region
        clear c0' c1' kz kz2 c2' c3' w0 w1' wf0 wf1 x1 xw1 PN DR
        have WN : IntKind.i64.wrap ((N : Int) - 1) = (N : Int) - 1 := by rw [IntKind.wrap_i64]; omega
        have i0 : (0 : Int) ≤ (i : Int) := by omega
        have i1 : (i : Int) < (n : Int) := by omega
        by_cases e : j + 1 = z.length ∧ 0 ≤ t
        · obtain ⟨e1, e2⟩ := e
          obtain ⟨tn, rfl⟩ : ∃ tn : Nat, t = (tn : Int) := ⟨t.toNat, by omega⟩
          have ej : ((j : Int) == (N : Int) - 1) = true := by have := EZ.out; simp; omega
          have et : decide ((0 : Int) ≤ (tn : Int)) = true := decide_eq_true (by omega)
          obtain ⟨ts, hts⟩ : ∃ ts, ts = tornS s xb tn := ⟨_, rfl⟩
          have CUT : xb.extract 0 tn ++ s.extract tn s.size = ts := by rw [hts]; exact tornS_cut s xb tn
          have SJ := Lib.hid (show S (j + 1) = (S j).set i ts from by have := ST.out; rw [if_pos ⟨e1, e2⟩, Int.toNat_natCast] at this; rw [hts]; exact this)
          have YS := Lib.hid (show ts.size = 64 from by have x1 := XS.out; have x2 := SS.out; rw [hts, tornS_size (by omega) (by omega)]; exact x1)
          have t2 : (tn : Int) ≤ (xb.size : Int) := by have := XS.out; omega
          have t3 : (tn : Int) ≤ (s.size : Int) := by have := SS.out; omega
          have t4 : (0 : Int) ≤ (tn : Int) := by omega
          have LIM : ¬ (9223372036854775807 < min tn xb.size + (s.size - tn)) := by have := XS.out; have := SS.out; omega
          clear hts e1 e2 ht
          have PDu := lay wr (.cells #[.int .i64 (i : Int), .string xb] 87)
          have PNu := BxN.new wr #[.int .i64 (i : Int), .string xb] 87
          have p0u := PNu.cells 0 _ rfl
          have p1u := PNu.cells 1 _ rfl
          have g0u := PNu.free 0
          have g1u := PNu.free 1
          have z0u := (HZ3.out.later PDu).cells 0 _ rfl
          have qcu := (PDu.cell (p := ⟨q, i, none⟩) (show q < wr.heap.size by have := Q2.out; have := HSz.out; omega)).trans QC.out
          have qfu := (PDu.frozen (p := ⟨q, i, none⟩) (show q < wr.heap.size by have := Q2.out; have := HSz.out; omega)).trans QF.out
          clear PDu PNu
          have PDv := lay wr (.cells #[.int .i64 (i : Int), .string ts] 87)
          have PNv := BxN.new wr #[.int .i64 (i : Int), .string ts] 87
          have p0v := PNv.cells 0 _ rfl
          have p1v := PNv.cells 1 _ rfl
          have g0v := PNv.free 0
          have g1v := PNv.free 1
          have z0v := (HZ3.out.later PDv).cells 0 _ rfl
          have qcv := (PDv.cell (p := ⟨q, i, none⟩) (show q < wr.heap.size by have := Q2.out; have := HSz.out; omega)).trans QC.out
          have qfv := (PDv.frozen (p := ⟨q, i, none⟩) (show q < wr.heap.size by have := Q2.out; have := HSz.out; omega)).trans QF.out
          have FOv := Lib.hid (show One w2.heap.size w3.heap.size ((wr.alloc (.cells #[.int .i64 (i : Int), .string ts] 87)).setCell ⟨q, i, none⟩ (.string ts)) (some ⟨q, 0, none⟩) (S (j + 1)) from by rw [SJ.out]; exact (HO.out.later (by have := HSz.out; omega) PDv).put HIN.out (by have := YS.out; omega))
          have FBv := Lib.hid ((chainX w HB.out PDv).setCell (p := ⟨q, i, none⟩) (by show w.heap.size ≤ q; have := Q1.out; have := L2.out; omega) (.string ts))
          have FXv := Lib.hid ((HX.out.later PDv).far (p := ⟨q, i, none⟩) (by show q ≠ w.heap.size; have := Q1.out; have := L2.out; omega) (.string ts))
          have FYv := Lib.hid ((HY.out.later PDv).far (p := ⟨q, i, none⟩) (by show q ≠ w.heap.size + 1; have := Q1.out; have := L2.out; omega) (.string ts))
          have FZv := Lib.hid ((HZ3.out.later PDv).far (p := ⟨q, i, none⟩) (by show q ≠ w3.heap.size; have := Q2.out; omega) (.string ts))
          have FSv := Lib.hid (show w3.heap.size + 1 ≤ ((wr.alloc (.cells #[.int .i64 (i : Int), .string ts] 87)).setCell ⟨q, i, none⟩ (.string ts)).heap.size from by simp; have := HSz.out; omega)
          clear PDv PNv
          go_wp2
          go_region
          go_wp2
          go_roundw
          case rel => exact ⟨j + 1, by omega, by go_num, FOv.out, FSv.out, FBv.out.drew.drew, FXv.out.later (Below.refl _ _).drew.drew, FYv.out.later (Below.refl _ _).drew.drew, FZv.out.later (Below.refl _ _).drew.drew⟩
          case measure => simp [intOf]; omega
        · have SJ := Lib.hid (show S (j + 1) = (S j).set i xb from by have := ST.out; rw [if_neg e] at this; exact this)
          have YS := Lib.hid (show xb.size = 64 from XS.out)
          have PDu := lay wr (.cells #[.int .i64 (i : Int), .string xb] 87)
          have PNu := BxN.new wr #[.int .i64 (i : Int), .string xb] 87
          have p0u := PNu.cells 0 _ rfl
          have p1u := PNu.cells 1 _ rfl
          have g0u := PNu.free 0
          have g1u := PNu.free 1
          have z0u := (HZ3.out.later PDu).cells 0 _ rfl
          have qcu := (PDu.cell (p := ⟨q, i, none⟩) (show q < wr.heap.size by have := Q2.out; have := HSz.out; omega)).trans QC.out
          have qfu := (PDu.frozen (p := ⟨q, i, none⟩) (show q < wr.heap.size by have := Q2.out; have := HSz.out; omega)).trans QF.out
          have FOu := Lib.hid (show One w2.heap.size w3.heap.size ((wr.alloc (.cells #[.int .i64 (i : Int), .string xb] 87)).setCell ⟨q, i, none⟩ (.string xb)) (some ⟨q, 0, none⟩) (S (j + 1)) from by rw [SJ.out]; exact (HO.out.later (by have := HSz.out; omega) PDu).put HIN.out (by have := YS.out; omega))
          have FBu := Lib.hid ((chainX w HB.out PDu).setCell (p := ⟨q, i, none⟩) (by show w.heap.size ≤ q; have := Q1.out; have := L2.out; omega) (.string xb))
          have FXu := Lib.hid ((HX.out.later PDu).far (p := ⟨q, i, none⟩) (by show q ≠ w.heap.size; have := Q1.out; have := L2.out; omega) (.string xb))
          have FYu := Lib.hid ((HY.out.later PDu).far (p := ⟨q, i, none⟩) (by show q ≠ w.heap.size + 1; have := Q1.out; have := L2.out; omega) (.string xb))
          have FZu := Lib.hid ((HZ3.out.later PDu).far (p := ⟨q, i, none⟩) (by show q ≠ w3.heap.size; have := Q2.out; omega) (.string xb))
          have FSu := Lib.hid (show w3.heap.size + 1 ≤ ((wr.alloc (.cells #[.int .i64 (i : Int), .string xb] 87)).setCell ⟨q, i, none⟩ (.string xb)).heap.size from by simp; have := HSz.out; omega)
          clear PDu PNu
          have ez : ¬ (j + 1 = N ∧ 0 ≤ t) := by rw [EZ.out]; exact e
          clear e
          by_cases e1 : j + 1 = N
          · have ej : ((j : Int) == (N : Int) - 1) = true := by simp; omega
            have et : decide ((0 : Int) ≤ t) = false := decide_eq_false (fun h => ez ⟨e1, h⟩)
            clear ez e1
            go_wp2
            go_roundw
            case rel => exact ⟨j + 1, by omega, by go_num, FOu.out, FSu.out, FBu.out.drew, FXu.out.later (Below.refl _ _).drew, FYu.out.later (Below.refl _ _).drew, FZu.out.later (Below.refl _ _).drew⟩
            case measure => simp [intOf]; omega
          · have ej : ((j : Int) == (N : Int) - 1) = false := by simp; omega
            clear ez e1
            go_wp2
            go_roundw
            case rel => exact ⟨j + 1, by omega, by go_num, FOu.out, FSu.out, FBu.out.drew, FXu.out.later (Below.refl _ _).drew, FYu.out.later (Below.refl _ _).drew, FZu.out.later (Below.refl _ _).drew⟩
            case measure => simp [intOf]; omega
      · obtain rfl : j = N := by omega
        have y0 := hZ.cells 0 _ rfl
        have y1 := hZ.cells 1 _ rfl
        have v0 := hY.cells 0 _ rfl
        have v1 := hY.cells 1 _ rfl
        have vf0 := hY.free 0
        have vf1 := hY.free 1
        have F := Lib.hid (show AnsKR R 0 w (.returned (.tuple #[.agg #[.slice p n k, .slice none 0 0], .int .i64 0])) ((wr.setCell ⟨w.heap.size + 1, 0, none⟩ (.slice p n k)).setCell ⟨w.heap.size + 1, 1, none⟩ (.slice none 0 0)) from by
          have l2 := L2.out
          have e1 : S j = R.sectors := by rw [EZ.out]; exact RUN.out.last
          have e2 : R.sectors.length = n := by rw [← e1, RUN.out.len, EN.out]
          have z0 := (hO.set ⟨w.heap.size + 1, 0, none⟩ (.slice p n k) (.inl (by show w.heap.size + 1 < _; omega))).set ⟨w.heap.size + 1, 1, none⟩ (.slice none 0 0) (.inl (by show w.heap.size + 1 < _; omega))
          rw [e1] at z0
          exact ⟨p, k, none, 0, by rw [e2, RUN.out.none]; rfl, ⟨z0.rows.weak (Nat.zero_le _) (fun e => by cases e), by rw [RUN.out.none]; exact .inl rfl⟩, ⟨by rw [e2]; exact HKk.out, by rw [RUN.out.none]; exact Nat.le_refl _⟩, (hB.setCell (p := ⟨w.heap.size + 1, 0, none⟩) (by show _ ≤ w.heap.size + 1; omega) _).setCell (p := ⟨w.heap.size + 1, 1, none⟩) (by show _ ≤ w.heap.size + 1; omega) _⟩)
        clear hO hS hB hX hY hZ
        go_wp2
        exact bodyPost_ret (v := .tuple #[.agg #[.slice p n k, .slice none 0 0], .int .i64 0]) (by simp [results, Try.results12, go_sem, *]) rfl F.out
end Go.Proofs.Ytdieekgihdikdaa.Rd
