/-
  WriteSector in the program and in the model.
-/
import Derived.Test.YtpafhbnjefdhjaaDkV
namespace Go.Proofs.Ytpafhbnjefdhjaa.Rd
open Go.RowKit Go.ChangeShapes Go.WideShapes Go.Proofs.Ytpafhbnjefdhjaa.GfI Go.Proofs.Ytpafhbnjefdhjaa.GfS
open Go.Proofs.Ytpafhbnjefdhjaa.Sg (BxN)
set_option linter.unusedVariables false
set_option linter.unusedSimpArgs false

theorem AnsK.lift {d : DDisk} {w W w2 : World} {v : Value} {y : Nat} {v0 v1 : Value} {rc : Int} (b : Below w.heap.size w W) (h : AnsK d rc W (.returned v) w2) (h0 : w.heap.size ≤ y) (hy : y < W.heap.size) :
    AnsK d rc w (.returned v) ((w2.setCell ⟨y, 0, none⟩ v0).setCell ⟨y, 1, none⟩ v1) := by
  obtain ⟨a0, c0, a1, c1, e, o, l, bb⟩ := h
  exact ⟨a0, c0, a1, c1, e, o.lift b hy b.size, l, ((chain b bb).setCell (p := ⟨y, 0, none⟩) h0 _).setCell (p := ⟨y, 1, none⟩) h0 _⟩
theorem rows_one {w : World} {s : ByteArray} (hs : s.size ≤ 9223372036854775807) : Rows true 0 (w.alloc (.cells #[.string s] 9)) (some ⟨w.heap.size, 0, none⟩) [s] := by
  have EN := BxN.new w #[.string s] 9
  refine .inr ⟨w.heap.size, 0, rfl, Nat.zero_le _, EN.lt, fun _ => EN.free, fun i q hq => ?_⟩
  have hi : i < 1 := (List.getElem?_eq_some_iff.1 hq).1
  obtain rfl : i = 0 := by omega
  obtain rfl : s = q := by simpa using hq
  exact ⟨[.string s], ⟨rfl, hs⟩, fun cc u hu => by rw [Nat.zero_mul, Nat.zero_add]; exact EN.cells cc u (by simpa using hu)⟩
theorem lok_one {s : ByteArray} : lok [s] ↔ sec s = true := by
  unfold lok; simp
theorem inW_one {n : Nat} {a : Int} {s : ByteArray} : inW n a [s] ↔ inD n a = true := by
  unfold inW inD
  simp
  omega
set_option maxRecDepth 100000 in
set_option maxHeartbeats 4000000 in
theorem implWriteSector {cs : List Value} {fr : Bool} {lo : Nat} (d : DDisk) (a : Int) (s : ByteArray) (hsz : s.size ≤ 9223372036854775807) (R : DDisk) (rc : Int) (hp : WaP d a [s] R rc) (w : World) (hs : Rdb.sz d ≤ 2097152) (h : Rdb.rd fr lo w cs d) :
    Calls Try.prog 26 #[.agg cs.toArray, .int .i64 a, .string s] w (AnsK R rc w) := by
  have RD := h
  obtain ⟨a0, c0, a1, c1, rfl, f0, g0, f1, g1⟩ := shape_Disk h
  have L := Lib.hid (chain (lay w (.cells #[.slice a0 d.sectors.length c0, .slice a1 d.waits.length c1] 30)) (lay _ (.cells #[.slice none 0 0, .slice none 0 0] 30)))
  have X := Lib.hid ((BxN.new w #[.slice a0 d.sectors.length c0, .slice a1 d.waits.length c1] 30).later (lay _ (.cells #[.slice none 0 0, .slice none 0 0] 30)))
  have Y0 := BxN.new (w.alloc (.cells #[.slice a0 d.sectors.length c0, .slice a1 d.waits.length c1] 30)) #[.slice none 0 0, .slice none 0 0] 30
  rw [World.size_alloc] at Y0
  have Y := Lib.hid Y0
  have x0 := X.out.cells 0 _ rfl
  have x1 := X.out.cells 1 _ rfl
  have SZ := Lib.hid (show ((w.alloc (.cells #[.slice a0 d.sectors.length c0, .slice a1 d.waits.length c1] 30)).alloc (.cells #[.slice none 0 0, .slice none 0 0] 30)).heap.size = w.heap.size + 1 + 1 from by simp)
  have S0 : ((w.alloc (.cells #[.slice a0 d.sectors.length c0, .slice a1 d.waits.length c1] 30)).alloc (.cells #[.slice none 0 0, .slice none 0 0] 30)).heap.size = w.heap.size + 1 + 1 := SZ.out
  have R1 := rows_one (w := ((w.alloc (.cells #[.slice a0 d.sectors.length c0, .slice a1 d.waits.length c1] 30)).alloc (.cells #[.slice none 0 0, .slice none 0 0] 30))) hsz
  rw [S0] at R1
  have LL := Lib.hid (chain L.out (lay ((w.alloc (.cells #[.slice a0 d.sectors.length c0, .slice a1 d.waits.length c1] 30)).alloc (.cells #[.slice none 0 0, .slice none 0 0] 30)) (.cells #[.string s] 9)))
  have YY := Lib.hid (Y.out.later (lay ((w.alloc (.cells #[.slice a0 d.sectors.length c0, .slice a1 d.waits.length c1] 30)).alloc (.cells #[.slice none 0 0, .slice none 0 0] 30)) (.cells #[.string s] 9)))
  have C := Lib.hid (implWriteAll d a [s] (some ⟨w.heap.size + 1 + 1, 0, none⟩) 1 R rc hp _ hs (Rdb.below RD LL.out) (by simp) R1)
  have FIN := Lib.hid (fun (v : Value) (w2 : World) (h : AnsK R rc (((w.alloc (.cells #[.slice a0 d.sectors.length c0, .slice a1 d.waits.length c1] 30)).alloc (.cells #[.slice none 0 0, .slice none 0 0] 30)).alloc (.cells #[.string s] 9)) (.returned v) w2) v0 v1 => h.lift (v0 := v0) (v1 := v1) (y := w.heap.size + 1) LL.out (by omega) (by rw [World.size_alloc, S0]; omega))
  clear Y0 f0 f1 h RD R1 S0 hp
  go_enter Try.func26, Try.ntmps26
  go_wp2_with fail
  refine C.out.mono ?_
  rintro e w1 ⟨p0, k0, p1, k1, rfl, o, l, b1⟩
  have F := Lib.hid (FIN.out _ w1 ⟨p0, k0, p1, k1, rfl, o, l, b1⟩ (.slice p0 R.sectors.length k0) (.slice p1 R.waits.length k1))
  have Y1 := YY.out.later b1
  have y0 := Y1.cells 0 _ rfl
  have y1 := Y1.cells 1 _ rfl
  have z0 := Y1.free 0
  have z1 := Y1.free 1
  clear o l b1 Y1 x0 x1
  go_wp2
  exact bodyPost_ret (v := .tuple #[.agg #[.slice p0 R.sectors.length k0, .slice p1 R.waits.length k1], .int .i64 rc]) (by simp [results, Try.results26, go_sem, *]) rfl F.out
set_option maxRecDepth 100000 in
set_option maxHeartbeats 4000000 in
theorem specWriteSector {cs : List Value} {fr : Bool} {lo : Nat} (d : DDisk) (a : Int) (wa : (Lit.int .i64 a).wf = true) (s : ByteArray) (hsz : s.size ≤ 9223372036854775807) (R : DDisk) (rc : Int) (hp : WaP d a [s] R rc) (w : World) (hs : Rdb.sz d ≤ 2097152) (h : Rdb.rd fr lo w cs d) :
    Calls Try.prog 25 #[.agg cs.toArray, .int .i64 a, .string s] w (AnsKR R rc w) := by
  have RD := h
  obtain ⟨a0, c0, a1, c1, rfl, f0, g0, f1, g1⟩ := shape_Disk h
  have L := Lib.hid (chain (lay w (.cells #[.slice a0 d.sectors.length c0, .slice a1 d.waits.length c1] 30)) (lay _ (.cells #[.slice none 0 0, .slice none 0 0] 30)))
  have X := Lib.hid ((BxN.new w #[.slice a0 d.sectors.length c0, .slice a1 d.waits.length c1] 30).later (lay _ (.cells #[.slice none 0 0, .slice none 0 0] 30)))
  have Y0 := BxN.new (w.alloc (.cells #[.slice a0 d.sectors.length c0, .slice a1 d.waits.length c1] 30)) #[.slice none 0 0, .slice none 0 0] 30
  rw [World.size_alloc] at Y0
  have Y := Lib.hid Y0
  have x0 := X.out.cells 0 _ rfl
  have x1 := X.out.cells 1 _ rfl
  have SZ := Lib.hid (show ((w.alloc (.cells #[.slice a0 d.sectors.length c0, .slice a1 d.waits.length c1] 30)).alloc (.cells #[.slice none 0 0, .slice none 0 0] 30)).heap.size = w.heap.size + 1 + 1 from by simp)
  have RW := Lib.hid (rd_rw2 f0 f1)
  have C := Lib.hid (specDiskOk d _ hs (Rdb.below RD L.out))
  have CH := Lib.hid (fun w' => l14Has d.sectors.length d.waits.length a0 a1 c0 c1 a w' g0.1)
  clear Y0 f0 f1 h RD
  rcases hp with ⟨hk, rfl, rfl⟩ | ⟨hk, hl, hi, rfl, rfl⟩ | ⟨hk, hl, hi, hj, rfl, rfl⟩ | ⟨hk, hl, hi, hj, rfl, rfl⟩
  · have HK := Lib.hid hk
    clear hk
    by_cases q : s.size = 64
    · have q2 : ((s.size : Int) != 64) = false := by simp; omega
      go_enter Try.func25, Try.ntmps25
      go_wp2_with fail
      refine C.out.mono ?_
      rintro e w1 ⟨b, rfl, hb, b1⟩
      have B1 := Lib.hid (chainX w L.out b1)
      have X1 := Lib.hid (X.out.later b1)
      have Y1 := Lib.hid (Y.out.later b1)
      have x2 := X1.out.cells 0 _ rfl
      have x3 := X1.out.cells 1 _ rfl
      have HBB := Lib.hid hb
      clear b1 hb x0 x1
      cases b
      · clear HBB
        have y0 := Y1.out.cells 0 _ rfl
        have y1 := Y1.out.cells 1 _ rfl
        have z0 := Y1.out.free 0
        have z1 := Y1.out.free 1
        have F := Lib.hid (AnsKR.zero 1 (((B1.out.setCell (p := ⟨w.heap.size + 1, 0, none⟩) (by show _ ≤ w.heap.size + 1; omega) (.slice none 0 0)).setCell (p := ⟨w.heap.size + 1, 1, none⟩) (by show _ ≤ w.heap.size + 1; omega) (.slice none 0 0))))
        go_wp2
        exact bodyPost_ret (v := .tuple #[.agg #[.slice none 0 0, .slice none 0 0], .int .i64 1]) (by simp [results, Try.results25, go_sem, *]) rfl F.out
      · exact absurd ⟨HBB.out.1 rfl, lok_one.2 (decide_eq_true q)⟩ HK.out
    · have q2 : ((s.size : Int) != 64) = true := by simp; omega
      clear q
      go_enter Try.func25, Try.ntmps25
      go_wp2_with fail
      refine C.out.mono ?_
      rintro e w1 ⟨b, rfl, hb, b1⟩
      have B1 := Lib.hid (chainX w L.out b1)
      have X1 := Lib.hid (X.out.later b1)
      have Y1 := Lib.hid (Y.out.later b1)
      have x2 := X1.out.cells 0 _ rfl
      have x3 := X1.out.cells 1 _ rfl
      have HBB := Lib.hid hb
      clear b1 hb x0 x1
      cases b
      · clear HBB
        have y0 := Y1.out.cells 0 _ rfl
        have y1 := Y1.out.cells 1 _ rfl
        have z0 := Y1.out.free 0
        have z1 := Y1.out.free 1
        have F := Lib.hid (AnsKR.zero 1 (((B1.out.setCell (p := ⟨w.heap.size + 1, 0, none⟩) (by show _ ≤ w.heap.size + 1; omega) (.slice none 0 0)).setCell (p := ⟨w.heap.size + 1, 1, none⟩) (by show _ ≤ w.heap.size + 1; omega) (.slice none 0 0))))
        go_wp2
        exact bodyPost_ret (v := .tuple #[.agg #[.slice none 0 0, .slice none 0 0], .int .i64 1]) (by simp [results, Try.results25, go_sem, *]) rfl F.out
      · clear HBB
        have y0 := Y1.out.cells 0 _ rfl
        have y1 := Y1.out.cells 1 _ rfl
        have z0 := Y1.out.free 0
        have z1 := Y1.out.free 1
        have F := Lib.hid (AnsKR.zero 1 (((B1.out.setCell (p := ⟨w.heap.size + 1, 0, none⟩) (by show _ ≤ w.heap.size + 1; omega) (.slice none 0 0)).setCell (p := ⟨w.heap.size + 1, 1, none⟩) (by show _ ≤ w.heap.size + 1; omega) (.slice none 0 0))))
        go_wp2
        exact bodyPost_ret (v := .tuple #[.agg #[.slice none 0 0, .slice none 0 0], .int .i64 1]) (by simp [results, Try.results25, go_sem, *]) rfl F.out
  · have HK := Lib.hid hk
    have hs64 : s.size = 64 := of_decide_eq_true (lok_one.1 hl)
    have q2 : ((s.size : Int) != 64) = false := by simp; omega
    have hin : inD d.sectors.length a = false := by
      cases e : inD d.sectors.length a
      · rfl
      · exact absurd (inW_one.2 e) hi
    rw [hin] at CH
    have CH := Lib.hid CH.out
    clear hk hl hi hin
    go_enter Try.func25, Try.ntmps25
    go_wp2_with fail
    refine C.out.mono ?_
    rintro e w1 ⟨b, rfl, hb, b1⟩
    have B1 := Lib.hid (chainX w L.out b1)
    have X1 := Lib.hid (X.out.later b1)
    have Y1 := Lib.hid (Y.out.later b1)
    have x2 := X1.out.cells 0 _ rfl
    have x3 := X1.out.cells 1 _ rfl
    have HBB := Lib.hid hb
    clear b1 hb x0 x1
    cases b
    · have := HBB.out.2 HK.out; cases this
    clear HBB
    go_wp2_with fail
    refine (CH.out _).mono ?_
    rintro e w2 ⟨rfl, b2⟩
    have B2 := Lib.hid (chainX w B1.out b2)
    have X2 := Lib.hid (X1.out.later b2)
    have Y2 := Lib.hid (Y1.out.later b2)
    clear x2 x3 b2
    have x2 := X2.out.cells 0 _ rfl
    have x3 := X2.out.cells 1 _ rfl
    have y0 := Y2.out.cells 0 _ rfl
    have y1 := Y2.out.cells 1 _ rfl
    have z0 := Y2.out.free 0
    have z1 := Y2.out.free 1
    have F := Lib.hid (AnsKR.zero 2 (((B2.out.setCell (p := ⟨w.heap.size + 1, 0, none⟩) (by show _ ≤ w.heap.size + 1; omega) (.slice none 0 0)).setCell (p := ⟨w.heap.size + 1, 1, none⟩) (by show _ ≤ w.heap.size + 1; omega) (.slice none 0 0))))
    go_wp2
    exact bodyPost_ret (v := .tuple #[.agg #[.slice none 0 0, .slice none 0 0], .int .i64 2]) (by simp [results, Try.results25, go_sem, *]) rfl F.out
  · have HK := Lib.hid hk
    have hs64 : s.size = 64 := of_decide_eq_true (lok_one.1 hl)
    have q2 : ((s.size : Int) != 64) = false := by simp; omega
    have hin : inD d.sectors.length a = true := inW_one.1 hi
    rw [hin] at CH
    have CH := Lib.hid CH.out
    have dj : decide ((600 : Int) ≤ (d.waits.length : Int)) = true := decide_eq_true (by simp at hj; omega)
    have dj2 : decide (600 ≤ d.waits.length) = true := decide_eq_true (by simp at hj; omega)
    clear hk hl hi hin hj
    go_enter Try.func25, Try.ntmps25
    go_wp2_with fail
    refine C.out.mono ?_
    rintro e w1 ⟨b, rfl, hb, b1⟩
    have B1 := Lib.hid (chainX w L.out b1)
    have X1 := Lib.hid (X.out.later b1)
    have Y1 := Lib.hid (Y.out.later b1)
    have x2 := X1.out.cells 0 _ rfl
    have x3 := X1.out.cells 1 _ rfl
    have HBB := Lib.hid hb
    clear b1 hb x0 x1
    cases b
    · have := HBB.out.2 HK.out; cases this
    clear HBB
    go_wp2_with fail
    refine (CH.out _).mono ?_
    rintro e w2 ⟨rfl, b2⟩
    have B2 := Lib.hid (chainX w B1.out b2)
    have X2 := Lib.hid (X1.out.later b2)
    have Y2 := Lib.hid (Y1.out.later b2)
    clear x2 x3 b2
    have x2 := X2.out.cells 0 _ rfl
    have x3 := X2.out.cells 1 _ rfl
    have y0 := Y2.out.cells 0 _ rfl
    have y1 := Y2.out.cells 1 _ rfl
    have z0 := Y2.out.free 0
    have z1 := Y2.out.free 1
    have F := Lib.hid (AnsKR.zero 4 (((B2.out.setCell (p := ⟨w.heap.size + 1, 0, none⟩) (by show _ ≤ w.heap.size + 1; omega) (.slice none 0 0)).setCell (p := ⟨w.heap.size + 1, 1, none⟩) (by show _ ≤ w.heap.size + 1; omega) (.slice none 0 0))))
    go_wp2
    exact bodyPost_ret (v := .tuple #[.agg #[.slice none 0 0, .slice none 0 0], .int .i64 4]) (by simp [results, Try.results25, go_sem, *]) rfl F.out
  · have HK := Lib.hid hk
    have hs64 : s.size = 64 := of_decide_eq_true (lok_one.1 hl)
    have q2 : ((s.size : Int) != 64) = false := by simp; omega
    have hin : inD d.sectors.length a = true := inW_one.1 hi
    rw [hin] at CH
    have CH := Lib.hid CH.out
    have dj : decide ((600 : Int) ≤ (d.waits.length : Int)) = false := decide_eq_false (by simp at hj; omega)
    have dj2 : decide (600 ≤ d.waits.length) = false := decide_eq_false (by simp at hj; omega)
    have hm : d.waits.length ≤ 1000000 := (dok_lens hk).2
    have hm6 : d.waits.length ≤ 600 := hk.2.1
    have CO := Lib.hid (fun w' (b : Below w.heap.size w w') => specL14Own d a0 c0 a1 c1 w' (dok_lens hk).1 hm (RW.out.below b))
    have wfy : Enc.wf (⟨a, s⟩ : DPending) := ⟨wa, hsz⟩
    have WF := Lib.hid wfy
    have BD : (d.waits ++ [(⟨a, s⟩ : DPending)]) = (bufD d a [s]).waits := rfl
    have BDH := Lib.hid BD
    clear hk hl hi hin hj wfy BD
    go_enter Try.func25, Try.ntmps25
    go_wp2_with fail
    refine C.out.mono ?_
    rintro e w1 ⟨b, rfl, hb, b1⟩
    have B1 := Lib.hid (chainX w L.out b1)
    have X1 := Lib.hid (X.out.later b1)
    have Y1 := Lib.hid (Y.out.later b1)
    have x2 := X1.out.cells 0 _ rfl
    have x3 := X1.out.cells 1 _ rfl
    have HBB := Lib.hid hb
    clear b1 hb x0 x1
    cases b
    · have := HBB.out.2 HK.out; cases this
    clear HBB
    go_wp2_with fail
    refine (CH.out _).mono ?_
    rintro e w2 ⟨rfl, b2⟩
    have B2 := Lib.hid (chainX w B1.out b2)
    have X2 := Lib.hid (X1.out.later b2)
    have Y2 := Lib.hid (Y1.out.later b2)
    clear x2 x3 b2
    have x2 := X2.out.cells 0 _ rfl
    have x3 := X2.out.cells 1 _ rfl
    go_wp2_with fail
    refine (CO.out _ B2.out).mono ?_
    rintro e w5 ⟨p0, k0, p1, k1, rfl, o0, o1, b5⟩
    have LO := lay w5 (.cells #[.slice p0 d.sectors.length k0, .slice p1 d.waits.length k1] 30)
    have HB5 := chainX w (chainX w B2.out b5) LO
    have HY5 := (Y2.out.later b5).later LO
    have HO5 := BxN.new w5 #[.slice p0 d.sectors.length k0, .slice p1 d.waits.length k1] 30
    have HT5 := TyB.new w5 #[.slice p0 d.sectors.length k0, .slice p1 d.waits.length k1] 30
    have BB : w.heap.size + 1 + 1 ≤ w2.heap.size := by have := Y2.out.lt; omega
    have OA := (o0.alloc (.cells #[.slice p0 d.sectors.length k0, .slice p1 d.waits.length k1] 30)).weakB BB
    have OC := (o1.alloc (.cells #[.slice p0 d.sectors.length k0, .slice p1 d.waits.length k1] 30)).weakB BB
    have SO5 : w.heap.size + 1 + 1 ≤ w5.heap.size := by have := b5.size; omega
    have LZ := lay (w5.alloc (.cells #[.slice p0 d.sectors.length k0, .slice p1 d.waits.length k1] 30)) (.cells #[.int .i64 a, .string s] 63)
    have H0 := Lib.hid (OA.alloc (.cells #[.int .i64 a, .string s] 63))
    have H1 := Lib.hid OC
    have H2 := Lib.hid (OC.alloc (.cells #[.int .i64 a, .string s] 63))
    have HO1 := Lib.hid (HO5.later LZ)
    have HT1 := Lib.hid (HT5.later LZ)
    have HY1 := Lib.hid (HY5.later LZ)
    have HB1 := Lib.hid (chainX w HB5 LZ)
    have SZ1 := Lib.hid (show w.heap.size + 1 + 1 ≤ (w5.alloc (.cells #[.slice p0 d.sectors.length k0, .slice p1 d.waits.length k1] 30)).heap.size from by rw [World.size_alloc]; omega)
    have N1 := Lib.hid (own_neT H2.out HT1.out (by decide))
    have N2 := Lib.hid (own_ne H0.out H2.out (by decide))
    have SO := Lib.hid SO5
    have SW := Lib.hid (show (w5.alloc (.cells #[.slice p0 d.sectors.length k0, .slice p1 d.waits.length k1] 30)).heap.size = w5.heap.size + 1 from by simp)
    clear b5 o0 o1 LO HB5 HY5 HO5 HT5 OA OC LZ BB SO5 x2 x3
    go_wp2_with (at_builtin; refine wpList_append_F1 (α := DPending) rfl (.tmp 34) (.tmp 38) 28 63 (.agg #[.int .i64 0, .string ByteArray.empty]) 24 rfl Try.underlying28 infoPending rfl (by omega) (w.heap.size + 1 + 1) (.slice p1 d.waits.length k1) d.waits ⟨a, s⟩ rfl H1.out WF.out (by first | rfl | (rw [SW.out]; rfl)) (by omega) SZ1.out ?_; intro v' w6 J6 g6; rw [BDH.out] at J6; obtain ⟨q2, c2, rfl⟩ := J6.val; have O6 := BxN.grown HO1.out g6 N1.out; have x5 := O6.cells 1 _ rfl; have x4 := O6.cells 0 _ rfl; have xf5 := O6.free 1; have B6 := Lib.hid (HB1.out.grown g6 (by have := HB1.out.size; omega) (fun k hk => by have := (H1.out.blk hk).1; omega)); have Y6 := BxN.grown HY1.out g6 (fun e => by have := (H1.out.blk e.symm).1; omega); have Y7 := Y6.far (p := ⟨w5.heap.size, 1, none⟩) (by show w5.heap.size ≠ w.heap.size + 1; have := SO.out; omega) (.slice q2 (bufD d a [s]).waits.length c2); have v0 := Y7.cells 0 _ rfl; have v1 := Y7.cells 1 _ rfl; have vf0 := Y7.free 0; have vf1 := Y7.free 1; have O7 := O6.put 1 (by simp) (.slice q2 (bufD d a [s]).waits.length c2); have o4 := O7.cells 0 _ rfl; have o5 := O7.cells 1 _ rfl; have J6H := Lib.hid J6; have G6 := Lib.hid g6; clear O6 Y6 Y7 O7 J6 g6)
    have T6 := Lib.hid (HT1.out.grown G6.out N1.out)
    have F := Lib.hid (show AnsKR (bufD d a [s]) 0 w (.returned (.tuple #[.agg #[.slice p0 d.sectors.length k0, .slice q2 (bufD d a [s]).waits.length c2], .int .i64 0])) (((w6.setCell ⟨w5.heap.size, 1, none⟩ (.slice q2 (bufD d a [s]).waits.length c2)).setCell ⟨w.heap.size + 1, 0, none⟩ (.slice p0 d.sectors.length k0)).setCell ⟨w.heap.size + 1, 1, none⟩ (.slice q2 (bufD d a [s]).waits.length c2)) from by
      have r0 := (H0.out.kept G6.out N2.out).setT ⟨w5.heap.size, 1, none⟩ (.slice q2 (bufD d a [s]).waits.length c2) T6.out (by decide)
      have r1 := J6H.out.setT ⟨w5.heap.size, 1, none⟩ (.slice q2 (bufD d a [s]).waits.length c2) T6.out (by decide)
      have k0' := (r0.set ⟨w.heap.size + 1, 0, none⟩ (.slice p0 d.sectors.length k0) (by show w.heap.size + 1 < _; omega)).set ⟨w.heap.size + 1, 1, none⟩ (.slice q2 (bufD d a [s]).waits.length c2) (by show w.heap.size + 1 < _; omega)
      have k1' := (r1.set ⟨w.heap.size + 1, 0, none⟩ (.slice p0 d.sectors.length k0) (by show w.heap.size + 1 < _; omega)).set ⟨w.heap.size + 1, 1, none⟩ (.slice q2 (bufD d a [s]).waits.length c2) (by show w.heap.size + 1 < _; omega)
      exact ⟨p0, k0, q2, c2, rfl, ⟨k0'.one.1.rows.weak (Nat.zero_le _) (fun e => by cases e), k1'.one.1.rows.weak (Nat.zero_le _) (fun e => by cases e)⟩, ⟨k0'.one.2, k1'.one.2⟩, ((B6.out.setCell (p := ⟨w5.heap.size, 1, none⟩) (by show w.heap.size ≤ w5.heap.size; have := SO.out; omega) _).setCell (p := ⟨w.heap.size + 1, 0, none⟩) (by show _ ≤ w.heap.size + 1; omega) _).setCell (p := ⟨w.heap.size + 1, 1, none⟩) (by show _ ≤ w.heap.size + 1; omega) _⟩)
    clear H0 H1 H2 HO1 HT1 HY1 HB1 SZ1 N1 N2 B6 J6H G6 T6
    (try go_wp2)
    exact bodyPost_ret (v := .tuple #[.agg #[.slice p0 d.sectors.length k0, .slice q2 (bufD d a [s]).waits.length c2], .int .i64 0]) (by simp [results, Try.results25, go_sem, *]) rfl F.out
end Go.Proofs.Ytpafhbnjefdhjaa.Rd
