/-
  All writes of a disk done, in the program.
-/
import Derived.Test.YtpafhbnjefdhjaaDkC
import Derived.Test.YtpafhbnjefdhjaaDkI
namespace Go.Proofs.Ytpafhbnjefdhjaa.Rd
open Go.RowKit Go.ChangeShapes Go.WideShapes Go.Proofs.Ytpafhbnjefdhjaa.GfI Go.Proofs.Ytpafhbnjefdhjaa.GfS
open Go.Proofs.Ytpafhbnjefdhjaa.Sg (BxN)
set_option linter.unusedVariables false
set_option linter.unusedSimpArgs false

theorem iff_eq {P : Prop} {b c : Bool} (h : b = true ↔ P) (k : c = true ↔ P) : b = c := by
  cases b <;> cases c <;> simp_all
theorem Own2.lift {d : DDisk} {w W w2 : World} {a0 a1 : Option Addr} {y : Nat} {v0 v1 : Value} (b : Below w.heap.size w W) (h : Own2 W.heap.size w2.heap.size w2 d a0 a1) (hy : y < W.heap.size) (hlo : w.heap.size ≤ W.heap.size) :
    Own2 w.heap.size ((w2.setCell ⟨y, 0, none⟩ v0).setCell ⟨y, 1, none⟩ v1).heap.size ((w2.setCell ⟨y, 0, none⟩ v0).setCell ⟨y, 1, none⟩ v1) d a0 a1 := by
  obtain ⟨hh, m, h1, h2, o0, o1⟩ := h
  refine ⟨Nat.le_refl _, m, by omega, by simpa using h2, (((o0.set _ _ (.inl ?_)).set _ _ (.inl ?_)).wide hlo (Nat.le_refl _)), (((o1.set _ _ (.inl ?_)).set _ _ (.inl ?_)).wide (Nat.le_refl _) (by simp))⟩
  · exact hy
  · exact hy
  · show y < m; omega
  · show y < m; omega
theorem AnsKD.lift {d : DDisk} {w W w2 : World} {v : Value} {y : Nat} {v0 v1 : Value} (b : Below w.heap.size w W) (h : AnsKD d W (.returned v) w2) (h0 : w.heap.size ≤ y) (hy : y < W.heap.size) :
    AnsKD d w (.returned v) ((w2.setCell ⟨y, 0, none⟩ v0).setCell ⟨y, 1, none⟩ v1) := by
  obtain ⟨a0, c0, a1, c1, e, o, l, bb⟩ := h
  exact ⟨a0, c0, a1, c1, e, o.lift b hy b.size, l, ((chain b bb).setCell (p := ⟨y, 0, none⟩) h0 _).setCell (p := ⟨y, 1, none⟩) h0 _⟩
theorem AnsKD.liftK {d : DDisk} {w W w2 : World} {v : Value} {y : Nat} {v0 v1 : Value} {rc : Int} (b : Below w.heap.size w W) (h : AnsKD d W (.returned v) w2) (h0 : w.heap.size ≤ y) (hy : y < W.heap.size) :
    AnsK d rc w (.returned (.tuple #[v, .int .i64 rc])) ((w2.setCell ⟨y, 0, none⟩ v0).setCell ⟨y, 1, none⟩ v1) := by
  obtain ⟨a0, c0, a1, c1, e, o, l, bb⟩ := h
  simp only [Ending.returned.injEq] at e
  subst e
  exact ⟨a0, c0, a1, c1, rfl, o.lift b hy b.size, l, ((chain b bb).setCell (p := ⟨y, 0, none⟩) h0 _).setCell (p := ⟨y, 1, none⟩) h0 _⟩
def zeroD : DDisk := ⟨[], []⟩
theorem ansKD_zero {w w' : World} (b : Below w.heap.size w w') : AnsKD zeroD w (.returned (.agg #[.slice none 0 0, .slice none 0 0])) w' :=
  ⟨none, 0, none, 0, rfl, ⟨Nat.le_refl _, w.heap.size, Nat.le_refl _, b.size, .inl rfl, .inl rfl⟩, ⟨Nat.le_refl _, Nat.le_refl _⟩, b⟩
theorem ansK_zero {w w' : World} (rc : Int) (b : Below w.heap.size w w') : AnsK zeroD rc w (.returned (.tuple #[.agg #[.slice none 0 0, .slice none 0 0], .int .i64 rc])) w' :=
  ⟨none, 0, none, 0, rfl, ⟨Nat.le_refl _, w.heap.size, Nat.le_refl _, b.size, .inl rfl, .inl rfl⟩, ⟨Nat.le_refl _, Nat.le_refl _⟩, b⟩
theorem AnsKD.r {d : DDisk} {w w' : World} {e : Ending} (h : AnsKD d w e w') : AnsKRD d w e w' := by
  obtain ⟨a0, c0, a1, c1, e, o, l, bb⟩ := h
  exact ⟨a0, c0, a1, c1, e, o.rows, l, bb⟩
theorem AnsK.r {d : DDisk} {rc : Int} {w w' : World} {e : Ending} (h : AnsK d rc w e w') : AnsKR d rc w e w' := by
  obtain ⟨a0, c0, a1, c1, e, o, l, bb⟩ := h
  exact ⟨a0, c0, a1, c1, e, o.rows, l, bb⟩
/-- All writes done. -/
def flushD (d : DDisk) : DDisk := ⟨flushL d.sectors d.waits, []⟩
theorem dok_lens {d : DDisk} (h : DOk d) : d.sectors.length ≤ 1000000 ∧ d.waits.length ≤ 1000000 := ⟨by have := h.1; omega, by have := h.2.1; omega⟩
theorem dok_in {d : DDisk} (h : DOk d) : ∀ x, x ∈ d.waits → inD d.sectors.length x.atF = true := fun x hx => by
  have := h.2.2.2 x hx
  unfold wait at this
  exact (Bool.and_eq_true_iff.1 this).1
theorem rd_rw2 {d : DDisk} {fr : Bool} {lo : Nat} {w : World} {a0 : Option Addr} {a1 : Option Addr} (h0 : Rows fr lo w a0 d.sectors) (h1 : Rows fr lo w a1 d.waits) : Rw2 w d a0 a1 :=
  ⟨h0.weak (Nat.zero_le _) (fun e => by cases e), h1.weak (Nat.zero_le _) (fun e => by cases e)⟩
set_option maxRecDepth 100000 in
set_option maxHeartbeats 4000000 in
theorem implFlushed (d : DDisk) (a0 : Option Addr) (c0 : Nat) (a1 : Option Addr) (c1 : Nat) (w : World) (hn : d.sectors.length ≤ 1000000) (hm : d.waits.length ≤ 1000000) (r : Rw2 w d a0 a1) (hin : ∀ x, x ∈ d.waits → inD d.sectors.length x.atF = true) :
    Calls Try.prog 64 #[.agg #[.slice a0 d.sectors.length c0, .slice a1 d.waits.length c1]] w (AnsKD (flushD d) w) := by
  have L := Lib.hid (chain (lay w (.cells #[.slice a0 d.sectors.length c0, .slice a1 d.waits.length c1] 30)) (lay _ (.cells #[.slice none 0 0, .slice none 0 0] 30)))
  have X := Lib.hid ((BxN.new w #[.slice a0 d.sectors.length c0, .slice a1 d.waits.length c1] 30).later (lay _ (.cells #[.slice none 0 0, .slice none 0 0] 30)))
  have Y0 := BxN.new (w.alloc (.cells #[.slice a0 d.sectors.length c0, .slice a1 d.waits.length c1] 30)) #[.slice none 0 0, .slice none 0 0] 30
  rw [World.size_alloc] at Y0
  have Y := Lib.hid Y0
  have x0 := X.out.cells 0 _ rfl
  have x1 := X.out.cells 1 _ rfl
  have SZ := Lib.hid (show ((w.alloc (.cells #[.slice a0 d.sectors.length c0, .slice a1 d.waits.length c1] 30)).alloc (.cells #[.slice none 0 0, .slice none 0 0] 30)).heap.size = w.heap.size + 1 + 1 from by simp)
  have C : Calls Try.prog 73 #[.agg #[.slice a0 d.sectors.length c0, .slice a1 d.waits.length c1], .slice a1 d.waits.length c1] ((w.alloc (.cells #[.slice a0 d.sectors.length c0, .slice a1 d.waits.length c1] 30)).alloc (.cells #[.slice none 0 0, .slice none 0 0] 30)) (AnsKD (flushD d) ((w.alloc (.cells #[.slice a0 d.sectors.length c0, .slice a1 d.waits.length c1] 30)).alloc (.cells #[.slice none 0 0, .slice none 0 0] 30))) := implWritten d d.waits a0 c0 a1 c1 d.waits.length a1 c1 _ hn hm (r.1.below L.out) (r.2.below L.out) hin
  have C := Lib.hid C
  have FIN := Lib.hid (fun (v : Value) (w2 : World) (h : AnsKD (flushD d) ((w.alloc (.cells #[.slice a0 d.sectors.length c0, .slice a1 d.waits.length c1] 30)).alloc (.cells #[.slice none 0 0, .slice none 0 0] 30)) (.returned v) w2) v0 v1 => h.lift (v0 := v0) (v1 := v1) (y := w.heap.size + 1) L.out (by omega) (by rw [SZ.out]; omega))
  clear Y0 r hin hn hm
  go_enter Try.func64, Try.ntmps64
  go_wp2_with fail
  refine C.out.mono ?_
  rintro e w1 ⟨p0, k0, p1, k1, rfl, o, l, b1⟩
  have F := Lib.hid (FIN.out _ w1 ⟨p0, k0, p1, k1, rfl, o, l, b1⟩ (.slice p0 (flushD d).sectors.length k0) (.slice p1 (flushD d).waits.length k1))
  have Y1 := Y.out.later b1
  have y0 := Y1.cells 0 _ rfl
  have y1 := Y1.cells 1 _ rfl
  have z0 := Y1.free 0
  have z1 := Y1.free 1
  clear o l b1 Y1 x0 x1
  go_wp2
  exact bodyPost_ret (v := .agg #[.slice p0 (flushD d).sectors.length k0, .slice p1 (flushD d).waits.length k1]) (by simp [results, Try.results64, go_sem, *]) rfl F.out
set_option maxRecDepth 100000 in
set_option maxHeartbeats 4000000 in
theorem implFlushDisk {cs : List Value} {fr : Bool} {lo : Nat} (d : DDisk) (b : Bool) (hb : b = true ↔ DOk d) (w : World) (hs : Rdb.sz d ≤ 2097152) (h : Rdb.rd fr lo w cs d) :
    Calls Try.prog 34 #[.agg cs.toArray] w (AnsKD (if b then flushD d else zeroD) w) := by
  have RD := h
  obtain ⟨a0, c0, a1, c1, rfl, f0, g0, f1, g1⟩ := shape_Disk h
  have L := Lib.hid (chain (lay w (.cells #[.slice a0 d.sectors.length c0, .slice a1 d.waits.length c1] 30)) (lay _ (.cells #[.slice none 0 0, .slice none 0 0] 30)))
  have X := Lib.hid ((BxN.new w #[.slice a0 d.sectors.length c0, .slice a1 d.waits.length c1] 30).later (lay _ (.cells #[.slice none 0 0, .slice none 0 0] 30)))
  have Y0 := BxN.new (w.alloc (.cells #[.slice a0 d.sectors.length c0, .slice a1 d.waits.length c1] 30)) #[.slice none 0 0, .slice none 0 0] 30
  rw [World.size_alloc] at Y0
  have Y := Lib.hid Y0
  have x0 := X.out.cells 0 _ rfl
  have x1 := X.out.cells 1 _ rfl
  have SZ := Lib.hid (show ((w.alloc (.cells #[.slice a0 d.sectors.length c0, .slice a1 d.waits.length c1] 30)).alloc (.cells #[.slice none 0 0, .slice none 0 0] 30)).heap.size = w.heap.size + 1 + 1 from by simp)
  have RW := Lib.hid (rd_rw2 f0 f1)
  have C := Lib.hid (implDiskOk d _ hs (Rdb.below RD L.out))
  have C2 := Lib.hid (fun (k : DOk d) w' (b : Below w.heap.size w w') => implFlushed d a0 c0 a1 c1 w' (dok_lens k).1 (dok_lens k).2 (RW.out.below b) (dok_in k))
  have FIN := Lib.hid (fun (W : World) (v : Value) (w2 : World) (bb : Below w.heap.size w W) (hy : w.heap.size + 1 + 1 ≤ W.heap.size) (h : AnsKD (flushD d) W (.returned v) w2) v0 v1 => h.lift (v0 := v0) (v1 := v1) (y := w.heap.size + 1) bb (by omega) (by omega))
  generalize hR : (if b then flushD d else zeroD) = R
  have HR := Lib.hid hR
  clear Y0 f0 f1 h RD hR
  go_enter Try.func34, Try.ntmps34
  go_wp2_with fail
  refine C.out.mono ?_
  rintro e w1 ⟨b', rfl, hb', b1⟩
  obtain rfl := iff_eq hb' hb
  have B1 := Lib.hid (chainX w L.out b1)
  have X1 := X.out.later b1
  have Y1 := Lib.hid (Y.out.later b1)
  have S1 := Lib.hid (show w.heap.size + 1 + 1 ≤ w1.heap.size from by rw [← SZ.out]; exact b1.size)
  have x2 := X1.cells 0 _ rfl
  have x3 := X1.cells 1 _ rfl
  have HB := Lib.hid hb
  clear b1 X1 x0 x1 hb hb'
  cases b'
  · obtain rfl : zeroD = R := HR.out
    have y0 := Y1.out.cells 0 _ rfl
    have y1 := Y1.out.cells 1 _ rfl
    have z0 := Y1.out.free 0
    have z1 := Y1.out.free 1
    have F := Lib.hid ((ansKD_zero (w := w) (((B1.out.setCell (p := ⟨w.heap.size + 1, 0, none⟩) (by show _ ≤ w.heap.size + 1; omega) (.slice none 0 0)).setCell (p := ⟨w.heap.size + 1, 1, none⟩) (by show _ ≤ w.heap.size + 1; omega) (.slice none 0 0)))))
    go_wp2
    exact bodyPost_ret (v := .agg #[.slice none 0 0, .slice none 0 0]) (by simp [results, Try.results34, go_sem, *]) rfl F.out
  · obtain rfl : flushD d = R := HR.out
    have CC := Lib.hid (C2.out (HB.out.1 rfl) _ B1.out)
    go_wp2_with fail
    refine CC.out.mono ?_
    rintro e w2 ⟨p0, k0, p1, k1, rfl, o, l, b2⟩
    have F := Lib.hid (FIN.out _ _ w2 B1.out S1.out ⟨p0, k0, p1, k1, rfl, o, l, b2⟩ (.slice p0 (flushD d).sectors.length k0) (.slice p1 (flushD d).waits.length k1))
    have Y2 := Y1.out.later b2
    have y0 := Y2.cells 0 _ rfl
    have y1 := Y2.cells 1 _ rfl
    have z0 := Y2.free 0
    have z1 := Y2.free 1
    clear o l b2 Y2 x2 x3
    go_wp2
    exact bodyPost_ret (v := .agg #[.slice p0 (flushD d).sectors.length k0, .slice p1 (flushD d).waits.length k1]) (by simp [results, Try.results34, go_sem, *]) rfl F.out
end Go.Proofs.Ytpafhbnjefdhjaa.Rd
