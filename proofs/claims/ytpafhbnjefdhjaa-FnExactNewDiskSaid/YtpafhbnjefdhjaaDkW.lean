/-
  WriteAll in the program.
-/
import Derived.Test.YtpafhbnjefdhjaaDkB
import Derived.Test.YtpafhbnjefdhjaaDkZ
namespace Go.Proofs.Ytpafhbnjefdhjaa.Rd
open Go.RowKit Go.ChangeShapes Go.WideShapes Go.Proofs.Ytpafhbnjefdhjaa.GfI Go.Proofs.Ytpafhbnjefdhjaa.GfS
open Go.Proofs.Ytpafhbnjefdhjaa.Sg (BxN)
set_option linter.unusedVariables false
set_option linter.unusedSimpArgs false

def lok (l : List ByteArray) : Prop := ∀ s, s ∈ l → sec s = true
/-- Whether writes of the list from a on lie in n sectors. -/
def inW (n : Nat) (a : Int) (l : List ByteArray) : Prop := l = [] ∨ (0 ≤ a ∧ a + (l.length : Int) ≤ (n : Int))
/-- What WriteAll answers. -/
def WaP (d : DDisk) (a : Int) (l : List ByteArray) (r : DDisk) (c : Int) : Prop :=
  (¬ (DOk d ∧ lok l) ∧ r = zeroD ∧ c = 1) ∨ (DOk d ∧ lok l ∧ ¬ inW d.sectors.length a l ∧ r = zeroD ∧ c = 2) ∨
  (DOk d ∧ lok l ∧ inW d.sectors.length a l ∧ 600 < d.waits.length + l.length ∧ r = zeroD ∧ c = 4) ∨
  (DOk d ∧ lok l ∧ inW d.sectors.length a l ∧ d.waits.length + l.length ≤ 600 ∧ r = bufD d a l ∧ c = 0)
theorem waP_ex (d : DDisk) (a : Int) (l : List ByteArray) : ∃ r c, WaP d a l r c := by
  classical
  by_cases h : DOk d ∧ lok l
  · by_cases i : inW d.sectors.length a l
    · by_cases j : d.waits.length + l.length ≤ 600
      · exact ⟨_, _, .inr (.inr (.inr ⟨h.1, h.2, i, j, rfl, rfl⟩))⟩
      · exact ⟨_, _, .inr (.inr (.inl ⟨h.1, h.2, i, by omega, rfl, rfl⟩))⟩
    · exact ⟨_, _, .inr (.inl ⟨h.1, h.2, i, rfl, rfl⟩)⟩
  · exact ⟨_, _, .inl ⟨h, rfl, rfl⟩⟩
theorem sz_bufD {d : DDisk} {a : Int} {l : List ByteArray} (h : DOk d) (k : lok l) (j : d.waits.length + l.length ≤ 600) : Rdb.sz (bufD d a l) ≤ 2097152 :=
  sz_disk 1200 600 h.2.2.1 (fun x hx => by
    rcases List.mem_append.1 hx with q | q
    · exact wait_sec (h.2.2.2 x q)
    · exact k _ (addW_mem q)) h.1.2 (by show (d.waits ++ addW a l).length ≤ 600; rw [List.length_append, addW_len]; exact j) (by omega)
theorem waP_sz {d : DDisk} {a : Int} {l : List ByteArray} {r : DDisk} {c : Int} (h : WaP d a l r c) : Rdb.sz r ≤ 2097152 := by
  rcases h with ⟨_, rfl, _⟩ | ⟨_, _, _, rfl, _⟩ | ⟨_, _, _, _, rfl, _⟩ | ⟨h, k, _, j, rfl, _⟩
  · exact (by show (0 : Nat) ≤ _; omega)
  · exact (by show (0 : Nat) ≤ _; omega)
  · exact (by show (0 : Nat) ≤ _; omega)
  · exact sz_bufD h k j
theorem inW_no {n : Nat} {a : Int} {l : List ByteArray} (h : ¬ inW n a l) : 0 < l.length ∧ (a < 0 ∨ (n : Int) - (l.length : Int) < a) := by
  unfold inW at h
  have h1 : l ≠ [] := fun e => h (.inl e)
  have h2 : ¬ (0 ≤ a ∧ a + (l.length : Int) ≤ (n : Int)) := fun e => h (.inr e)
  have := List.length_pos_iff.2 h1
  exact ⟨this, by omega⟩
theorem inW_yes {n : Nat} {a : Int} {l : List ByteArray} (h : inW n a l) : l.length = 0 ∨ (0 ≤ a ∧ a ≤ (n : Int) - (l.length : Int)) := by
  rcases h with h | h
  · exact .inl (by rw [h]; rfl)
  · exact .inr (by omega)
set_option maxRecDepth 100000 in
set_option maxHeartbeats 4000000 in
theorem implWriteAll {cs : List Value} {fr fr2 : Bool} {lo lo2 : Nat} (d : DDisk) (a : Int) (l : List ByteArray) (al : Option Addr) (cl : Nat) (R : DDisk) (rc : Int) (hp : WaP d a l R rc) (w : World) (hs : Rdb.sz d ≤ 2097152) (h : Rdb.rd fr lo w cs d) (hll : l.length ≤ 2097152) (hr : Rows fr2 lo2 w al l) :
    Calls Try.prog 30 #[.agg cs.toArray, .int .i64 a, .slice al l.length cl] w (AnsK R rc w) := by
  have RD := h
  obtain ⟨a0, c0, a1, c1, rfl, f0, g0, f1, g1⟩ := shape_Disk h
  have L := Lib.hid (chain (lay w (.cells #[.slice a0 d.sectors.length c0, .slice a1 d.waits.length c1] 30)) (lay _ (.cells #[.slice none 0 0, .slice none 0 0] 30)))
  have X := Lib.hid ((BxN.new w #[.slice a0 d.sectors.length c0, .slice a1 d.waits.length c1] 30).later (lay _ (.cells #[.slice none 0 0, .slice none 0 0] 30)))
  have Y0 := BxN.new (w.alloc (.cells #[.slice a0 d.sectors.length c0, .slice a1 d.waits.length c1] 30)) #[.slice none 0 0, .slice none 0 0] 30
  rw [World.size_alloc] at Y0
  have Y := Lib.hid Y0
  have x0 := X.out.cells 0 _ rfl
  have x1 := X.out.cells 1 _ rfl
  have SZ := Lib.hid (show ((w.alloc (.cells #[.slice a0 d.sectors.length c0, .slice a1 d.waits.length c1] 30)).alloc (.cells #[.slice none 0 0, .slice none 0 0] 30)).heap.size = w.heap.size + 1 + 1 from by simp)
  have RW := Lib.hid (rd_rw2 f0 f1)
  have C := Lib.hid (implDiskOk d _ hs (Rdb.below RD L.out))
  have C2 := Lib.hid (fun w' (b : Below w.heap.size w w') => sectorsOk al cl l w' (by omega) (hr.below b))
  have HR := Lib.hid (fun w' (b : Below w.heap.size w w') => hr.below b)
  clear Y0 f0 f1 h RD hr
  rcases hp with ⟨hk, rfl, rfl⟩ | ⟨hk, hl, hi, rfl, rfl⟩ | ⟨hk, hl, hi, hj, rfl, rfl⟩ | ⟨hk, hl, hi, hj, rfl, rfl⟩
  · have HK := Lib.hid hk
    clear hk
    go_enter Try.func30, Try.ntmps30
    go_wp2_with fail
    refine C.out.mono ?_
    rintro e w1 ⟨b, rfl, hb, b1⟩
    have B1 := Lib.hid (chainX w L.out b1)
    have X1 := Lib.hid (X.out.later b1)
    have Y1 := Lib.hid (Y.out.later b1)
    have x2 := X1.out.cells 0 _ rfl
    have x3 := X1.out.cells 1 _ rfl
    have HBB := Lib.hid hb
    clear b1 hb x0 x1
    cases b
    · clear HBB
      have y0 := Y1.out.cells 0 _ rfl
      have y1 := Y1.out.cells 1 _ rfl
      have z0 := Y1.out.free 0
      have z1 := Y1.out.free 1
      have F := Lib.hid (ansK_zero 1 (((B1.out.setCell (p := ⟨w.heap.size + 1, 0, none⟩) (by show _ ≤ w.heap.size + 1; omega) (.slice none 0 0)).setCell (p := ⟨w.heap.size + 1, 1, none⟩) (by show _ ≤ w.heap.size + 1; omega) (.slice none 0 0))))
      go_wp2
      exact bodyPost_ret (v := .tuple #[.agg #[.slice none 0 0, .slice none 0 0], .int .i64 1]) (by simp [results, Try.results30, go_sem, *]) rfl F.out
    · have HD := Lib.hid (HBB.out.1 rfl)
      clear HBB
      go_wp2_with fail
      refine (C2.out _ B1.out).mono ?_
      rintro e w2 ⟨b, rfl, hb, b2⟩
      have B2 := Lib.hid (chainX w B1.out b2)
      have X2 := Lib.hid (X1.out.later b2)
      have Y2 := Lib.hid (Y1.out.later b2)
      clear x2 x3
      have x2 := X2.out.cells 0 _ rfl
      have x3 := X2.out.cells 1 _ rfl
      have HB2 := Lib.hid hb
      clear b2 hb
      cases b
      · clear HB2
        have y0 := Y2.out.cells 0 _ rfl
        have y1 := Y2.out.cells 1 _ rfl
        have z0 := Y2.out.free 0
        have z1 := Y2.out.free 1
        have F := Lib.hid (ansK_zero 1 (((B2.out.setCell (p := ⟨w.heap.size + 1, 0, none⟩) (by show _ ≤ w.heap.size + 1; omega) (.slice none 0 0)).setCell (p := ⟨w.heap.size + 1, 1, none⟩) (by show _ ≤ w.heap.size + 1; omega) (.slice none 0 0))))
        go_wp2
        exact bodyPost_ret (v := .tuple #[.agg #[.slice none 0 0, .slice none 0 0], .int .i64 1]) (by simp [results, Try.results30, go_sem, *]) rfl F.out
      · exact absurd ⟨HD.out, HB2.out.1 rfl⟩ HK.out
  · have HK := Lib.hid hk
    have HL := Lib.hid hl
    obtain ⟨i0, i1⟩ := inW_no hi
    have hn : d.sectors.length ≤ 1000000 := (dok_lens hk).1
    have WR : IntKind.i64.wrap ((d.sectors.length : Int) - (l.length : Int)) = (d.sectors.length : Int) - (l.length : Int) := by rw [IntKind.wrap_i64]; omega
    have dl : decide ((0 : Int) < (l.length : Int)) = true := decide_eq_true (by omega)
    have dl2 : decide (0 < l.length) = true := decide_eq_true (by omega)
    clear hk hl hi
    by_cases q : a < 0
    · have q' : decide (a < 0) = true := decide_eq_true q
      clear i1 q
      go_enter Try.func30, Try.ntmps30
      go_wp2_with fail
      refine C.out.mono ?_
      rintro e w1 ⟨b, rfl, hb, b1⟩
      have B1 := Lib.hid (chainX w L.out b1)
      have X1 := Lib.hid (X.out.later b1)
      have Y1 := Lib.hid (Y.out.later b1)
      have x2 := X1.out.cells 0 _ rfl
      have x3 := X1.out.cells 1 _ rfl
      have HBB := Lib.hid hb
      clear b1 hb x0 x1
      cases b
      · have := HBB.out.2 HK.out; cases this
      go_wp2_with fail
      refine (C2.out _ B1.out).mono ?_
      rintro e w2 ⟨b, rfl, hb, b2⟩
      have B2 := Lib.hid (chainX w B1.out b2)
      have X2 := Lib.hid (X1.out.later b2)
      have Y2 := Lib.hid (Y1.out.later b2)
      clear x2 x3
      have x2 := X2.out.cells 0 _ rfl
      have x3 := X2.out.cells 1 _ rfl
      have HB2 := Lib.hid hb
      clear b2 hb
      cases b
      · have := HB2.out.2 HL.out; cases this
      have y0 := Y2.out.cells 0 _ rfl
      have y1 := Y2.out.cells 1 _ rfl
      have z0 := Y2.out.free 0
      have z1 := Y2.out.free 1
      have F := Lib.hid (ansK_zero 2 (((B2.out.setCell (p := ⟨w.heap.size + 1, 0, none⟩) (by show _ ≤ w.heap.size + 1; omega) (.slice none 0 0)).setCell (p := ⟨w.heap.size + 1, 1, none⟩) (by show _ ≤ w.heap.size + 1; omega) (.slice none 0 0))))
      go_wp2
      exact bodyPost_ret (v := .tuple #[.agg #[.slice none 0 0, .slice none 0 0], .int .i64 2]) (by simp [results, Try.results30, go_sem, *]) rfl F.out
    · have q' : decide (a < 0) = false := decide_eq_false q
      have r' : decide ((d.sectors.length : Int) - (l.length : Int) < a) = true := decide_eq_true (i1.resolve_left q)
      clear i1 q
      go_enter Try.func30, Try.ntmps30
      go_wp2_with fail
      refine C.out.mono ?_
      rintro e w1 ⟨b, rfl, hb, b1⟩
      have B1 := Lib.hid (chainX w L.out b1)
      have X1 := Lib.hid (X.out.later b1)
      have Y1 := Lib.hid (Y.out.later b1)
      have x2 := X1.out.cells 0 _ rfl
      have x3 := X1.out.cells 1 _ rfl
      have HBB := Lib.hid hb
      clear b1 hb x0 x1
      cases b
      · have := HBB.out.2 HK.out; cases this
      go_wp2_with fail
      refine (C2.out _ B1.out).mono ?_
      rintro e w2 ⟨b, rfl, hb, b2⟩
      have B2 := Lib.hid (chainX w B1.out b2)
      have X2 := Lib.hid (X1.out.later b2)
      have Y2 := Lib.hid (Y1.out.later b2)
      clear x2 x3
      have x2 := X2.out.cells 0 _ rfl
      have x3 := X2.out.cells 1 _ rfl
      have HB2 := Lib.hid hb
      clear b2 hb
      cases b
      · have := HB2.out.2 HL.out; cases this
      have y0 := Y2.out.cells 0 _ rfl
      have y1 := Y2.out.cells 1 _ rfl
      have z0 := Y2.out.free 0
      have z1 := Y2.out.free 1
      have F := Lib.hid (ansK_zero 2 (((B2.out.setCell (p := ⟨w.heap.size + 1, 0, none⟩) (by show _ ≤ w.heap.size + 1; omega) (.slice none 0 0)).setCell (p := ⟨w.heap.size + 1, 1, none⟩) (by show _ ≤ w.heap.size + 1; omega) (.slice none 0 0))))
      go_wp2
      exact bodyPost_ret (v := .tuple #[.agg #[.slice none 0 0, .slice none 0 0], .int .i64 2]) (by simp [results, Try.results30, go_sem, *]) rfl F.out
  · have HK := Lib.hid hk
    have HL := Lib.hid hl
    have hn : d.sectors.length ≤ 1000000 := (dok_lens hk).1
    have hm : d.waits.length ≤ 1000000 := (dok_lens hk).2
    have WR : IntKind.i64.wrap ((d.sectors.length : Int) - (l.length : Int)) = (d.sectors.length : Int) - (l.length : Int) := by rw [IntKind.wrap_i64]; omega
    have WS : IntKind.i64.wrap ((d.waits.length : Int) + (l.length : Int)) = (d.waits.length : Int) + (l.length : Int) := by rw [IntKind.wrap_i64]; omega
    have dj : decide ((600 : Int) < (d.waits.length : Int) + (l.length : Int)) = true := decide_eq_true (by omega)
    rcases inW_yes hi with e | ⟨i0, i1⟩
    · have dl : decide ((0 : Int) < (l.length : Int)) = false := decide_eq_false (by omega)
      have dl2 : decide (0 < l.length) = false := decide_eq_false (by omega)
      clear hk hl hi e
      go_enter Try.func30, Try.ntmps30
      go_wp2_with fail
      refine C.out.mono ?_
      rintro e w1 ⟨b, rfl, hb, b1⟩
      have B1 := Lib.hid (chainX w L.out b1)
      have X1 := Lib.hid (X.out.later b1)
      have Y1 := Lib.hid (Y.out.later b1)
      have x2 := X1.out.cells 0 _ rfl
      have x3 := X1.out.cells 1 _ rfl
      have HBB := Lib.hid hb
      clear b1 hb x0 x1
      cases b
      · have := HBB.out.2 HK.out; cases this
      go_wp2_with fail
      refine (C2.out _ B1.out).mono ?_
      rintro e w2 ⟨b, rfl, hb, b2⟩
      have B2 := Lib.hid (chainX w B1.out b2)
      have X2 := Lib.hid (X1.out.later b2)
      have Y2 := Lib.hid (Y1.out.later b2)
      clear x2 x3
      have x2 := X2.out.cells 0 _ rfl
      have x3 := X2.out.cells 1 _ rfl
      have HB2 := Lib.hid hb
      clear b2 hb
      cases b
      · have := HB2.out.2 HL.out; cases this
      have y0 := Y2.out.cells 0 _ rfl
      have y1 := Y2.out.cells 1 _ rfl
      have z0 := Y2.out.free 0
      have z1 := Y2.out.free 1
      have F := Lib.hid (ansK_zero 4 (((B2.out.setCell (p := ⟨w.heap.size + 1, 0, none⟩) (by show _ ≤ w.heap.size + 1; omega) (.slice none 0 0)).setCell (p := ⟨w.heap.size + 1, 1, none⟩) (by show _ ≤ w.heap.size + 1; omega) (.slice none 0 0))))
      go_wp2
      exact bodyPost_ret (v := .tuple #[.agg #[.slice none 0 0, .slice none 0 0], .int .i64 4]) (by simp [results, Try.results30, go_sem, *]) rfl F.out
    · have q' : decide (a < 0) = false := decide_eq_false (by omega)
      have r' : decide ((d.sectors.length : Int) - (l.length : Int) < a) = false := decide_eq_false (by omega)
      by_cases e : 0 < l.length
      · have dl : decide ((0 : Int) < (l.length : Int)) = true := decide_eq_true (by omega)
        have dl2 : decide (0 < l.length) = true := decide_eq_true e
        clear hk hl hi e i0 i1
        go_enter Try.func30, Try.ntmps30
        go_wp2_with fail
        refine C.out.mono ?_
        rintro e w1 ⟨b, rfl, hb, b1⟩
        have B1 := Lib.hid (chainX w L.out b1)
        have X1 := Lib.hid (X.out.later b1)
        have Y1 := Lib.hid (Y.out.later b1)
        have x2 := X1.out.cells 0 _ rfl
        have x3 := X1.out.cells 1 _ rfl
        have HBB := Lib.hid hb
        clear b1 hb x0 x1
        cases b
        · have := HBB.out.2 HK.out; cases this
        go_wp2_with fail
        refine (C2.out _ B1.out).mono ?_
        rintro e w2 ⟨b, rfl, hb, b2⟩
        have B2 := Lib.hid (chainX w B1.out b2)
        have X2 := Lib.hid (X1.out.later b2)
        have Y2 := Lib.hid (Y1.out.later b2)
        clear x2 x3
        have x2 := X2.out.cells 0 _ rfl
        have x3 := X2.out.cells 1 _ rfl
        have HB2 := Lib.hid hb
        clear b2 hb
        cases b
        · have := HB2.out.2 HL.out; cases this
        have y0 := Y2.out.cells 0 _ rfl
        have y1 := Y2.out.cells 1 _ rfl
        have z0 := Y2.out.free 0
        have z1 := Y2.out.free 1
        have F := Lib.hid (ansK_zero 4 (((B2.out.setCell (p := ⟨w.heap.size + 1, 0, none⟩) (by show _ ≤ w.heap.size + 1; omega) (.slice none 0 0)).setCell (p := ⟨w.heap.size + 1, 1, none⟩) (by show _ ≤ w.heap.size + 1; omega) (.slice none 0 0))))
        go_wp2
        exact bodyPost_ret (v := .tuple #[.agg #[.slice none 0 0, .slice none 0 0], .int .i64 4]) (by simp [results, Try.results30, go_sem, *]) rfl F.out
      · have dl : decide ((0 : Int) < (l.length : Int)) = false := decide_eq_false (by omega)
        have dl2 : decide (0 < l.length) = false := decide_eq_false e
        clear hk hl hi e i0 i1
        go_enter Try.func30, Try.ntmps30
        go_wp2_with fail
        refine C.out.mono ?_
        rintro e w1 ⟨b, rfl, hb, b1⟩
        have B1 := Lib.hid (chainX w L.out b1)
        have X1 := Lib.hid (X.out.later b1)
        have Y1 := Lib.hid (Y.out.later b1)
        have x2 := X1.out.cells 0 _ rfl
        have x3 := X1.out.cells 1 _ rfl
        have HBB := Lib.hid hb
        clear b1 hb x0 x1
        cases b
        · have := HBB.out.2 HK.out; cases this
        go_wp2_with fail
        refine (C2.out _ B1.out).mono ?_
        rintro e w2 ⟨b, rfl, hb, b2⟩
        have B2 := Lib.hid (chainX w B1.out b2)
        have X2 := Lib.hid (X1.out.later b2)
        have Y2 := Lib.hid (Y1.out.later b2)
        clear x2 x3
        have x2 := X2.out.cells 0 _ rfl
        have x3 := X2.out.cells 1 _ rfl
        have HB2 := Lib.hid hb
        clear b2 hb
        cases b
        · have := HB2.out.2 HL.out; cases this
        have y0 := Y2.out.cells 0 _ rfl
        have y1 := Y2.out.cells 1 _ rfl
        have z0 := Y2.out.free 0
        have z1 := Y2.out.free 1
        have F := Lib.hid (ansK_zero 4 (((B2.out.setCell (p := ⟨w.heap.size + 1, 0, none⟩) (by show _ ≤ w.heap.size + 1; omega) (.slice none 0 0)).setCell (p := ⟨w.heap.size + 1, 1, none⟩) (by show _ ≤ w.heap.size + 1; omega) (.slice none 0 0))))
        go_wp2
        exact bodyPost_ret (v := .tuple #[.agg #[.slice none 0 0, .slice none 0 0], .int .i64 4]) (by simp [results, Try.results30, go_sem, *]) rfl F.out
  · have HK := Lib.hid hk
    have HL := Lib.hid hl
    have hn : d.sectors.length ≤ 1000000 := (dok_lens hk).1
    have hm : d.waits.length ≤ 1000000 := (dok_lens hk).2
    have WR : IntKind.i64.wrap ((d.sectors.length : Int) - (l.length : Int)) = (d.sectors.length : Int) - (l.length : Int) := by rw [IntKind.wrap_i64]; omega
    have WS : IntKind.i64.wrap ((d.waits.length : Int) + (l.length : Int)) = (d.waits.length : Int) + (l.length : Int) := by rw [IntKind.wrap_i64]; omega
    have dj : decide ((600 : Int) < (d.waits.length : Int) + (l.length : Int)) = false := decide_eq_false (by omega)
    have CB := Lib.hid (fun w' (b : Below w.heap.size w w') => implBuffered d a l a0 c0 a1 c1 al cl w' (by have := hk.1; omega) (by have := hk.2.1; omega) (by omega) (by
      rcases hi with z | z
      · exact .inl z
      · exact .inr (by have := hk.1; omega)) (RW.out.below b) (HR.out w' b))
    rcases inW_yes hi with e | ⟨i0, i1⟩
    · have dl : decide ((0 : Int) < (l.length : Int)) = false := decide_eq_false (by omega)
      have dl2 : decide (0 < l.length) = false := decide_eq_false (by omega)
      clear hk hl hi e
      go_enter Try.func30, Try.ntmps30
      go_wp2_with fail
      refine C.out.mono ?_
      rintro e w1 ⟨b, rfl, hb, b1⟩
      have B1 := Lib.hid (chainX w L.out b1)
      have X1 := Lib.hid (X.out.later b1)
      have Y1 := Lib.hid (Y.out.later b1)
      have x2 := X1.out.cells 0 _ rfl
      have x3 := X1.out.cells 1 _ rfl
      have HBB := Lib.hid hb
      clear b1 hb x0 x1
      cases b
      · have := HBB.out.2 HK.out; cases this
      go_wp2_with fail
      refine (C2.out _ B1.out).mono ?_
      rintro e w2 ⟨b, rfl, hb, b2⟩
      have B2 := Lib.hid (chainX w B1.out b2)
      have X2 := Lib.hid (X1.out.later b2)
      have Y2 := Lib.hid (Y1.out.later b2)
      clear x2 x3
      have x2 := X2.out.cells 0 _ rfl
      have x3 := X2.out.cells 1 _ rfl
      have HB2 := Lib.hid hb
      clear b2 hb
      cases b
      · have := HB2.out.2 HL.out; cases this
      go_wp2_with fail
      refine (CB.out _ B2.out).mono ?_
      rintro e w3 ⟨p0, k0, p1, k1, rfl, o, ll, b3⟩
      have F := Lib.hid (AnsKD.liftK (rc := 0) (v0 := .slice p0 (bufD d a l).sectors.length k0) (v1 := .slice p1 (bufD d a l).waits.length k1) (y := w.heap.size + 1) B2.out (⟨p0, k0, p1, k1, rfl, o, ll, b3⟩ : AnsKD (bufD d a l) w2 (.returned (.agg #[.slice p0 (bufD d a l).sectors.length k0, .slice p1 (bufD d a l).waits.length k1])) w3) (by omega) (by have := Y2.out.lt; exact this))
      have Y3 := Y2.out.later b3
      have y0 := Y3.cells 0 _ rfl
      have y1 := Y3.cells 1 _ rfl
      have z0 := Y3.free 0
      have z1 := Y3.free 1
      clear o ll b3 Y3 x2 x3
      go_wp2
      exact bodyPost_ret (v := .tuple #[.agg #[.slice p0 (bufD d a l).sectors.length k0, .slice p1 (bufD d a l).waits.length k1], .int .i64 0]) (by simp [results, Try.results30, go_sem, *]) rfl F.out
    · have q' : decide (a < 0) = false := decide_eq_false (by omega)
      have r' : decide ((d.sectors.length : Int) - (l.length : Int) < a) = false := decide_eq_false (by omega)
      by_cases e : 0 < l.length
      · have dl : decide ((0 : Int) < (l.length : Int)) = true := decide_eq_true (by omega)
        have dl2 : decide (0 < l.length) = true := decide_eq_true e
        clear hk hl hi e i0 i1
        go_enter Try.func30, Try.ntmps30
        go_wp2_with fail
        refine C.out.mono ?_
        rintro e w1 ⟨b, rfl, hb, b1⟩
        have B1 := Lib.hid (chainX w L.out b1)
        have X1 := Lib.hid (X.out.later b1)
        have Y1 := Lib.hid (Y.out.later b1)
        have x2 := X1.out.cells 0 _ rfl
        have x3 := X1.out.cells 1 _ rfl
        have HBB := Lib.hid hb
        clear b1 hb x0 x1
        cases b
        · have := HBB.out.2 HK.out; cases this
        go_wp2_with fail
        refine (C2.out _ B1.out).mono ?_
        rintro e w2 ⟨b, rfl, hb, b2⟩
        have B2 := Lib.hid (chainX w B1.out b2)
        have X2 := Lib.hid (X1.out.later b2)
        have Y2 := Lib.hid (Y1.out.later b2)
        clear x2 x3
        have x2 := X2.out.cells 0 _ rfl
        have x3 := X2.out.cells 1 _ rfl
        have HB2 := Lib.hid hb
        clear b2 hb
        cases b
        · have := HB2.out.2 HL.out; cases this
        go_wp2_with fail
        refine (CB.out _ B2.out).mono ?_
        rintro e w3 ⟨p0, k0, p1, k1, rfl, o, ll, b3⟩
        have F := Lib.hid (AnsKD.liftK (rc := 0) (v0 := .slice p0 (bufD d a l).sectors.length k0) (v1 := .slice p1 (bufD d a l).waits.length k1) (y := w.heap.size + 1) B2.out (⟨p0, k0, p1, k1, rfl, o, ll, b3⟩ : AnsKD (bufD d a l) w2 (.returned (.agg #[.slice p0 (bufD d a l).sectors.length k0, .slice p1 (bufD d a l).waits.length k1])) w3) (by omega) (by have := Y2.out.lt; exact this))
        have Y3 := Y2.out.later b3
        have y0 := Y3.cells 0 _ rfl
        have y1 := Y3.cells 1 _ rfl
        have z0 := Y3.free 0
        have z1 := Y3.free 1
        clear o ll b3 Y3 x2 x3
        go_wp2
        exact bodyPost_ret (v := .tuple #[.agg #[.slice p0 (bufD d a l).sectors.length k0, .slice p1 (bufD d a l).waits.length k1], .int .i64 0]) (by simp [results, Try.results30, go_sem, *]) rfl F.out
      · have dl : decide ((0 : Int) < (l.length : Int)) = false := decide_eq_false (by omega)
        have dl2 : decide (0 < l.length) = false := decide_eq_false e
        clear hk hl hi e i0 i1
        go_enter Try.func30, Try.ntmps30
        go_wp2_with fail
        refine C.out.mono ?_
        rintro e w1 ⟨b, rfl, hb, b1⟩
        have B1 := Lib.hid (chainX w L.out b1)
        have X1 := Lib.hid (X.out.later b1)
        have Y1 := Lib.hid (Y.out.later b1)
        have x2 := X1.out.cells 0 _ rfl
        have x3 := X1.out.cells 1 _ rfl
        have HBB := Lib.hid hb
        clear b1 hb x0 x1
        cases b
        · have := HBB.out.2 HK.out; cases this
        go_wp2_with fail
        refine (C2.out _ B1.out).mono ?_
        rintro e w2 ⟨b, rfl, hb, b2⟩
        have B2 := Lib.hid (chainX w B1.out b2)
        have X2 := Lib.hid (X1.out.later b2)
        have Y2 := Lib.hid (Y1.out.later b2)
        clear x2 x3
        have x2 := X2.out.cells 0 _ rfl
        have x3 := X2.out.cells 1 _ rfl
        have HB2 := Lib.hid hb
        clear b2 hb
        cases b
        · have := HB2.out.2 HL.out; cases this
        go_wp2_with fail
        refine (CB.out _ B2.out).mono ?_
        rintro e w3 ⟨p0, k0, p1, k1, rfl, o, ll, b3⟩
        have F := Lib.hid (AnsKD.liftK (rc := 0) (v0 := .slice p0 (bufD d a l).sectors.length k0) (v1 := .slice p1 (bufD d a l).waits.length k1) (y := w.heap.size + 1) B2.out (⟨p0, k0, p1, k1, rfl, o, ll, b3⟩ : AnsKD (bufD d a l) w2 (.returned (.agg #[.slice p0 (bufD d a l).sectors.length k0, .slice p1 (bufD d a l).waits.length k1])) w3) (by omega) (by have := Y2.out.lt; exact this))
        have Y3 := Y2.out.later b3
        have y0 := Y3.cells 0 _ rfl
        have y1 := Y3.cells 1 _ rfl
        have z0 := Y3.free 0
        have z1 := Y3.free 1
        clear o ll b3 Y3 x2 x3
        go_wp2
        exact bodyPost_ret (v := .tuple #[.agg #[.slice p0 (bufD d a l).sectors.length k0, .slice p1 (bufD d a l).waits.length k1], .int .i64 0]) (by simp [results, Try.results30, go_sem, *]) rfl F.out
end Go.Proofs.Ytpafhbnjefdhjaa.Rd
