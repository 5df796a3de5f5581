/-
  WriteAll in the model.
-/
import Derived.Test.YtpafhbnjefdhjaaDkW
import Derived.Test.YtpafhbnjefdhjaaDkR
import Derived.Deep.RegionLaw
namespace Go.Proofs.Ytpafhbnjefdhjaa.Rd
open Go.RowKit Go.ChangeShapes Go.WideShapes Go.Proofs.Ytpafhbnjefdhjaa.GfI Go.Proofs.Ytpafhbnjefdhjaa.GfS
open Go.Proofs.Ytpafhbnjefdhjaa.Sg (BxN)
set_option linter.unusedVariables false
set_option linter.unusedSimpArgs false

/-- The elements' type of a block. -/
def TyB (w : World) (b : Nat) (T : TypeId) : Prop := ∃ c f, w.heap[b]? = some (.cells c T f)
theorem TyB.new (w : World) (c : Array Value) (T : TypeId) : TyB (w.alloc (.cells c T)) w.heap.size T := ⟨c, _, heap_alloc_new w _⟩
theorem TyB.lt {w : World} {b : Nat} {T : TypeId} (h : TyB w b T) : b < w.heap.size := by
  obtain ⟨c, f, e⟩ := h
  rcases Nat.lt_or_ge b w.heap.size with q | q
  · exact q
  · rw [Array.getElem?_eq_none q] at e; cases e
theorem TyB.later {w w' : World} {b : Nat} {T : TypeId} (h : TyB w b T) (k : Below w.heap.size w w') : TyB w' b T := by
  have hl := h.lt
  obtain ⟨c, f, e⟩ := h
  exact ⟨c, f, (k.block b hl).trans e⟩
theorem TyB.grown {w w' : World} {b : Nat} {T : TypeId} {row : Option Nat} (h : TyB w b T) (g : w.grownBy w' row) (hne : some b ≠ row) : TyB w' b T := by
  have hl := h.lt
  obtain ⟨c, f, e⟩ := h
  exact ⟨c, f, (g.block b hl hne).trans e⟩
theorem TyB.set {w : World} {b : Nat} {T : TypeId} (h : TyB w b T) (p : Addr) (v : Value) : TyB (w.setCell p v) b T := by
  obtain ⟨c, f, e⟩ := h
  by_cases q : p.block = b
  · subst q
    refine ⟨if p.spot.isSome then c else c.setIfInBounds p.off v, f, ?_⟩
    unfold World.setCell
    rw [Array.getElem?_modify, if_pos rfl, e]; rfl
  · exact ⟨c, f, by rw [heap_setCell_other w p b v (fun h => q h.symm)]; exact e⟩
theorem own_neT {α : Type} [Rdb α] [Enc α] {E T : TypeId} {B b : Nat} {w : World} {v : Value} {l : List α} (h : OwnL E B w v l) (k : TyB w b T) (ne : E ≠ T) : some b ≠ v.ownBlock := by
  intro e
  obtain ⟨c, f, hb⟩ := k
  rcases h.1.2 with ⟨rfl, _⟩ | ⟨g, cap, cur, rfl, _, hg, _⟩
  · cases e
  · obtain rfl : b = g := by cases e; rfl
    rw [hb] at hg
    simp only [Option.some.injEq, Obj.cells.injEq] at hg
    exact ne hg.2.1.symm
theorem OwnL.setT {α : Type} [Rdb α] [Enc α] {E T : TypeId} {B : Nat} {w : World} {v : Value} {l : List α} (h : OwnL E B w v l) (p : Addr) (u : Value) (k : TyB w p.block T) (ne : E ≠ T) : OwnL E B (w.setCell p u) v l :=
  h.heap (fun g e => heap_setCell_other w p g u (fun q => own_neT h k ne (by rw [← q]; exact e.symm)))
theorem BxN.grown {w w' : World} {b : Nat} {vs : List Value} {row : Option Nat} (h : Sg.BxN w b vs) (g : w.grownBy w' row) (hne : some b ≠ row) : Sg.BxN w' b vs :=
  ⟨Nat.lt_of_lt_of_le h.lt g.size, fun i v hv => g.cell (h.cells i v hv) hne, fun i => (World.frozen?_of_block (a := ⟨b, i, none⟩) (g.block b h.lt hne)).trans (h.free i)⟩
theorem AnsKR.zero {w w' : World} (rc : Int) (b : Below w.heap.size w w') : AnsKR zeroD rc w (.returned (.tuple #[.agg #[.slice none 0 0, .slice none 0 0], .int .i64 rc])) w' := (ansK_zero rc b).r
set_option maxRecDepth 100000 in
set_option maxHeartbeats 4000000 in
theorem specWriteAll {cs : List Value} {fr fr2 : Bool} {lo lo2 : Nat} (d : DDisk) (a : Int) (l : List ByteArray) (al : Option Addr) (cl : Nat) (R : DDisk) (rc : Int) (hp : WaP d a l R rc) (w : World) (hs : Rdb.sz d ≤ 2097152) (h : Rdb.rd fr lo w cs d) (hll : l.length ≤ 2097152) (hr : Rows fr2 lo2 w al l) :
    Calls Try.prog 28 #[.agg cs.toArray, .int .i64 a, .slice al l.length cl] w (AnsKR R rc w) := by
  have RD := h
  obtain ⟨a0, c0, a1, c1, rfl, f0, g0, f1, g1⟩ := shape_Disk h
  have L := Lib.hid (chain (lay w (.cells #[.slice a0 d.sectors.length c0, .slice a1 d.waits.length c1] 30)) (lay _ (.cells #[.slice none 0 0, .slice none 0 0] 30)))
  have X := Lib.hid ((BxN.new w #[.slice a0 d.sectors.length c0, .slice a1 d.waits.length c1] 30).later (lay _ (.cells #[.slice none 0 0, .slice none 0 0] 30)))
  have Y0 := BxN.new (w.alloc (.cells #[.slice a0 d.sectors.length c0, .slice a1 d.waits.length c1] 30)) #[.slice none 0 0, .slice none 0 0] 30
  rw [World.size_alloc] at Y0
  have Y := Lib.hid Y0
  have x0 := X.out.cells 0 _ rfl
  have x1 := X.out.cells 1 _ rfl
  have SZ := Lib.hid (show ((w.alloc (.cells #[.slice a0 d.sectors.length c0, .slice a1 d.waits.length c1] 30)).alloc (.cells #[.slice none 0 0, .slice none 0 0] 30)).heap.size = w.heap.size + 1 + 1 from by simp)
  have RW := Lib.hid (rd_rw2 f0 f1)
  have C := Lib.hid (specDiskOk d _ hs (Rdb.below RD L.out))
  have HR := Lib.hid (fun w' (b : Below w.heap.size w w') => hr.below b)
  have GL := Lib.hid (fun k (h : k < l.length) => get_lt h)
  have CH := Lib.hid (fun w' => l14Has d.sectors.length d.waits.length a0 a1 c0 c1 a w' g0.1)
  clear Y0 f0 f1 h RD hr
  rcases hp with ⟨hk, rfl, rfl⟩ | ⟨hk, hl, hi, rfl, rfl⟩ | ⟨hk, hl, hi, hj, rfl, rfl⟩ | ⟨hk, hl, hi, hj, rfl, rfl⟩
  · have HK := Lib.hid hk
    clear hk
    go_enter Try.func28, Try.ntmps28
    go_wp2_with fail
    refine C.out.mono ?_
    rintro e w1 ⟨b, rfl, hb, b1⟩
    have B1 := Lib.hid (chainX w L.out b1)
    have X1 := Lib.hid (X.out.later b1)
    have Y1 := Lib.hid (Y.out.later b1)
    have HBB := Lib.hid hb
    clear b1 hb x0 x1
    cases b
    · clear HBB
      have y0 := Y1.out.cells 0 _ rfl
      have y1 := Y1.out.cells 1 _ rfl
      have z0 := Y1.out.free 0
      have z1 := Y1.out.free 1
      have F := Lib.hid (AnsKR.zero 1 (((B1.out.setCell (p := ⟨w.heap.size + 1, 0, none⟩) (by show _ ≤ w.heap.size + 1; omega) (.slice none 0 0)).setCell (p := ⟨w.heap.size + 1, 1, none⟩) (by show _ ≤ w.heap.size + 1; omega) (.slice none 0 0))))
      go_wp2
      exact bodyPost_ret (v := .tuple #[.agg #[.slice none 0 0, .slice none 0 0], .int .i64 1]) (by simp [results, Try.results28, go_sem, *]) rfl F.out
    · have HD := Lib.hid (HBB.out.1 rfl)
      clear HBB
      go_wp2
      go_loopw [8] (fun i wr => ∃ k : Nat, k ≤ l.length ∧ i = .int .i64 k ∧ (∀ i s, i < k → l[i]? = some s → sec s = true) ∧ Below w.heap.size w wr ∧ BxN wr w.heap.size [.slice a0 d.sectors.length c0, .slice a1 d.waits.length c1] ∧ BxN wr (w.heap.size + 1) [.slice none 0 0, .slice none 0 0]) (fun i _ => l.length - (intOf i).toNat)
      case atStart => exact ⟨0, by omega, rfl, fun i x hi => absurd hi (Nat.not_lt_zero _), B1.out, X1.out, Y1.out⟩
      case round =>
        obtain ⟨k, hk, rfl, ha, hw, hx, hy⟩ := hrel
        have HA := Lib.hid ha
        have HW := Lib.hid hw
        have HX := Lib.hid hx
        have HY := Lib.hid hy
        clear ha hx hy
        by_cases hlt : k < l.length
        · obtain ⟨s, hs⟩ := GL.out k hlt
          obtain ⟨b, off, cs, rfl, -, hB, ⟨rfl, hz⟩, hcc⟩ := (HR.out _ hw).at' hs
          have c0' : wr.cell? ⟨b, off + k, none⟩ = some (.string s) := by have := hcc 0 _ rfl; rwa [show off + k * Rdb.size ByteArray + 0 = off + k from by show off + k * 1 + 0 = _; omega] at this
          have HX2 := Lib.hid hs
          clear hcc hw hs
          by_cases q : s.size = 64
          · have q2 : ((s.size : Int) != 64) = false := by simp; omega
            have HN := Lib.hid (show ∀ i s, i < k + 1 → l[i]? = some s → sec s = true from fun i s hi hs => by
              by_cases e : i = k
              · subst e; rw [HX2.out] at hs; cases hs; exact decide_eq_true q
              · exact HA.out i s (by omega) hs)
            clear q
            go_wp2
            go_roundw
            case rel => exact ⟨k + 1, by omega, by go_num, HN.out, HW.out, HX.out, HY.out⟩
            case measure => simp [intOf]; omega
          · have q2 : ((s.size : Int) != 64) = true := by simp; omega
            have y0 := HY.out.cells 0 _ rfl
            have y1 := HY.out.cells 1 _ rfl
            have z0 := HY.out.free 0
            have z1 := HY.out.free 1
            have F := Lib.hid (AnsKR.zero 1 (((HW.out.setCell (p := ⟨w.heap.size + 1, 0, none⟩) (by show _ ≤ w.heap.size + 1; omega) (.slice none 0 0)).setCell (p := ⟨w.heap.size + 1, 1, none⟩) (by show _ ≤ w.heap.size + 1; omega) (.slice none 0 0))))
            go_wp2
            exact bodyPost_ret (v := .tuple #[.agg #[.slice none 0 0, .slice none 0 0], .int .i64 1]) (by simp [results, Try.results28, go_sem, *]) rfl F.out
        · obtain rfl : k = l.length := by omega
          clear hw
          exact absurd ⟨HD.out, fun s hs => by
            obtain ⟨i, hi, rfl⟩ := List.getElem_of_mem hs
            exact HA.out i _ hi (List.getElem?_eq_getElem hi)⟩ HK.out
  · have HK := Lib.hid hk
    have HL := Lib.hid hl
    obtain ⟨i0, i1⟩ := inW_no hi
    have hn : d.sectors.length ≤ 1000000 := (dok_lens hk).1
    have dl : decide ((0 : Int) < (l.length : Int)) = true := decide_eq_true (by omega)
    have dl2 : decide (0 < l.length) = true := decide_eq_true (by omega)
    clear hk hl hi
    cases hin : inD d.sectors.length a
    · rw [hin] at CH
      have CH := Lib.hid CH.out
      clear hin i1
      go_enter Try.func28, Try.ntmps28
      go_wp2_with fail
      refine C.out.mono ?_
      rintro e w1 ⟨b, rfl, hb, b1⟩
      have B1 := Lib.hid (chainX w L.out b1)
      have X1 := Lib.hid (X.out.later b1)
      have Y1 := Lib.hid (Y.out.later b1)
      have HBB := Lib.hid hb
      clear b1 hb x0 x1
      cases b
      · have := HBB.out.2 HK.out; cases this
      clear HBB
      go_wp2
      go_loopw [8] (fun i wr => ∃ k : Nat, k ≤ l.length ∧ i = .int .i64 k ∧ (∀ i s, i < k → l[i]? = some s → sec s = true) ∧ Below w.heap.size w wr ∧ BxN wr w.heap.size [.slice a0 d.sectors.length c0, .slice a1 d.waits.length c1] ∧ BxN wr (w.heap.size + 1) [.slice none 0 0, .slice none 0 0]) (fun i _ => l.length - (intOf i).toNat)
      case atStart => exact ⟨0, by omega, rfl, fun i x hi => absurd hi (Nat.not_lt_zero _), B1.out, X1.out, Y1.out⟩
      case round =>
        obtain ⟨k, hk, rfl, ha, hw, hx, hy⟩ := hrel
        have HA := Lib.hid ha
        have HW := Lib.hid hw
        have HX := Lib.hid hx
        have HY := Lib.hid hy
        clear ha hx hy
        by_cases hlt : k < l.length
        · obtain ⟨s, hs⟩ := GL.out k hlt
          obtain ⟨b, off, cs, rfl, -, hB, ⟨rfl, hz⟩, hcc⟩ := (HR.out _ hw).at' hs
          have c0' : wr.cell? ⟨b, off + k, none⟩ = some (.string s) := by have := hcc 0 _ rfl; rwa [show off + k * Rdb.size ByteArray + 0 = off + k from by show off + k * 1 + 0 = _; omega] at this
          have HX2 := Lib.hid hs
          clear hcc hw hs
          by_cases q : s.size = 64
          · have q2 : ((s.size : Int) != 64) = false := by simp; omega
            have HN := Lib.hid (show ∀ i s, i < k + 1 → l[i]? = some s → sec s = true from fun i s hi hs => by
              by_cases e : i = k
              · subst e; rw [HX2.out] at hs; cases hs; exact decide_eq_true q
              · exact HA.out i s (by omega) hs)
            clear q
            go_wp2
            go_roundw
            case rel => exact ⟨k + 1, by omega, by go_num, HN.out, HW.out, HX.out, HY.out⟩
            case measure => simp [intOf]; omega
          · have q2 : ((s.size : Int) != 64) = true := by simp; omega
            exact absurd (HL.out s (List.mem_of_getElem? HX2.out)) (by unfold sec; rw [decide_eq_false q]; simp)
        · obtain rfl : k = l.length := by omega
          clear hw
          have x2 := HX.out.cells 0 _ rfl
          have x3 := HX.out.cells 1 _ rfl
          go_wp2_with fail
          refine (CH.out _).mono ?_
          rintro e w2 ⟨rfl, b2⟩
          have B2 := Lib.hid (chainX w HW.out b2)
          have X2 := Lib.hid (HX.out.later b2)
          have Y2 := Lib.hid (HY.out.later b2)
          clear x2 x3
          have x2 := X2.out.cells 0 _ rfl
          have x3 := X2.out.cells 1 _ rfl
          have y0 := Y2.out.cells 0 _ rfl
          have y1 := Y2.out.cells 1 _ rfl
          have z0 := Y2.out.free 0
          have z1 := Y2.out.free 1
          have F := Lib.hid (AnsKR.zero 2 (((B2.out.setCell (p := ⟨w.heap.size + 1, 0, none⟩) (by show _ ≤ w.heap.size + 1; omega) (.slice none 0 0)).setCell (p := ⟨w.heap.size + 1, 1, none⟩) (by show _ ≤ w.heap.size + 1; omega) (.slice none 0 0))))
          go_wp2
          exact bodyPost_ret (v := .tuple #[.agg #[.slice none 0 0, .slice none 0 0], .int .i64 2]) (by simp [results, Try.results28, go_sem, *]) rfl F.out
    · obtain ⟨j0, j1⟩ := inD_yes hin
      have WR : IntKind.i64.wrap ((d.sectors.length : Int) - a) = (d.sectors.length : Int) - a := by rw [IntKind.wrap_i64]; omega
      have r' : decide ((d.sectors.length : Int) - a < (l.length : Int)) = true := decide_eq_true (by omega)
      rw [hin] at CH
      have CH := Lib.hid CH.out
      clear hin i1
      go_enter Try.func28, Try.ntmps28
      go_wp2_with fail
      refine C.out.mono ?_
      rintro e w1 ⟨b, rfl, hb, b1⟩
      have B1 := Lib.hid (chainX w L.out b1)
      have X1 := Lib.hid (X.out.later b1)
      have Y1 := Lib.hid (Y.out.later b1)
      have HBB := Lib.hid hb
      clear b1 hb x0 x1
      cases b
      · have := HBB.out.2 HK.out; cases this
      clear HBB
      go_wp2
      go_loopw [8] (fun i wr => ∃ k : Nat, k ≤ l.length ∧ i = .int .i64 k ∧ (∀ i s, i < k → l[i]? = some s → sec s = true) ∧ Below w.heap.size w wr ∧ BxN wr w.heap.size [.slice a0 d.sectors.length c0, .slice a1 d.waits.length c1] ∧ BxN wr (w.heap.size + 1) [.slice none 0 0, .slice none 0 0]) (fun i _ => l.length - (intOf i).toNat)
      case atStart => exact ⟨0, by omega, rfl, fun i x hi => absurd hi (Nat.not_lt_zero _), B1.out, X1.out, Y1.out⟩
      case round =>
        obtain ⟨k, hk, rfl, ha, hw, hx, hy⟩ := hrel
        have HA := Lib.hid ha
        have HW := Lib.hid hw
        have HX := Lib.hid hx
        have HY := Lib.hid hy
        clear ha hx hy
        by_cases hlt : k < l.length
        · obtain ⟨s, hs⟩ := GL.out k hlt
          obtain ⟨b, off, cs, rfl, -, hB, ⟨rfl, hz⟩, hcc⟩ := (HR.out _ hw).at' hs
          have c0' : wr.cell? ⟨b, off + k, none⟩ = some (.string s) := by have := hcc 0 _ rfl; rwa [show off + k * Rdb.size ByteArray + 0 = off + k from by show off + k * 1 + 0 = _; omega] at this
          have HX2 := Lib.hid hs
          clear hcc hw hs
          by_cases q : s.size = 64
          · have q2 : ((s.size : Int) != 64) = false := by simp; omega
            have HN := Lib.hid (show ∀ i s, i < k + 1 → l[i]? = some s → sec s = true from fun i s hi hs => by
              by_cases e : i = k
              · subst e; rw [HX2.out] at hs; cases hs; exact decide_eq_true q
              · exact HA.out i s (by omega) hs)
            clear q
            go_wp2
            go_roundw
            case rel => exact ⟨k + 1, by omega, by go_num, HN.out, HW.out, HX.out, HY.out⟩
            case measure => simp [intOf]; omega
          · have q2 : ((s.size : Int) != 64) = true := by simp; omega
            exact absurd (HL.out s (List.mem_of_getElem? HX2.out)) (by unfold sec; rw [decide_eq_false q]; simp)
        · obtain rfl : k = l.length := by omega
          clear hw
          have x2 := HX.out.cells 0 _ rfl
          have x3 := HX.out.cells 1 _ rfl
          go_wp2_with fail
          refine (CH.out _).mono ?_
          rintro e w2 ⟨rfl, b2⟩
          have B2 := Lib.hid (chainX w HW.out b2)
          have X2 := Lib.hid (HX.out.later b2)
          have Y2 := Lib.hid (HY.out.later b2)
          clear x2 x3
          have x2 := X2.out.cells 0 _ rfl
          have x3 := X2.out.cells 1 _ rfl
          have y0 := Y2.out.cells 0 _ rfl
          have y1 := Y2.out.cells 1 _ rfl
          have z0 := Y2.out.free 0
          have z1 := Y2.out.free 1
          have F := Lib.hid (AnsKR.zero 2 (((B2.out.setCell (p := ⟨w.heap.size + 1, 0, none⟩) (by show _ ≤ w.heap.size + 1; omega) (.slice none 0 0)).setCell (p := ⟨w.heap.size + 1, 1, none⟩) (by show _ ≤ w.heap.size + 1; omega) (.slice none 0 0))))
          go_wp2
          exact bodyPost_ret (v := .tuple #[.agg #[.slice none 0 0, .slice none 0 0], .int .i64 2]) (by simp [results, Try.results28, go_sem, *]) rfl F.out
  · have HK := Lib.hid hk
    have HL := Lib.hid hl
    have hn : d.sectors.length ≤ 1000000 := (dok_lens hk).1
    have hm : d.waits.length ≤ 1000000 := (dok_lens hk).2
    have WS : IntKind.i64.wrap (600 - (d.waits.length : Int)) = 600 - (d.waits.length : Int) := by rw [IntKind.wrap_i64]; omega
    have dj : decide ((600 : Int) - (d.waits.length : Int) < (l.length : Int)) = true := decide_eq_true (by omega)
    by_cases e : 0 < l.length
    · have dl : decide ((0 : Int) < (l.length : Int)) = true := decide_eq_true (by omega)
      have dl2 : decide (0 < l.length) = true := decide_eq_true e
      obtain ⟨i0, i1⟩ := (inW_yes hi).resolve_left (by omega)
      have hin : inD d.sectors.length a = true := decide_eq_true ⟨i0, by omega⟩
      have WR : IntKind.i64.wrap ((d.sectors.length : Int) - a) = (d.sectors.length : Int) - a := by rw [IntKind.wrap_i64]; omega
      have r' : decide ((d.sectors.length : Int) - a < (l.length : Int)) = false := decide_eq_false (by omega)
      rw [hin] at CH
      have CH := Lib.hid CH.out
      clear hin hk hl hi e
      go_enter Try.func28, Try.ntmps28
      go_wp2_with fail
      refine C.out.mono ?_
      rintro e w1 ⟨b, rfl, hb, b1⟩
      have B1 := Lib.hid (chainX w L.out b1)
      have X1 := Lib.hid (X.out.later b1)
      have Y1 := Lib.hid (Y.out.later b1)
      have HBB := Lib.hid hb
      clear b1 hb x0 x1
      cases b
      · have := HBB.out.2 HK.out; cases this
      clear HBB
      go_wp2
      go_loopw [8] (fun i wr => ∃ k : Nat, k ≤ l.length ∧ i = .int .i64 k ∧ (∀ i s, i < k → l[i]? = some s → sec s = true) ∧ Below w.heap.size w wr ∧ BxN wr w.heap.size [.slice a0 d.sectors.length c0, .slice a1 d.waits.length c1] ∧ BxN wr (w.heap.size + 1) [.slice none 0 0, .slice none 0 0]) (fun i _ => l.length - (intOf i).toNat)
      case atStart => exact ⟨0, by omega, rfl, fun i x hi => absurd hi (Nat.not_lt_zero _), B1.out, X1.out, Y1.out⟩
      case round =>
        obtain ⟨k, hk, rfl, ha, hw, hx, hy⟩ := hrel
        have HA := Lib.hid ha
        have HW := Lib.hid hw
        have HX := Lib.hid hx
        have HY := Lib.hid hy
        clear ha hx hy
        by_cases hlt : k < l.length
        · obtain ⟨s, hs⟩ := GL.out k hlt
          obtain ⟨b, off, cs, rfl, -, hB, ⟨rfl, hz⟩, hcc⟩ := (HR.out _ hw).at' hs
          have c0' : wr.cell? ⟨b, off + k, none⟩ = some (.string s) := by have := hcc 0 _ rfl; rwa [show off + k * Rdb.size ByteArray + 0 = off + k from by show off + k * 1 + 0 = _; omega] at this
          have HX2 := Lib.hid hs
          clear hcc hw hs
          by_cases q : s.size = 64
          · have q2 : ((s.size : Int) != 64) = false := by simp; omega
            have HN := Lib.hid (show ∀ i s, i < k + 1 → l[i]? = some s → sec s = true from fun i s hi hs => by
              by_cases e : i = k
              · subst e; rw [HX2.out] at hs; cases hs; exact decide_eq_true q
              · exact HA.out i s (by omega) hs)
            clear q
            go_wp2
            go_roundw
            case rel => exact ⟨k + 1, by omega, by go_num, HN.out, HW.out, HX.out, HY.out⟩
            case measure => simp [intOf]; omega
          · have q2 : ((s.size : Int) != 64) = true := by simp; omega
            exact absurd (HL.out s (List.mem_of_getElem? HX2.out)) (by unfold sec; rw [decide_eq_false q]; simp)
        · obtain rfl : k = l.length := by omega
          clear hw
          have x2 := HX.out.cells 0 _ rfl
          have x3 := HX.out.cells 1 _ rfl
          go_wp2_with fail
          refine (CH.out _).mono ?_
          rintro e w2 ⟨rfl, b2⟩
          have B2 := Lib.hid (chainX w HW.out b2)
          have X2 := Lib.hid (HX.out.later b2)
          have Y2 := Lib.hid (HY.out.later b2)
          clear x2 x3
          have x2 := X2.out.cells 0 _ rfl
          have x3 := X2.out.cells 1 _ rfl
          have y0 := Y2.out.cells 0 _ rfl
          have y1 := Y2.out.cells 1 _ rfl
          have z0 := Y2.out.free 0
          have z1 := Y2.out.free 1
          have F := Lib.hid (AnsKR.zero 4 (((B2.out.setCell (p := ⟨w.heap.size + 1, 0, none⟩) (by show _ ≤ w.heap.size + 1; omega) (.slice none 0 0)).setCell (p := ⟨w.heap.size + 1, 1, none⟩) (by show _ ≤ w.heap.size + 1; omega) (.slice none 0 0))))
          go_wp2
          exact bodyPost_ret (v := .tuple #[.agg #[.slice none 0 0, .slice none 0 0], .int .i64 4]) (by simp [results, Try.results28, go_sem, *]) rfl F.out
    · have dl : decide ((0 : Int) < (l.length : Int)) = false := decide_eq_false (by omega)
      have dl2 : decide (0 < l.length) = false := decide_eq_false e
      clear hk hl hi
      go_enter Try.func28, Try.ntmps28
      go_wp2_with fail
      refine C.out.mono ?_
      rintro e w1 ⟨b, rfl, hb, b1⟩
      have B1 := Lib.hid (chainX w L.out b1)
      have X1 := Lib.hid (X.out.later b1)
      have Y1 := Lib.hid (Y.out.later b1)
      have HBB := Lib.hid hb
      clear b1 hb x0 x1
      cases b
      · have := HBB.out.2 HK.out; cases this
      clear HBB
      go_wp2
      go_loopw [8] (fun i wr => ∃ k : Nat, k ≤ l.length ∧ i = .int .i64 k ∧ (∀ i s, i < k → l[i]? = some s → sec s = true) ∧ Below w.heap.size w wr ∧ BxN wr w.heap.size [.slice a0 d.sectors.length c0, .slice a1 d.waits.length c1] ∧ BxN wr (w.heap.size + 1) [.slice none 0 0, .slice none 0 0]) (fun i _ => l.length - (intOf i).toNat)
      case atStart => exact ⟨0, by omega, rfl, fun i x hi => absurd hi (Nat.not_lt_zero _), B1.out, X1.out, Y1.out⟩
      case round =>
        obtain ⟨k, hk, rfl, ha, hw, hx, hy⟩ := hrel
        have HA := Lib.hid ha
        have HW := Lib.hid hw
        have HX := Lib.hid hx
        have HY := Lib.hid hy
        clear ha hx hy
        by_cases hlt : k < l.length
        · obtain ⟨s, hs⟩ := GL.out k hlt
          obtain ⟨b, off, cs, rfl, -, hB, ⟨rfl, hz⟩, hcc⟩ := (HR.out _ hw).at' hs
          have c0' : wr.cell? ⟨b, off + k, none⟩ = some (.string s) := by have := hcc 0 _ rfl; rwa [show off + k * Rdb.size ByteArray + 0 = off + k from by show off + k * 1 + 0 = _; omega] at this
          have HX2 := Lib.hid hs
          clear hcc hw hs
          by_cases q : s.size = 64
          · have q2 : ((s.size : Int) != 64) = false := by simp; omega
            have HN := Lib.hid (show ∀ i s, i < k + 1 → l[i]? = some s → sec s = true from fun i s hi hs => by
              by_cases e : i = k
              · subst e; rw [HX2.out] at hs; cases hs; exact decide_eq_true q
              · exact HA.out i s (by omega) hs)
            clear q
            go_wp2
            go_roundw
            case rel => exact ⟨k + 1, by omega, by go_num, HN.out, HW.out, HX.out, HY.out⟩
            case measure => simp [intOf]; omega
          · have q2 : ((s.size : Int) != 64) = true := by simp; omega
            exact absurd (HL.out s (List.mem_of_getElem? HX2.out)) (by unfold sec; rw [decide_eq_false q]; simp)
        · obtain rfl : k = l.length := by omega
          clear hw
          have x2 := HX.out.cells 0 _ rfl
          have x3 := HX.out.cells 1 _ rfl
          have y0 := HY.out.cells 0 _ rfl
          have y1 := HY.out.cells 1 _ rfl
          have z0 := HY.out.free 0
          have z1 := HY.out.free 1
          have F := Lib.hid (AnsKR.zero 4 (((HW.out.setCell (p := ⟨w.heap.size + 1, 0, none⟩) (by show _ ≤ w.heap.size + 1; omega) (.slice none 0 0)).setCell (p := ⟨w.heap.size + 1, 1, none⟩) (by show _ ≤ w.heap.size + 1; omega) (.slice none 0 0))))
          go_wp2
          exact bodyPost_ret (v := .tuple #[.agg #[.slice none 0 0, .slice none 0 0], .int .i64 4]) (by simp [results, Try.results28, go_sem, *]) rfl F.out
  · have HK := Lib.hid hk
    have HL := Lib.hid hl
    have hn : d.sectors.length ≤ 1000000 := (dok_lens hk).1
    have hm : d.waits.length ≤ 1000000 := (dok_lens hk).2
    have WS : IntKind.i64.wrap (600 - (d.waits.length : Int)) = 600 - (d.waits.length : Int) := by rw [IntKind.wrap_i64]; omega
    have dj : decide ((600 : Int) - (d.waits.length : Int) < (l.length : Int)) = false := decide_eq_false (by omega)
    have CO := Lib.hid (fun w' (b : Below w.heap.size w w') => specL14Own d a0 c0 a1 c1 w' hn hm (RW.out.below b))
    have AT := Lib.hid (fun j s (h : l[j]? = some s) => addW_take (a := a) h)
    have HAT := Lib.hid (fun (h : 0 < l.length) => (show 0 ≤ a ∧ a ≤ 100000 from by have := (inW_yes hi).resolve_left (by omega); have := hk.1; omega))
    have AL := Lib.hid (fun j (h : j ≤ l.length) => (show (d.waits ++ addW a (l.take j)).length = d.waits.length + j from by rw [List.length_append, addW_len, List.length_take]; omega))
    have AA := Lib.hid (show d.waits ++ addW a (l.take l.length) = (bufD d a l).waits from by rw [List.take_length]; rfl)
    have A0 := Lib.hid (show d.waits ++ addW a (l.take 0) = d.waits from by simp [addW])
    have ZS := Lib.hid (fun j s (h : l[j]? = some s) => rows_strsz (HR.out w (Below.refl _ _)) s (List.mem_of_getElem? h))
    have hmm : d.waits.length + l.length ≤ 600 := hj
    by_cases e : 0 < l.length
    · have dl : decide ((0 : Int) < (l.length : Int)) = true := decide_eq_true (by omega)
      have dl2 : decide (0 < l.length) = true := decide_eq_true e
      obtain ⟨i0, i1⟩ := (inW_yes hi).resolve_left (by omega)
      have hin : inD d.sectors.length a = true := decide_eq_true ⟨i0, by omega⟩
      have WR : IntKind.i64.wrap ((d.sectors.length : Int) - a) = (d.sectors.length : Int) - a := by rw [IntKind.wrap_i64]; omega
      have r' : decide ((d.sectors.length : Int) - a < (l.length : Int)) = false := decide_eq_false (by omega)
      rw [hin] at CH
      have CH := Lib.hid CH.out
      clear hin hk hl hi e
      go_enter Try.func28, Try.ntmps28
      go_wp2_with fail
      refine C.out.mono ?_
      rintro e w1 ⟨b, rfl, hb, b1⟩
      have B1 := Lib.hid (chainX w L.out b1)
      have X1 := Lib.hid (X.out.later b1)
      have Y1 := Lib.hid (Y.out.later b1)
      have HBB := Lib.hid hb
      clear b1 hb x0 x1
      cases b
      · have := HBB.out.2 HK.out; cases this
      clear HBB
      go_wp2
      go_loopw [8] (fun i wr => ∃ k : Nat, k ≤ l.length ∧ i = .int .i64 k ∧ (∀ i s, i < k → l[i]? = some s → sec s = true) ∧ Below w.heap.size w wr ∧ BxN wr w.heap.size [.slice a0 d.sectors.length c0, .slice a1 d.waits.length c1] ∧ BxN wr (w.heap.size + 1) [.slice none 0 0, .slice none 0 0]) (fun i _ => l.length - (intOf i).toNat)
      case atStart => exact ⟨0, by omega, rfl, fun i x hi => absurd hi (Nat.not_lt_zero _), B1.out, X1.out, Y1.out⟩
      case round =>
        obtain ⟨k, hk, rfl, ha, hw, hx, hy⟩ := hrel
        have HA := Lib.hid ha
        have HW := Lib.hid hw
        have HX := Lib.hid hx
        have HY := Lib.hid hy
        clear ha hx hy
        by_cases hlt : k < l.length
        · obtain ⟨s, hs⟩ := GL.out k hlt
          obtain ⟨b, off, cs, rfl, -, hB, ⟨rfl, hz⟩, hcc⟩ := (HR.out _ hw).at' hs
          have c0' : wr.cell? ⟨b, off + k, none⟩ = some (.string s) := by have := hcc 0 _ rfl; rwa [show off + k * Rdb.size ByteArray + 0 = off + k from by show off + k * 1 + 0 = _; omega] at this
          have HX2 := Lib.hid hs
          clear hcc hw hs
          by_cases q : s.size = 64
          · have q2 : ((s.size : Int) != 64) = false := by simp; omega
            have HN := Lib.hid (show ∀ i s, i < k + 1 → l[i]? = some s → sec s = true from fun i s hi hs => by
              by_cases e : i = k
              · subst e; rw [HX2.out] at hs; cases hs; exact decide_eq_true q
              · exact HA.out i s (by omega) hs)
            clear q
            go_wp2
            go_roundw
            case rel => exact ⟨k + 1, by omega, by go_num, HN.out, HW.out, HX.out, HY.out⟩
            case measure => simp [intOf]; omega
          · have q2 : ((s.size : Int) != 64) = true := by simp; omega
            exact absurd (HL.out s (List.mem_of_getElem? HX2.out)) (by unfold sec; rw [decide_eq_false q]; simp)
        · obtain rfl : k = l.length := by omega
          clear hw
          have x2 := HX.out.cells 0 _ rfl
          have x3 := HX.out.cells 1 _ rfl
          go_wp2_with fail
          refine (CH.out _).mono ?_
          rintro e w2 ⟨rfl, b2⟩
          have B2 := Lib.hid (chainX w HW.out b2)
          have X2 := Lib.hid (HX.out.later b2)
          have Y2 := Lib.hid (HY.out.later b2)
          clear x2 x3
          have x2 := X2.out.cells 0 _ rfl
          have x3 := X2.out.cells 1 _ rfl
          go_wp2_with fail
          refine (CO.out _ B2.out).mono ?_
          rintro e w5 ⟨p0, k0, p1, k1, rfl, o0, o1, b5⟩
          have LO := lay w5 (.cells #[.slice p0 d.sectors.length k0, .slice p1 d.waits.length k1] 30)
          have HB5 := Lib.hid (chainX w (chainX w B2.out b5) LO)
          have HX5 := Lib.hid ((X2.out.later b5).later LO)
          have HY5 := Lib.hid ((Y2.out.later b5).later LO)
          have HO5 := Lib.hid (BxN.new w5 #[.slice p0 d.sectors.length k0, .slice p1 d.waits.length k1] 30)
          have HT5 := Lib.hid (TyB.new w5 #[.slice p0 d.sectors.length k0, .slice p1 d.waits.length k1] 30)
          have BB := Lib.hid (show w.heap.size + 1 + 1 ≤ w2.heap.size from by have := Y2.out.lt; omega)
          have OA := Lib.hid ((o0.alloc (.cells #[.slice p0 d.sectors.length k0, .slice p1 d.waits.length k1] 30)).weakB BB.out)
          have OC := Lib.hid (show OwnL 63 (w.heap.size + 1 + 1) (w5.alloc (.cells #[.slice p0 d.sectors.length k0, .slice p1 d.waits.length k1] 30)) (.slice p1 (d.waits.length + 0) k1) (d.waits ++ addW a (l.take 0)) from by rw [A0.out]; exact (o1.alloc _).weakB BB.out)
          have SO5 := Lib.hid (show w.heap.size + 1 + 1 ≤ w5.heap.size from by have := BB.out; have := b5.size; omega)
          clear b5 o0 o1 LO x2 x3 BB
          go_wp2
          go_loopw [11] (fun i wr => ∃ (j : Nat) (q1 : Option Addr) (c : Nat), j ≤ l.length ∧ i = .int .i64 j ∧ OwnL 9 (w.heap.size + 1 + 1) wr (.slice p0 d.sectors.length k0) d.sectors ∧ OwnL 63 (w.heap.size + 1 + 1) wr (.slice q1 (d.waits.length + j) c) (d.waits ++ addW a (l.take j)) ∧ Below w.heap.size w wr ∧ BxN wr (w.heap.size + 1) [.slice none 0 0, .slice none 0 0] ∧ BxN wr w5.heap.size [.slice p0 d.sectors.length k0, .slice q1 (d.waits.length + j) c] ∧ TyB wr w5.heap.size 30) (fun i _ => l.length - (intOf i).toNat)
          case atStart => exact ⟨0, p1, k1, by omega, rfl, OA.out, OC.out, HB5.out, HY5.out, HO5.out, HT5.out⟩
          case round =>
            obtain ⟨j, q1, c, hj, rfl, h0, h1, hB, hY, hO, hT⟩ := hrel
            clear HX5 HY5 HB5 HO5 HT5 OA OC
            by_cases hlt : j < l.length
            · obtain ⟨s, hs⟩ := GL.out j hlt
              obtain ⟨b, off, cs, rfl, -, hBb, ⟨rfl, -⟩, hcc⟩ := (HR.out w (Below.refl _ _)).at' hs
              have cw : w.cell? ⟨b, off + j, none⟩ = some (.string s) := by have := hcc 0 _ rfl; rwa [show off + j * Rdb.size ByteArray + 0 = off + j from by show off + j * 1 + 0 = _; omega] at this
              have c0' := (hB.cell (p := ⟨b, off + j, none⟩) hBb).trans cw
              have CW := Lib.hid cw
              clear cw
              obtain ⟨at0, at1⟩ := HAT.out (by omega)
              have WA : IntKind.i64.wrap (a + (j : Int)) = a + (j : Int) := by rw [IntKind.wrap_i64]; omega
              have j0 : (0 : Int) ≤ (j : Int) := by omega
              have j1 : (j : Int) < (l.length : Int) := by omega
              have AT2 := Lib.hid (show d.waits ++ addW a (l.take (j + 1)) = (d.waits ++ addW a (l.take j)) ++ [⟨a + (j : Int), s⟩] from by rw [AT.out j s hs, List.append_assoc])
              have wfy : Enc.wf (⟨a + (j : Int), s⟩ : DPending) := ⟨WalkArith.wf_i64 (by show _ ≤ a + (j : Int) ∧ a + (j : Int) ≤ _; omega), ZS.out j s hs⟩
              have y1 := hO.cells 1 _ rfl
              have LN := Lib.hid (AL.out j hj)
              have DR := lay wr (.cells #[.int .i64 (a + (j : Int)), .string s] 63)
              have EN := BxN.new wr #[.int .i64 (a + (j : Int)), .string s] 63
              have RY := Lib.hid (show Rows true 0 (wr.alloc (.cells #[.int .i64 (a + (j : Int)), .string s] 63)).drew (some ⟨wr.heap.size, 0, none⟩) [(⟨a + (j : Int), s⟩ : DPending)] from .inr ⟨wr.heap.size, 0, rfl, Nat.zero_le _, EN.lt, fun _ => EN.free, fun i q hq => by
                have hi : i < 1 := (List.getElem?_eq_some_iff.1 hq).1
                obtain rfl : i = 0 := by omega
                obtain rfl : (⟨a + (j : Int), s⟩ : DPending) = q := by simpa using hq
                exact ⟨[.int .i64 (a + (j : Int)), .string s], Enc.iff.2 ⟨rfl, wfy⟩, fun cc u hu => by rw [Nat.zero_mul, Nat.zero_add]; exact EN.cells cc u (by simpa using hu)⟩⟩)
              have H1 := Lib.hid (show OwnL 63 (w.heap.size + 1 + 1) (wr.alloc (.cells #[.int .i64 (a + (j : Int)), .string s] 63)).drew (.slice q1 (d.waits.length + j) c) (d.waits ++ addW a (l.take j)) from h1.alloc _)
              have H0 := Lib.hid (show OwnL 9 (w.heap.size + 1 + 1) (wr.alloc (.cells #[.int .i64 (a + (j : Int)), .string s] 63)).drew (.slice p0 d.sectors.length k0) d.sectors from h0.alloc _)
              have HO1 := Lib.hid (hO.later DR.drew)
              have HT1 := Lib.hid (hT.later DR.drew)
              have HY1 := Lib.hid (hY.later DR.drew)
              have HB1 := Lib.hid ((chainX w hB DR).drew)
              have SZ1 := Lib.hid (show w.heap.size + 1 + 1 ≤ (wr.alloc (.cells #[.int .i64 (a + (j : Int)), .string s] 63)).drew.heap.size from by show _ ≤ (wr.alloc _).heap.size; rw [World.size_alloc]; have := hO.lt; have := SO5.out; omega)
              have N1 := Lib.hid (own_neT H1.out HT1.out (by decide))
              have N2 := Lib.hid (own_ne H0.out H1.out (by decide))
              have y2 := HO1.out.cells 1 _ rfl
              have hbn : b ≠ w5.heap.size := by have := SO5.out; omega
              clear h0 h1 hB hY hO hT hcc hs wfy DR EN
              go_wp2
              go_region_law
                ((refine step_append_F (α := DPending) rfl (.tmp 66) (.tmp 75) 28 63 (.agg #[.int .i64 0, .string ByteArray.empty]) 24 rfl Try.underlying28 infoPending rfl (by omega) (w.heap.size + 1 + 1) (.slice q1 (d.waits.length + j) c) (d.waits ++ addW a (l.take j)) [⟨a + (j : Int), s⟩] rfl H1.out (some ⟨wr.heap.size, 0, none⟩) 1 rfl RY.out (by rw [LN.out]; simp; omega) SZ1.out ?_; intro v' w6 J6 g6; rw [← AT2.out] at J6; obtain ⟨q2, c2, e2⟩ := J6.val; rw [AL.out (j + 1) (by omega)] at e2; subst e2; have O6 := BxN.grown HO1.out g6 N1.out; have x5 := O6.cells 1 _ rfl; have xf5 := O6.free 1; have B6 := Lib.hid (HB1.out.grown g6 (by have := HB1.out.size; omega) (fun k hk => by have := (H1.out.blk hk).1; omega)); have ce := (B6.out.cell (p := ⟨b, off + j, none⟩) hBb).trans CW.out; have cf := (World.cell?_setCell_other w6 ⟨w5.heap.size, 1, none⟩ ⟨b, off + j, none⟩ (.slice q2 (d.waits.length + (j + 1)) c2) (fun e => hbn (congrArg Addr.block e).symm)).trans ce; have O6H := Lib.hid O6; have J6H := Lib.hid J6; have G6 := Lib.hid g6; clear O6 J6 g6))
              all_goals
                have T6 := Lib.hid (HT1.out.grown G6.out N1.out)
                have Q0 := Lib.hid ((H0.out.kept G6.out N2.out).setT ⟨w5.heap.size, 1, none⟩ (.slice q2 (d.waits.length + (j + 1)) c2) T6.out (by decide))
                have Q1 := Lib.hid (J6H.out.setT ⟨w5.heap.size, 1, none⟩ (.slice q2 (d.waits.length + (j + 1)) c2) T6.out (by decide))
                have QB := Lib.hid (B6.out.setCell (p := ⟨w5.heap.size, 1, none⟩) (by show w.heap.size ≤ w5.heap.size; have := SO5.out; omega) (.slice q2 (d.waits.length + (j + 1)) c2))
                have QY := Lib.hid ((BxN.grown HY1.out G6.out (fun e => by have := (H1.out.blk e.symm).1; omega)).far (p := ⟨w5.heap.size, 1, none⟩) (by show w5.heap.size ≠ w.heap.size + 1; have := SO5.out; omega) (.slice q2 (d.waits.length + (j + 1)) c2))
                have QO := Lib.hid (O6H.out.put 1 (by simp) (.slice q2 (d.waits.length + (j + 1)) c2))
                have QT := Lib.hid (T6.out.set ⟨w5.heap.size, 1, none⟩ (.slice q2 (d.waits.length + (j + 1)) c2))
                clear H0 H1 HO1 HT1 HY1 HB1 SZ1 N1 N2 B6 O6H J6H G6 T6 RY
                (try go_wp2)
                go_roundw
                case rel => exact ⟨j + 1, q2, c2, by omega, by go_num, Q0.out, Q1.out, QB.out, QY.out, QO.out, QT.out⟩
                case measure => simp [intOf]; omega
            · obtain rfl : j = l.length := by omega
              have y0 := hO.cells 0 _ rfl
              have y1 := hO.cells 1 _ rfl
              have v0 := hY.cells 0 _ rfl
              have v1 := hY.cells 1 _ rfl
              have vf0 := hY.free 0
              have vf1 := hY.free 1
              have F := Lib.hid (show AnsKR (bufD d a l) 0 w (.returned (.tuple #[.agg #[.slice p0 d.sectors.length k0, .slice q1 (d.waits.length + l.length) c], .int .i64 0])) ((wr.setCell ⟨w.heap.size + 1, 0, none⟩ (.slice p0 d.sectors.length k0)).setCell ⟨w.heap.size + 1, 1, none⟩ (.slice q1 (d.waits.length + l.length) c)) from by
                have e := AL.out l.length (Nat.le_refl _)
                rw [AA.out] at h1 e
                rw [← e] at h1 ⊢
                have k0' := (h0.set ⟨w.heap.size + 1, 0, none⟩ (.slice p0 d.sectors.length k0) (by show w.heap.size + 1 < _; omega)).set ⟨w.heap.size + 1, 1, none⟩ (.slice q1 (bufD d a l).waits.length c) (by show w.heap.size + 1 < _; omega)
                have k1' := (h1.set ⟨w.heap.size + 1, 0, none⟩ (.slice p0 d.sectors.length k0) (by show w.heap.size + 1 < _; omega)).set ⟨w.heap.size + 1, 1, none⟩ (.slice q1 (bufD d a l).waits.length c) (by show w.heap.size + 1 < _; omega)
                exact ⟨p0, k0, q1, c, rfl, ⟨k0'.one.1.rows.weak (Nat.zero_le _) (fun e => by cases e), k1'.one.1.rows.weak (Nat.zero_le _) (fun e => by cases e)⟩, ⟨k0'.one.2, k1'.one.2⟩, (hB.setCell (p := ⟨w.heap.size + 1, 0, none⟩) (by show _ ≤ w.heap.size + 1; omega) _).setCell (p := ⟨w.heap.size + 1, 1, none⟩) (by show _ ≤ w.heap.size + 1; omega) _⟩)
              clear h0 h1 hB hY hO hT
              go_wp2
              exact bodyPost_ret (v := .tuple #[.agg #[.slice p0 d.sectors.length k0, .slice q1 (d.waits.length + l.length) c], .int .i64 0]) (by simp [results, Try.results28, go_sem, *]) rfl F.out
    · have dl : decide ((0 : Int) < (l.length : Int)) = false := decide_eq_false (by omega)
      have dl2 : decide (0 < l.length) = false := decide_eq_false e
      clear hk hl hi
      go_enter Try.func28, Try.ntmps28
      go_wp2_with fail
      refine C.out.mono ?_
      rintro e w1 ⟨b, rfl, hb, b1⟩
      have B1 := Lib.hid (chainX w L.out b1)
      have X1 := Lib.hid (X.out.later b1)
      have Y1 := Lib.hid (Y.out.later b1)
      have HBB := Lib.hid hb
      clear b1 hb x0 x1
      cases b
      · have := HBB.out.2 HK.out; cases this
      clear HBB
      go_wp2
      go_loopw [8] (fun i wr => ∃ k : Nat, k ≤ l.length ∧ i = .int .i64 k ∧ (∀ i s, i < k → l[i]? = some s → sec s = true) ∧ Below w.heap.size w wr ∧ BxN wr w.heap.size [.slice a0 d.sectors.length c0, .slice a1 d.waits.length c1] ∧ BxN wr (w.heap.size + 1) [.slice none 0 0, .slice none 0 0]) (fun i _ => l.length - (intOf i).toNat)
      case atStart => exact ⟨0, by omega, rfl, fun i x hi => absurd hi (Nat.not_lt_zero _), B1.out, X1.out, Y1.out⟩
      case round =>
        obtain ⟨k, hk, rfl, ha, hw, hx, hy⟩ := hrel
        have HA := Lib.hid ha
        have HW := Lib.hid hw
        have HX := Lib.hid hx
        have HY := Lib.hid hy
        clear ha hx hy
        by_cases hlt : k < l.length
        · obtain ⟨s, hs⟩ := GL.out k hlt
          obtain ⟨b, off, cs, rfl, -, hB, ⟨rfl, hz⟩, hcc⟩ := (HR.out _ hw).at' hs
          have c0' : wr.cell? ⟨b, off + k, none⟩ = some (.string s) := by have := hcc 0 _ rfl; rwa [show off + k * Rdb.size ByteArray + 0 = off + k from by show off + k * 1 + 0 = _; omega] at this
          have HX2 := Lib.hid hs
          clear hcc hw hs
          by_cases q : s.size = 64
          · have q2 : ((s.size : Int) != 64) = false := by simp; omega
            have HN := Lib.hid (show ∀ i s, i < k + 1 → l[i]? = some s → sec s = true from fun i s hi hs => by
              by_cases e : i = k
              · subst e; rw [HX2.out] at hs; cases hs; exact decide_eq_true q
              · exact HA.out i s (by omega) hs)
            clear q
            go_wp2
            go_roundw
            case rel => exact ⟨k + 1, by omega, by go_num, HN.out, HW.out, HX.out, HY.out⟩
            case measure => simp [intOf]; omega
          · have q2 : ((s.size : Int) != 64) = true := by simp; omega
            exact absurd (HL.out s (List.mem_of_getElem? HX2.out)) (by unfold sec; rw [decide_eq_false q]; simp)
        · obtain rfl : k = l.length := by omega
          clear hw
          have x2 := HX.out.cells 0 _ rfl
          have x3 := HX.out.cells 1 _ rfl
          go_wp2_with fail
          refine (CO.out _ HW.out).mono ?_
          rintro e w5 ⟨p0, k0, p1, k1, rfl, o0, o1, b5⟩
          have LO := lay w5 (.cells #[.slice p0 d.sectors.length k0, .slice p1 d.waits.length k1] 30)
          have HB5 := Lib.hid (chainX w (chainX w HW.out b5) LO)
          have HX5 := Lib.hid ((HX.out.later b5).later LO)
          have HY5 := Lib.hid ((HY.out.later b5).later LO)
          have HO5 := Lib.hid (BxN.new w5 #[.slice p0 d.sectors.length k0, .slice p1 d.waits.length k1] 30)
          have HT5 := Lib.hid (TyB.new w5 #[.slice p0 d.sectors.length k0, .slice p1 d.waits.length k1] 30)
          have BB := Lib.hid (show w.heap.size + 1 + 1 ≤ wr.heap.size from by have := HY.out.lt; omega)
          have OA := Lib.hid ((o0.alloc (.cells #[.slice p0 d.sectors.length k0, .slice p1 d.waits.length k1] 30)).weakB BB.out)
          have OC := Lib.hid (show OwnL 63 (w.heap.size + 1 + 1) (w5.alloc (.cells #[.slice p0 d.sectors.length k0, .slice p1 d.waits.length k1] 30)) (.slice p1 (d.waits.length + 0) k1) (d.waits ++ addW a (l.take 0)) from by rw [A0.out]; exact (o1.alloc _).weakB BB.out)
          have SO5 := Lib.hid (show w.heap.size + 1 + 1 ≤ w5.heap.size from by have := BB.out; have := b5.size; omega)
          clear b5 o0 o1 LO x2 x3 BB
          go_wp2
          go_loopw [11] (fun i wr => ∃ (j : Nat) (q1 : Option Addr) (c : Nat), j ≤ l.length ∧ i = .int .i64 j ∧ OwnL 9 (w.heap.size + 1 + 1) wr (.slice p0 d.sectors.length k0) d.sectors ∧ OwnL 63 (w.heap.size + 1 + 1) wr (.slice q1 (d.waits.length + j) c) (d.waits ++ addW a (l.take j)) ∧ Below w.heap.size w wr ∧ BxN wr (w.heap.size + 1) [.slice none 0 0, .slice none 0 0] ∧ BxN wr w5.heap.size [.slice p0 d.sectors.length k0, .slice q1 (d.waits.length + j) c] ∧ TyB wr w5.heap.size 30) (fun i _ => l.length - (intOf i).toNat)
          case atStart => exact ⟨0, p1, k1, by omega, rfl, OA.out, OC.out, HB5.out, HY5.out, HO5.out, HT5.out⟩
          case round =>
            obtain ⟨j, q1, c, hj, rfl, h0, h1, hB, hY, hO, hT⟩ := hrel
            clear HX5 HY5 HB5 HO5 HT5 OA OC
            by_cases hlt : j < l.length
            · obtain ⟨s, hs⟩ := GL.out j hlt
              obtain ⟨b, off, cs, rfl, -, hBb, ⟨rfl, -⟩, hcc⟩ := (HR.out w (Below.refl _ _)).at' hs
              have cw : w.cell? ⟨b, off + j, none⟩ = some (.string s) := by have := hcc 0 _ rfl; rwa [show off + j * Rdb.size ByteArray + 0 = off + j from by show off + j * 1 + 0 = _; omega] at this
              have c0' := (hB.cell (p := ⟨b, off + j, none⟩) hBb).trans cw
              have CW := Lib.hid cw
              clear cw
              obtain ⟨at0, at1⟩ := HAT.out (by omega)
              have WA : IntKind.i64.wrap (a + (j : Int)) = a + (j : Int) := by rw [IntKind.wrap_i64]; omega
              have j0 : (0 : Int) ≤ (j : Int) := by omega
              have j1 : (j : Int) < (l.length : Int) := by omega
              have AT2 := Lib.hid (show d.waits ++ addW a (l.take (j + 1)) = (d.waits ++ addW a (l.take j)) ++ [⟨a + (j : Int), s⟩] from by rw [AT.out j s hs, List.append_assoc])
              have wfy : Enc.wf (⟨a + (j : Int), s⟩ : DPending) := ⟨WalkArith.wf_i64 (by show _ ≤ a + (j : Int) ∧ a + (j : Int) ≤ _; omega), ZS.out j s hs⟩
              have y1 := hO.cells 1 _ rfl
              have LN := Lib.hid (AL.out j hj)
              have DR := lay wr (.cells #[.int .i64 (a + (j : Int)), .string s] 63)
              have EN := BxN.new wr #[.int .i64 (a + (j : Int)), .string s] 63
              have RY := Lib.hid (show Rows true 0 (wr.alloc (.cells #[.int .i64 (a + (j : Int)), .string s] 63)).drew (some ⟨wr.heap.size, 0, none⟩) [(⟨a + (j : Int), s⟩ : DPending)] from .inr ⟨wr.heap.size, 0, rfl, Nat.zero_le _, EN.lt, fun _ => EN.free, fun i q hq => by
                have hi : i < 1 := (List.getElem?_eq_some_iff.1 hq).1
                obtain rfl : i = 0 := by omega
                obtain rfl : (⟨a + (j : Int), s⟩ : DPending) = q := by simpa using hq
                exact ⟨[.int .i64 (a + (j : Int)), .string s], Enc.iff.2 ⟨rfl, wfy⟩, fun cc u hu => by rw [Nat.zero_mul, Nat.zero_add]; exact EN.cells cc u (by simpa using hu)⟩⟩)
              have H1 := Lib.hid (show OwnL 63 (w.heap.size + 1 + 1) (wr.alloc (.cells #[.int .i64 (a + (j : Int)), .string s] 63)).drew (.slice q1 (d.waits.length + j) c) (d.waits ++ addW a (l.take j)) from h1.alloc _)
              have H0 := Lib.hid (show OwnL 9 (w.heap.size + 1 + 1) (wr.alloc (.cells #[.int .i64 (a + (j : Int)), .string s] 63)).drew (.slice p0 d.sectors.length k0) d.sectors from h0.alloc _)
              have HO1 := Lib.hid (hO.later DR.drew)
              have HT1 := Lib.hid (hT.later DR.drew)
              have HY1 := Lib.hid (hY.later DR.drew)
              have HB1 := Lib.hid ((chainX w hB DR).drew)
              have SZ1 := Lib.hid (show w.heap.size + 1 + 1 ≤ (wr.alloc (.cells #[.int .i64 (a + (j : Int)), .string s] 63)).drew.heap.size from by show _ ≤ (wr.alloc _).heap.size; rw [World.size_alloc]; have := hO.lt; have := SO5.out; omega)
              have N1 := Lib.hid (own_neT H1.out HT1.out (by decide))
              have N2 := Lib.hid (own_ne H0.out H1.out (by decide))
              have y2 := HO1.out.cells 1 _ rfl
              have hbn : b ≠ w5.heap.size := by have := SO5.out; omega
              clear h0 h1 hB hY hO hT hcc hs wfy DR EN
              go_wp2
              go_region_law
                ((refine step_append_F (α := DPending) rfl (.tmp 66) (.tmp 75) 28 63 (.agg #[.int .i64 0, .string ByteArray.empty]) 24 rfl Try.underlying28 infoPending rfl (by omega) (w.heap.size + 1 + 1) (.slice q1 (d.waits.length + j) c) (d.waits ++ addW a (l.take j)) [⟨a + (j : Int), s⟩] rfl H1.out (some ⟨wr.heap.size, 0, none⟩) 1 rfl RY.out (by rw [LN.out]; simp; omega) SZ1.out ?_; intro v' w6 J6 g6; rw [← AT2.out] at J6; obtain ⟨q2, c2, e2⟩ := J6.val; rw [AL.out (j + 1) (by omega)] at e2; subst e2; have O6 := BxN.grown HO1.out g6 N1.out; have x5 := O6.cells 1 _ rfl; have xf5 := O6.free 1; have B6 := Lib.hid (HB1.out.grown g6 (by have := HB1.out.size; omega) (fun k hk => by have := (H1.out.blk hk).1; omega)); have ce := (B6.out.cell (p := ⟨b, off + j, none⟩) hBb).trans CW.out; have cf := (World.cell?_setCell_other w6 ⟨w5.heap.size, 1, none⟩ ⟨b, off + j, none⟩ (.slice q2 (d.waits.length + (j + 1)) c2) (fun e => hbn (congrArg Addr.block e).symm)).trans ce; have O6H := Lib.hid O6; have J6H := Lib.hid J6; have G6 := Lib.hid g6; clear O6 J6 g6))
              all_goals
                have T6 := Lib.hid (HT1.out.grown G6.out N1.out)
                have Q0 := Lib.hid ((H0.out.kept G6.out N2.out).setT ⟨w5.heap.size, 1, none⟩ (.slice q2 (d.waits.length + (j + 1)) c2) T6.out (by decide))
                have Q1 := Lib.hid (J6H.out.setT ⟨w5.heap.size, 1, none⟩ (.slice q2 (d.waits.length + (j + 1)) c2) T6.out (by decide))
                have QB := Lib.hid (B6.out.setCell (p := ⟨w5.heap.size, 1, none⟩) (by show w.heap.size ≤ w5.heap.size; have := SO5.out; omega) (.slice q2 (d.waits.length + (j + 1)) c2))
                have QY := Lib.hid ((BxN.grown HY1.out G6.out (fun e => by have := (H1.out.blk e.symm).1; omega)).far (p := ⟨w5.heap.size, 1, none⟩) (by show w5.heap.size ≠ w.heap.size + 1; have := SO5.out; omega) (.slice q2 (d.waits.length + (j + 1)) c2))
                have QO := Lib.hid (O6H.out.put 1 (by simp) (.slice q2 (d.waits.length + (j + 1)) c2))
                have QT := Lib.hid (T6.out.set ⟨w5.heap.size, 1, none⟩ (.slice q2 (d.waits.length + (j + 1)) c2))
                clear H0 H1 HO1 HT1 HY1 HB1 SZ1 N1 N2 B6 O6H J6H G6 T6 RY
                (try go_wp2)
                go_roundw
                case rel => exact ⟨j + 1, q2, c2, by omega, by go_num, Q0.out, Q1.out, QB.out, QY.out, QO.out, QT.out⟩
                case measure => simp [intOf]; omega
            · obtain rfl : j = l.length := by omega
              have y0 := hO.cells 0 _ rfl
              have y1 := hO.cells 1 _ rfl
              have v0 := hY.cells 0 _ rfl
              have v1 := hY.cells 1 _ rfl
              have vf0 := hY.free 0
              have vf1 := hY.free 1
              have F := Lib.hid (show AnsKR (bufD d a l) 0 w (.returned (.tuple #[.agg #[.slice p0 d.sectors.length k0, .slice q1 (d.waits.length + l.length) c], .int .i64 0])) ((wr.setCell ⟨w.heap.size + 1, 0, none⟩ (.slice p0 d.sectors.length k0)).setCell ⟨w.heap.size + 1, 1, none⟩ (.slice q1 (d.waits.length + l.length) c)) from by
                have e := AL.out l.length (Nat.le_refl _)
                rw [AA.out] at h1 e
                rw [← e] at h1 ⊢
                have k0' := (h0.set ⟨w.heap.size + 1, 0, none⟩ (.slice p0 d.sectors.length k0) (by show w.heap.size + 1 < _; omega)).set ⟨w.heap.size + 1, 1, none⟩ (.slice q1 (bufD d a l).waits.length c) (by show w.heap.size + 1 < _; omega)
                have k1' := (h1.set ⟨w.heap.size + 1, 0, none⟩ (.slice p0 d.sectors.length k0) (by show w.heap.size + 1 < _; omega)).set ⟨w.heap.size + 1, 1, none⟩ (.slice q1 (bufD d a l).waits.length c) (by show w.heap.size + 1 < _; omega)
                exact ⟨p0, k0, q1, c, rfl, ⟨k0'.one.1.rows.weak (Nat.zero_le _) (fun e => by cases e), k1'.one.1.rows.weak (Nat.zero_le _) (fun e => by cases e)⟩, ⟨k0'.one.2, k1'.one.2⟩, (hB.setCell (p := ⟨w.heap.size + 1, 0, none⟩) (by show _ ≤ w.heap.size + 1; omega) _).setCell (p := ⟨w.heap.size + 1, 1, none⟩) (by show _ ≤ w.heap.size + 1; omega) _⟩)
              clear h0 h1 hB hY hO hT
              go_wp2
              exact bodyPost_ret (v := .tuple #[.agg #[.slice p0 d.sectors.length k0, .slice q1 (d.waits.length + l.length) c], .int .i64 0]) (by simp [results, Try.results28, go_sem, *]) rfl F.out
end Go.Proofs.Ytpafhbnjefdhjaa.Rd
