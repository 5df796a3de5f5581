/-
  RotSector in the model.
-/
import Derived.Test.YtpafhbnjefdhjaaDkT
import Derived.Test.YtpafhbnjefdhjaaTurn
import Derived.Deep.RegionWith
namespace Go.Proofs.Ytpafhbnjefdhjaa.Rd
open Go.RowKit Go.ChangeShapes Go.WideShapes Go.Proofs.Ytpafhbnjefdhjaa.GfI Go.Proofs.Ytpafhbnjefdhjaa.GfS
open Go.Proofs.Ytpafhbnjefdhjaa.Sg (BxN)
set_option linter.unusedVariables false
set_option linter.unusedSimpArgs false

/-- A disk with one byte of a sector turned. -/
def rotD (d : DDisk) (t q : Nat) (s : ByteArray) (y : Int) : DDisk := ⟨d.sectors.set t (turnS s q y), d.waits⟩
/-- What RotSector answers. -/
def RotP (d : DDisk) (i p y : Int) (r : DDisk) (c : Int) : Prop :=
  (¬ DOk d ∧ r = zeroD ∧ c = 1) ∨ (DOk d ∧ ((inD d.sectors.length i && inB p 0 63) && inB y 1 255) = false ∧ r = zeroD ∧ c = 2) ∨
  (DOk d ∧ ∃ t q s, i = ((t : Nat) : Int) ∧ p = ((q : Nat) : Int) ∧ q < 64 ∧ (1 ≤ y ∧ y ≤ 255) ∧ d.sectors[t]? = some s ∧ r = rotD d t q s y ∧ c = 0)
theorem rotP_ex (d : DDisk) (i p y : Int) : ∃ r c, RotP d i p y r c := by
  classical
  by_cases h : DOk d
  · cases e : ((inD d.sectors.length i && inB p 0 63) && inB y 1 255)
    · exact ⟨_, _, .inr (.inl ⟨h, e, rfl, rfl⟩)⟩
    · obtain ⟨e1, e3⟩ := Bool.and_eq_true_iff.1 e
      obtain ⟨e1, e2⟩ := Bool.and_eq_true_iff.1 e1
      obtain ⟨i0, i1⟩ := inD_yes e1
      have e2 : 0 ≤ p ∧ p ≤ 63 := of_decide_eq_true e2
      have e3 : 1 ≤ y ∧ y ≤ 255 := of_decide_eq_true e3
      obtain ⟨s, hs⟩ := get_lt (show i.toNat < d.sectors.length by omega)
      exact ⟨_, _, .inr (.inr ⟨h, i.toNat, p.toNat, s, by omega, by omega, by omega, e3, hs, rfl, rfl⟩)⟩
  · exact ⟨_, _, .inl ⟨h, rfl, rfl⟩⟩
theorem rot_sec {d : DDisk} (h : DOk d) {t q : Nat} {s : ByteArray} {y : Int} (hs : d.sectors[t]? = some s) : ∀ x, x ∈ (rotD d t q s y).sectors → sec x = true := fun x hx => by
  rcases List.mem_or_eq_of_mem_set hx with z | z
  · exact h.2.2.1 x z
  · rw [z]
    have := h.2.2.1 s (List.mem_of_getElem? hs)
    unfold sec at this ⊢
    rw [turnS_size]; exact this
theorem rotP_sz {d : DDisk} {i p y : Int} {r : DDisk} {c : Int} (h : RotP d i p y r c) : Rdb.sz r ≤ 2097152 := by
  rcases h with ⟨_, rfl, _⟩ | ⟨_, _, rfl, _⟩ | ⟨h, t, q, s, _, _, _, _, hs, rfl, _⟩
  · exact (by show (0 : Nat) ≤ _; omega)
  · exact (by show (0 : Nat) ≤ _; omega)
  · exact sz_disk 1200 600 (rot_sec h hs) (fun x hx => wait_sec (h.2.2.2 x hx)) (by show (d.sectors.set t _).length ≤ 1200; rw [List.length_set]; exact h.1.2) h.2.1 (by omega)
theorem One.put {lo hi : Nat} {w : World} {g t : Nat} {l : List ByteArray} {s : ByteArray} (h : One lo hi w (some ⟨g, 0, none⟩) l) (ht : t < l.length) (hs : s.size ≤ 9223372036854775807) : One lo hi (w.setCell ⟨g, t, none⟩ (.string s)) (some ⟨g, 0, none⟩) (l.set t s) := by
  rcases h with z | ⟨q, e, r, h1, h2⟩
  · rw [z] at ht; simp at ht
  · obtain rfl : g = q := by simpa using e
    have P := Rows.put (fun h => h) r ht (show Rdb.rd true lo w [.string s] s from ⟨rfl, hs⟩)
    rw [show 0 + t * Rdb.size ByteArray = t from by show 0 + t * 1 = _; omega] at P
    exact .inr ⟨g, rfl, P, h1, h2⟩
theorem One.at_ {lo hi : Nat} {w : World} {a : Option Addr} {l : List ByteArray} {t : Nat} {s : ByteArray} (h : One lo hi w a l) (hs : l[t]? = some s) : ∃ g, a = some ⟨g, 0, none⟩ ∧ lo ≤ g ∧ g < hi ∧ w.cell? ⟨g, t, none⟩ = some (.string s) ∧ w.frozen? ⟨g, t, none⟩ = false := by
  rcases h with z | ⟨g, rfl, r, h1, h2⟩
  · rw [z] at hs; simp at hs
  · obtain ⟨b, off, cs, e, -, hB, ⟨rfl, -⟩, hcc⟩ := r.at' hs
    obtain ⟨rfl, rfl⟩ : g = b ∧ 0 = off := by simpa using e
    refine ⟨g, rfl, h1, h2, by have := hcc 0 _ rfl; rwa [show 0 + t * Rdb.size ByteArray + 0 = t from by show 0 + t * 1 + 0 = _; omega] at this, ?_⟩
    rcases r with z | ⟨b2, o2, e2, -, -, hf, -⟩
    · rw [z] at hs; simp at hs
    · obtain ⟨rfl, -⟩ : g = b2 ∧ 0 = o2 := by simpa using e2
      exact hf rfl t
set_option maxRecDepth 100000 in
set_option maxHeartbeats 4000000 in
theorem specRotSector {cs : List Value} {fr : Bool} {lo : Nat} (d : DDisk) (i p y : Int) (R : DDisk) (rc : Int) (hp : RotP d i p y R rc) (w : World) (hs : Rdb.sz d ≤ 2097152) (h : Rdb.rd fr lo w cs d) :
    Calls Try.prog 40 #[.agg cs.toArray, .int .i64 i, .int .i64 p, .int .i64 y] w (AnsKR R rc w) := by
  have RD := h
  obtain ⟨a0, c0, a1, c1, rfl, f0, g0, f1, g1⟩ := shape_Disk h
  have L := Lib.hid (chain (lay w (.cells #[.slice a0 d.sectors.length c0, .slice a1 d.waits.length c1] 30)) (lay _ (.cells #[.slice none 0 0, .slice none 0 0] 30)))
  have X := Lib.hid ((BxN.new w #[.slice a0 d.sectors.length c0, .slice a1 d.waits.length c1] 30).later (lay _ (.cells #[.slice none 0 0, .slice none 0 0] 30)))
  have Y0 := BxN.new (w.alloc (.cells #[.slice a0 d.sectors.length c0, .slice a1 d.waits.length c1] 30)) #[.slice none 0 0, .slice none 0 0] 30
  rw [World.size_alloc] at Y0
  have Y := Lib.hid Y0
  have x0 := X.out.cells 0 _ rfl
  have x1 := X.out.cells 1 _ rfl
  have SZ := Lib.hid (show ((w.alloc (.cells #[.slice a0 d.sectors.length c0, .slice a1 d.waits.length c1] 30)).alloc (.cells #[.slice none 0 0, .slice none 0 0] 30)).heap.size = w.heap.size + 1 + 1 from by simp)
  have RW := Lib.hid (rd_rw2 f0 f1)
  have C := Lib.hid (specDiskOk d _ hs (Rdb.below RD L.out))
  have CH := Lib.hid (fun w' => l14Has d.sectors.length d.waits.length a0 a1 c0 c1 i w' g0.1)
  have CI := Lib.hid (fun w' => GfS.l00In p 0 63 w')
  have CJ := Lib.hid (fun w' => GfS.l00In y 1 255 w')
  clear Y0 f0 f1 h RD
  rcases hp with ⟨hk, rfl, rfl⟩ | ⟨hk, hi, rfl, rfl⟩ | ⟨hk, t, q, s, rfl, rfl, hq, hy, hsx, rfl, rfl⟩
  · have HK := Lib.hid hk
    clear hk
    go_enter Try.func40, Try.ntmps40
    go_wp2_with fail
    refine C.out.mono ?_
    rintro e w1 ⟨b, rfl, hb, b1⟩
    have B1 := Lib.hid (chainX w L.out b1)
    have X1 := Lib.hid (X.out.later b1)
    have Y1 := Lib.hid (Y.out.later b1)
    have x2 := X1.out.cells 0 _ rfl
    have x3 := X1.out.cells 1 _ rfl
    have HBB := Lib.hid hb
    clear b1 hb x0 x1
    cases b
    · clear HBB
      have y0 := Y1.out.cells 0 _ rfl
      have y1 := Y1.out.cells 1 _ rfl
      have z0 := Y1.out.free 0
      have z1 := Y1.out.free 1
      have F := Lib.hid (AnsKR.zero 1 (((B1.out.setCell (p := ⟨w.heap.size + 1, 0, none⟩) (by show _ ≤ w.heap.size + 1; omega) (.slice none 0 0)).setCell (p := ⟨w.heap.size + 1, 1, none⟩) (by show _ ≤ w.heap.size + 1; omega) (.slice none 0 0))))
      go_wp2
      exact bodyPost_ret (v := .tuple #[.agg #[.slice none 0 0, .slice none 0 0], .int .i64 1]) (by simp [results, Try.results40, go_sem, *]) rfl F.out
    · exact absurd (HBB.out.1 rfl) HK.out
  · have HK := Lib.hid hk
    clear hk
    generalize inD d.sectors.length i = u1 at *
    generalize inB p 0 63 = u2 at *
    generalize inB y 1 255 = u3 at *
    cases u1
    · clear hi
      go_enter Try.func40, Try.ntmps40
      go_wp2_with fail
      refine C.out.mono ?_
      rintro e w1 ⟨b, rfl, hb, b1⟩
      have B1 := Lib.hid (chainX w L.out b1)
      have X1 := Lib.hid (X.out.later b1)
      have Y1 := Lib.hid (Y.out.later b1)
      have x2 := X1.out.cells 0 _ rfl
      have x3 := X1.out.cells 1 _ rfl
      have HBB := Lib.hid hb
      clear b1 hb x0 x1
      cases b
      · have := HBB.out.2 HK.out; cases this
      clear HBB
      go_wp2_with fail
      refine (CH.out _).mono ?_
      rintro e w2 ⟨rfl, b2⟩
      have B2 := Lib.hid (chainX w B1.out b2)
      have X2 := Lib.hid (X1.out.later b2)
      have Y2 := Lib.hid (Y1.out.later b2)
      clear x2 x3 b2
      have x2 := X2.out.cells 0 _ rfl
      have x3 := X2.out.cells 1 _ rfl
      have y0 := Y2.out.cells 0 _ rfl
      have y1 := Y2.out.cells 1 _ rfl
      have z0 := Y2.out.free 0
      have z1 := Y2.out.free 1
      have F := Lib.hid (AnsKR.zero 2 (((B2.out.setCell (p := ⟨w.heap.size + 1, 0, none⟩) (by show _ ≤ w.heap.size + 1; omega) (.slice none 0 0)).setCell (p := ⟨w.heap.size + 1, 1, none⟩) (by show _ ≤ w.heap.size + 1; omega) (.slice none 0 0))))
      go_wp2
      exact bodyPost_ret (v := .tuple #[.agg #[.slice none 0 0, .slice none 0 0], .int .i64 2]) (by simp [results, Try.results40, go_sem, *]) rfl F.out
    · cases u2
      · clear hi
        go_enter Try.func40, Try.ntmps40
        go_wp2_with fail
        refine C.out.mono ?_
        rintro e w1 ⟨b, rfl, hb, b1⟩
        have B1 := Lib.hid (chainX w L.out b1)
        have X1 := Lib.hid (X.out.later b1)
        have Y1 := Lib.hid (Y.out.later b1)
        have x2 := X1.out.cells 0 _ rfl
        have x3 := X1.out.cells 1 _ rfl
        have HBB := Lib.hid hb
        clear b1 hb x0 x1
        cases b
        · have := HBB.out.2 HK.out; cases this
        clear HBB
        go_wp2_with fail
        refine (CH.out _).mono ?_
        rintro e w2 ⟨rfl, b2⟩
        have B2 := Lib.hid (chainX w B1.out b2)
        have X2 := Lib.hid (X1.out.later b2)
        have Y2 := Lib.hid (Y1.out.later b2)
        clear x2 x3 b2
        have x2 := X2.out.cells 0 _ rfl
        have x3 := X2.out.cells 1 _ rfl
        go_wp2_with fail
        refine (CI.out _).mono ?_
        rintro e w9 ⟨rfl, rfl⟩
        have y0 := Y2.out.cells 0 _ rfl
        have y1 := Y2.out.cells 1 _ rfl
        have z0 := Y2.out.free 0
        have z1 := Y2.out.free 1
        have F := Lib.hid (AnsKR.zero 2 (((B2.out.setCell (p := ⟨w.heap.size + 1, 0, none⟩) (by show _ ≤ w.heap.size + 1; omega) (.slice none 0 0)).setCell (p := ⟨w.heap.size + 1, 1, none⟩) (by show _ ≤ w.heap.size + 1; omega) (.slice none 0 0))))
        go_wp2
        exact bodyPost_ret (v := .tuple #[.agg #[.slice none 0 0, .slice none 0 0], .int .i64 2]) (by simp [results, Try.results40, go_sem, *]) rfl F.out
      · cases u3
        · clear hi
          go_enter Try.func40, Try.ntmps40
          go_wp2_with fail
          refine C.out.mono ?_
          rintro e w1 ⟨b, rfl, hb, b1⟩
          have B1 := Lib.hid (chainX w L.out b1)
          have X1 := Lib.hid (X.out.later b1)
          have Y1 := Lib.hid (Y.out.later b1)
          have x2 := X1.out.cells 0 _ rfl
          have x3 := X1.out.cells 1 _ rfl
          have HBB := Lib.hid hb
          clear b1 hb x0 x1
          cases b
          · have := HBB.out.2 HK.out; cases this
          clear HBB
          go_wp2_with fail
          refine (CH.out _).mono ?_
          rintro e w2 ⟨rfl, b2⟩
          have B2 := Lib.hid (chainX w B1.out b2)
          have X2 := Lib.hid (X1.out.later b2)
          have Y2 := Lib.hid (Y1.out.later b2)
          clear x2 x3 b2
          have x2 := X2.out.cells 0 _ rfl
          have x3 := X2.out.cells 1 _ rfl
          go_wp2_with fail
          refine (CI.out _).mono ?_
          rintro e w9 ⟨rfl, rfl⟩
          go_wp2_with fail
          refine (CJ.out _).mono ?_
          rintro e w9 ⟨rfl, rfl⟩
          have y0 := Y2.out.cells 0 _ rfl
          have y1 := Y2.out.cells 1 _ rfl
          have z0 := Y2.out.free 0
          have z1 := Y2.out.free 1
          have F := Lib.hid (AnsKR.zero 2 (((B2.out.setCell (p := ⟨w.heap.size + 1, 0, none⟩) (by show _ ≤ w.heap.size + 1; omega) (.slice none 0 0)).setCell (p := ⟨w.heap.size + 1, 1, none⟩) (by show _ ≤ w.heap.size + 1; omega) (.slice none 0 0))))
          go_wp2
          exact bodyPost_ret (v := .tuple #[.agg #[.slice none 0 0, .slice none 0 0], .int .i64 2]) (by simp [results, Try.results40, go_sem, *]) rfl F.out
        · cases hi
  · have HK := Lib.hid hk
    have htl := (List.getElem?_eq_some_iff.1 hsx).1
    have hin : inD d.sectors.length (t : Int) = true := inD_t htl
    have hip : inB (q : Int) 0 63 = true := inB_yes (by omega) (by omega)
    have hiy : inB y 1 255 = true := inB_yes hy.1 hy.2
    rw [hin] at CH
    rw [hip] at CI
    rw [hiy] at CJ
    have CH := Lib.hid CH.out
    have CI := Lib.hid CI.out
    have CJ := Lib.hid CJ.out
    have h64 : s.size = 64 := of_decide_eq_true (hk.2.2.1 s (List.mem_of_getElem? hsx))
    have hwy : IntKind.u8.wrap y = y := by rw [IntKind.wrap_u8]; omega
    have t0 : (0 : Int) ≤ (t : Int) := by omega
    have t1 : (t : Int) < (d.sectors.length : Int) := by omega
    have q0 : (0 : Int) ≤ (q : Int) := by omega
    have HTL := Lib.hid htl
    have HSX := Lib.hid hsx
    have RL := Lib.hid (show (rotD d t q s y).sectors.length = d.sectors.length from List.length_set)
    have CT := Lib.hid (fun w' => specTurn s (by omega) q (by omega) y hwy w')
    have CO := Lib.hid (fun w' (b : Below w.heap.size w w') => specL14Own d a0 c0 a1 c1 w' (dok_lens hk).1 (dok_lens hk).2 (RW.out.below b))
    have TSZ := Lib.hid (show (turnS s q y).size ≤ 9223372036854775807 from by rw [turnS_size]; omega)
    clear hk hin hip hiy hsx htl
    go_enter Try.func40, Try.ntmps40
    go_wp2_with fail
    refine C.out.mono ?_
    rintro e w1 ⟨b, rfl, hb, b1⟩
    have B1 := Lib.hid (chainX w L.out b1)
    have X1 := Lib.hid (X.out.later b1)
    have Y1 := Lib.hid (Y.out.later b1)
    have x2 := X1.out.cells 0 _ rfl
    have x3 := X1.out.cells 1 _ rfl
    have HBB := Lib.hid hb
    clear b1 hb x0 x1
    cases b
    · have := HBB.out.2 HK.out; cases this
    clear HBB
    go_wp2_with fail
    refine (CH.out _).mono ?_
    rintro e w2 ⟨rfl, b2⟩
    have B2 := Lib.hid (chainX w B1.out b2)
    have X2 := Lib.hid (X1.out.later b2)
    have Y2 := Lib.hid (Y1.out.later b2)
    clear x2 x3 b2
    have x2 := X2.out.cells 0 _ rfl
    have x3 := X2.out.cells 1 _ rfl
    go_wp2_with fail
    refine (CI.out _).mono ?_
    rintro e w9 ⟨rfl, rfl⟩
    go_wp2_with fail
    refine (CJ.out _).mono ?_
    rintro e w9 ⟨rfl, rfl⟩
    go_wp2_with fail
    refine (CO.out _ B2.out).mono ?_
    rintro e w5 ⟨p0, k0, p1, k1, rfl, o0, o1, b5⟩
    obtain ⟨g, rfl, gl, gh, gc, gf⟩ := o0.one.1.at_ HSX.out
    have NE := own_ne o1 o0 (by decide)
    have LO := lay w5 (.cells #[.slice (some ⟨g, 0, none⟩) d.sectors.length k0, .slice p1 d.waits.length k1] 30)
    have HB5 := Lib.hid (chainX w (chainX w B2.out b5) LO)
    have HY5 := Lib.hid ((Y2.out.later b5).later LO)
    have HO5 := Lib.hid (BxN.new w5 #[.slice (some ⟨g, 0, none⟩) d.sectors.length k0, .slice p1 d.waits.length k1] 30)
    have o2 := HO5.out.cells 0 _ rfl
    have BB : w.heap.size + 1 + 1 ≤ w2.heap.size := by have := Y2.out.lt; omega
    have e1 := (LO.cell (p := ⟨g, t, none⟩) gh).trans gc
    have OA := Lib.hid ((o0.one.1.later (Nat.le_refl _) LO))
    have OC := Lib.hid (o1.alloc (.cells #[.slice (some ⟨g, 0, none⟩) d.sectors.length k0, .slice p1 d.waits.length k1] 30))
    have KK := Lib.hid o0.one.2
    have GL := Lib.hid (show w.heap.size + 1 + 1 ≤ g from by omega)
    have GH := Lib.hid gh
    have GC := Lib.hid gc
    have GF := Lib.hid gf
    have LOH := Lib.hid LO
    have NEH := Lib.hid NE
    clear b5 o0 o1 LO x2 x3 gl gh gc gf NE BB
    go_wp2
    go_region_with (go_at_call 77; refine (CT.out _).mono ?_; rintro e w6 ⟨rfl, b6⟩; have b6 := undrewX b6; have B6 := Lib.hid (chainX w HB5.out b6); have Y6 := Lib.hid (HY5.out.later b6); have O6 := Lib.hid (HO5.out.later b6); have o4 := O6.out.cells 0 _ rfl; have LB := LOH.out.trans (b6.mono (by simp)); have e2 := (LB.cell (p := ⟨g, t, none⟩) GH.out).trans GC.out; have e3 := (LB.frozen (p := ⟨g, t, none⟩) GH.out).trans GF.out; have OA6 := Lib.hid ((OA.out.later (by simp) b6).put (t := t) HTL.out TSZ.out); have OC6 := Lib.hid ((OC.out.later b6).heap (w' := w6.setCell ⟨g, t, none⟩ (.string (turnS s q y))) (fun g' e' => heap_setCell_other w6 ⟨g, t, none⟩ g' _ (fun z => NEH.out g' e' (by rw [z]; rfl)))); have B7 := Lib.hid (B6.out.setCell (p := ⟨g, t, none⟩) (by show w.heap.size ≤ g; have := GL.out; omega) (.string (turnS s q y))); have Y7 := Lib.hid (Y6.out.far (p := ⟨g, t, none⟩) (by show g ≠ w.heap.size + 1; have := GL.out; omega) (.string (turnS s q y))); have O7 := Lib.hid (O6.out.far (p := ⟨g, t, none⟩) (by show g ≠ w5.heap.size; have := GH.out; omega) (.string (turnS s q y))); clear b6 LB)
    all_goals
      have v0 := Y7.out.cells 0 _ rfl
      have v1 := Y7.out.cells 1 _ rfl
      have vf0 := Y7.out.free 0
      have vf1 := Y7.out.free 1
      have ob0 := O7.out.cells 0 _ rfl
      have ob1 := O7.out.cells 1 _ rfl
      have F := Lib.hid (show AnsKR (rotD d t q s y) 0 w (.returned (.tuple #[.agg #[.slice (some ⟨g, 0, none⟩) d.sectors.length k0, .slice p1 d.waits.length k1], .int .i64 0])) (((w6.setCell ⟨g, t, none⟩ (.string (turnS s q y))).setCell ⟨w.heap.size + 1, 0, none⟩ (.slice (some ⟨g, 0, none⟩) d.sectors.length k0)).setCell ⟨w.heap.size + 1, 1, none⟩ (.slice p1 d.waits.length k1)) from by
        have BB : w.heap.size + 1 + 1 ≤ w2.heap.size := by have := Y2.out.lt; omega
        have z0 := (OA6.out.set ⟨w.heap.size + 1, 0, none⟩ (.slice (some ⟨g, 0, none⟩) d.sectors.length k0) (.inl (by show w.heap.size + 1 < _; omega))).set ⟨w.heap.size + 1, 1, none⟩ (.slice p1 d.waits.length k1) (.inl (by show w.heap.size + 1 < _; omega))
        have z1 := (OC6.out.set ⟨w.heap.size + 1, 0, none⟩ (.slice (some ⟨g, 0, none⟩) d.sectors.length k0) (by show w.heap.size + 1 < _; omega)).set ⟨w.heap.size + 1, 1, none⟩ (.slice p1 d.waits.length k1) (by show w.heap.size + 1 < _; omega)
        refine ⟨some ⟨g, 0, none⟩, k0, p1, k1, by rw [RL.out]; rfl, ⟨z0.rows.weak (Nat.zero_le _) (fun e => by cases e), z1.one.1.rows.weak (Nat.zero_le _) (fun e => by cases e)⟩, ⟨by rw [RL.out]; exact KK.out, z1.one.2⟩, (B7.out.setCell (p := ⟨w.heap.size + 1, 0, none⟩) (by show _ ≤ w.heap.size + 1; omega) _).setCell (p := ⟨w.heap.size + 1, 1, none⟩) (by show _ ≤ w.heap.size + 1; omega) _⟩)
      go_wp2
      exact bodyPost_ret (v := .tuple #[.agg #[.slice (some ⟨g, 0, none⟩) d.sectors.length k0, .slice p1 d.waits.length k1], .int .i64 0]) (by simp [results, Try.results40, go_sem, *]) rfl F.out
end Go.Proofs.Ytpafhbnjefdhjaa.Rd
