/-
  Moves in the program.
-/
import Derived.Test.YteogbfmghbaelaaMovI
namespace Go.Proofs.Yteogbfmghbaelaa.Rd
open Go.RowKit Go.ChangeShapes Go.WideShapes Go.Proofs.Yteogbfmghbaelaa.GfI Go.Proofs.Yteogbfmghbaelaa.GfS
open Go.Proofs.Yteogbfmghbaelaa.Sg (BxN)
open Go.Proofs.Yteogbfmghbaelaa.Tm (IffB zF)
open Go.Proofs.Yteogbfmghbaelaa.MixC (Words)
set_option linter.unusedVariables false
set_option linter.unusedSimpArgs false

def difT (a b : List (List Int)) : Nat → Nat
  | 0 => 0
  | k + 1 => difT a b k + difN (zF (a.getD k [])) (zF (b.getD k [])) (a.getD k []).length
def sameSh (a b : List (List Int)) : Prop := a.length = b.length ∧ (0 < a.length → (a.getD 0 []).length = (b.getD 0 []).length)
def MovP (a b : List (List Int)) (r0 r1 : Int) : Prop :=
  (¬ (tblOk a ∧ tblOk b) ∧ r0 = 0 ∧ r1 = 1) ∨ (tblOk a ∧ tblOk b ∧ ¬ sameSh a b ∧ r0 = 0 ∧ r1 = 2) ∨ (tblOk a ∧ tblOk b ∧ sameSh a b ∧ r0 = (difT a b a.length : Nat) ∧ r1 = 0)
theorem mov_ex (a b : List (List Int)) : ∃ r0 r1, MovP a b r0 r1 := by
  by_cases h : tblOk a ∧ tblOk b
  · by_cases g : sameSh a b
    · exact ⟨_, _, .inr (.inr ⟨h.1, h.2, g, rfl, rfl⟩)⟩
    · exact ⟨_, _, .inr (.inl ⟨h.1, h.2, g, rfl, rfl⟩)⟩
  · exact ⟨_, _, .inl ⟨h, rfl, rfl⟩⟩
theorem getD_some {l : List (List Int)} {k : Nat} {x : List Int} (h : l[k]? = some x) : l.getD k [] = x := by rw [List.getD_eq_getElem?_getD, h]; rfl
theorem difT_succ {a b : List (List Int)} {k : Nat} {x y : List Int} (h : a[k]? = some x) (g : b[k]? = some y) : difT a b (k + 1) = difT a b k + difN (zF x) (zF y) x.length := by
  show difT a b k + difN (zF (a.getD k [])) (zF (b.getD k [])) (a.getD k []).length = _
  rw [getD_some h, getD_some g]
theorem difT_le {a b : List (List Int)} (h : tblOk a) : ∀ k, k ≤ a.length → difT a b k ≤ 7 * k
  | 0, _ => Nat.le_refl _
  | k + 1, hk => by
    have h1 := difT_le (b := b) h k (by omega)
    obtain ⟨x, hx⟩ := get_lt (show k < a.length by omega)
    have h2 := (h.2 k x (by omega) hx).1
    have h3 := difN_le (zF (a.getD k [])) (zF (b.getD k [])) (a.getD k []).length
    have e : difT a b (k + 1) = difT a b k + difN (zF (a.getD k [])) (zF (b.getD k [])) (a.getD k []).length := rfl
    rw [getD_some hx] at h3 e
    omega
theorem len_eq {a b : List (List Int)} (ha : tblOk a) (hb : tblOk b) (s : sameSh a b) {k : Nat} {x y : List Int} (hx : a[k]? = some x) (hy : b[k]? = some y) : x.length = y.length := by
  have h1 := (List.getElem?_eq_some_iff.1 hx).1
  have h2 := (List.getElem?_eq_some_iff.1 hy).1
  rw [(ha.2 k x h1 hx).2.1, (hb.2 k y h2 hy).2.1]
  exact s.2 (by omega)
set_option maxRecDepth 100000 in
set_option maxHeartbeats 4000000 in
theorem implMoves (a b : Option Addr) (ca cb : Nat) (x y : List (List Int)) (r0 r1 : Int) (w : World) (sx : Rdb.sz x ≤ 2097152) (sy : Rdb.sz y ≤ 2097152) {fr fr2 : Bool} {lo lo2 : Nat} (h1 : Rows fr lo w a x) (h2 : Rows fr2 lo2 w b y) (hv : MovP x y r0 r1) :
    Calls Try.prog 32 #[.slice a x.length ca, .slice b y.length cb] w (RetW (.tuple #[.int .i64 r0, .int .i64 r1]) w) := by
  have TA := Lib.hid (tableOk a ca x w sx h1)
  have TB := Lib.hid (fun w' (k : Below w.heap.size w w') => tableOk b cb y w' sy (h2.below k))
  have R1 := Lib.hid h1
  have R2 := Lib.hid h2
  have MX := Lib.hid (fun k u (h : x[k]? = some u) => Nat.le_trans (sz_len u) (Nat.le_trans (sz_mem h) sx))
  have HLx := Lib.hid (fun k (h : k < x.length) => get_lt h)
  have HLy := Lib.hid (fun k (h : k < y.length) => get_lt h)
  have lx : x.length ≤ 2097152 := Nat.le_trans (sz_len x) sx
  have ly : y.length ≤ 2097152 := Nat.le_trans (sz_len y) sy
  clear h1 h2
  rcases hv with ⟨hn, rfl, rfl⟩ | ⟨ha, hb, hn, rfl, rfl⟩ | ⟨ha, hb, hsh, rfl, rfl⟩
  · have HN := Lib.hid (show tblOk x → ¬ tblOk y from fun p q => hn ⟨p, q⟩)
    clear hn
    generalize x.length = n at *
    generalize y.length = m at *
    go_enter Try.func32, Try.ntmps32
    go_wp2_with fail
    refine TA.out.mono ?_
    rintro e w1 ⟨r, rfl, hr, b1⟩
    have B1 := Lib.hid b1
    cases r
    · clear hr b1
      go_wp2
      go_ret2
      exact ⟨rfl, B1.out⟩
    · have NB := Lib.hid (HN.out (hr.1 rfl))
      clear hr b1
      go_wp2_with fail
      refine (TB.out _ B1.out).mono ?_
      rintro e w2 ⟨r, rfl, hr, b2⟩
      have B2 := Lib.hid (chainX w B1.out b2)
      cases r
      · clear hr b2
        go_wp2
        go_ret2
        exact ⟨rfl, B2.out⟩
      · exact absurd (hr.1 rfl) NB.out
  · have HA := Lib.hid ha
    have HB := Lib.hid hb
    by_cases hl : x.length = y.length
    · have hd : 0 < x.length ∧ (x.getD 0 []).length ≠ (y.getD 0 []).length := by
        refine ⟨Classical.byContradiction fun q => hn ⟨hl, fun p => absurd p q⟩, fun q => hn ⟨hl, fun _ => q⟩⟩
      obtain ⟨hp, hd⟩ := hd
      obtain ⟨u, hu⟩ := HLx.out 0 hp
      obtain ⟨v, hv⟩ := HLy.out 0 (by omega)
      rw [getD_some hu, getD_some hv] at hd
      have hd' : ((u.length : Int) != (v.length : Int)) = true := by simpa using fun e => hd (by omega)
      have HU := Lib.hid hu
      have HV := Lib.hid hv
      have NX := Lib.hid (ne_of_atT hu)
      have NY := Lib.hid (ne_of_atT hv)
      rw [← hl] at TB ly ⊢
      have hpi : (0 : Int) < (x.length : Int) := by omega
      clear hu hv hn ha hb hl hd MX HLx HLy
      obtain ⟨n, hnn⟩ : ∃ n, n = x.length := ⟨_, rfl⟩
      rw [← hnn] at TA TB lx ly hp hpi ⊢
      clear hnn
      go_enter Try.func32, Try.ntmps32
      go_wp2_with fail
      refine TA.out.mono ?_
      rintro e w1 ⟨r, rfl, hr, b1⟩
      have B1 := Lib.hid b1
      cases r
      · exact absurd (hr.2 HA.out) (by simp)
      clear hr b1
      go_wp2_with fail
      refine (TB.out _ B1.out).mono ?_
      rintro e w2 ⟨r, rfl, hr, b2⟩
      have B2 := Lib.hid (chainX w B1.out b2)
      cases r
      · exact absurd (hr.2 HB.out) (by simp)
      clear hr b2
      go_wp2
      go_loopw [6, 23] (fun mv i wr => i = .int .i64 0 ∧ mv = .int .i64 0 ∧ Below w.heap.size w wr) (fun _ i _ => n - (intOf i).toNat)
      case atStart => exact ⟨rfl, rfl, B2.out⟩
      case round =>
        obtain ⟨rfl, rfl, hw⟩ := hrel
        obtain ⟨bx, ox, ex, -, -, -, hcx⟩ := (R1.out.below hw).resolve_left NX.out
        obtain ⟨by', oy, ey, -, -, -, hcy⟩ := (R2.out.below hw).resolve_left NY.out
        obtain ⟨csx, ⟨gx, a1, k1, rfl, f1⟩, hccx⟩ := hcx 0 u HU.out
        obtain ⟨csy, ⟨gy, a2, k2, rfl, f2⟩, hccy⟩ := hcy 0 v HV.out
        subst ex ey
        have c0 : wr.cell? ⟨bx, ox, none⟩ = some (.slice a1 u.length k1) := by have := hccx 0 _ rfl; rwa [Nat.zero_mul] at this
        have d0 : wr.cell? ⟨by', oy, none⟩ = some (.slice a2 v.length k2) := by have := hccy 0 _ rfl; rwa [Nat.zero_mul] at this
        have HW := Lib.hid hw
        clear hcx hcy hccx hccy f1 f2 hw
        generalize u.length = lu at *
        generalize v.length = lv at *
        go_wp2
        go_quiet (fail)
        go_wp2
        go_ret2
        exact ⟨rfl, below_drewN' HW.out _⟩
    · have hl' : ((x.length : Int) != (y.length : Int)) = true := by simpa using fun e => hl (by omega)
      clear hn ha hb hl MX HLx HLy
      generalize x.length = n at *
      generalize y.length = m at *
      go_enter Try.func32, Try.ntmps32
      go_wp2_with fail
      refine TA.out.mono ?_
      rintro e w1 ⟨r, rfl, hr, b1⟩
      have B1 := Lib.hid b1
      cases r
      · exact absurd (hr.2 HA.out) (by simp)
      clear hr b1
      go_wp2_with fail
      refine (TB.out _ B1.out).mono ?_
      rintro e w2 ⟨r, rfl, hr, b2⟩
      have B2 := Lib.hid (chainX w B1.out b2)
      cases r
      · exact absurd (hr.2 HB.out) (by simp)
      clear hr b2
      go_wp2
      go_ret2
      exact ⟨rfl, B2.out⟩
  · have HA := Lib.hid ha
    have HB := Lib.hid hb
    have SH := Lib.hid hsh
    have hl : x.length = y.length := hsh.1
    have h16 := ha.1
    have LEQ := Lib.hid (fun k u v (hu : x[k]? = some u) (hv : y[k]? = some v) => len_eq ha hb hsh hu hv)
    have DS := Lib.hid (fun k u v (hu : x[k]? = some u) (hv : y[k]? = some v) => difT_succ hu hv)
    have DL := Lib.hid (fun k (h : k ≤ x.length) => difT_le (b := y) ha k h)
    have L7 := Lib.hid (fun k u (h : k < x.length) (hu : x[k]? = some u) => (ha.2 k u h hu).1)
    rw [← hl] at TB ly HLy ⊢
    clear ha hb hsh hl
    obtain ⟨n, hnn⟩ : ∃ n, n = x.length := ⟨_, rfl⟩
    rw [← hnn] at TA TB lx ly HLx HLy h16 DL L7 ⊢
    clear hnn
    go_enter Try.func32, Try.ntmps32
    go_wp2_with fail
    refine TA.out.mono ?_
    rintro e w1 ⟨r, rfl, hr, b1⟩
    have B1 := Lib.hid b1
    cases r
    · exact absurd (hr.2 HA.out) (by simp)
    clear hr b1
    go_wp2_with fail
    refine (TB.out _ B1.out).mono ?_
    rintro e w2 ⟨r, rfl, hr, b2⟩
    have B2 := Lib.hid (chainX w B1.out b2)
    cases r
    · exact absurd (hr.2 HB.out) (by simp)
    clear hr b2
    go_wp2
    go_loopw [6, 23] (fun mv i wr => ∃ k : Nat, k ≤ n ∧ i = .int .i64 k ∧ mv = .int .i64 (difT x y k) ∧ Below w.heap.size w wr) (fun _ i _ => n - (intOf i).toNat)
    case atStart => exact ⟨0, by omega, rfl, rfl, B2.out⟩
    case round =>
      obtain ⟨k, hk, rfl, rfl, hw⟩ := hrel
      have HW := Lib.hid hw
      by_cases hlt : k < n
      · obtain ⟨u, hu⟩ := HLx.out k hlt
        obtain ⟨v, hv⟩ := HLy.out k hlt
        obtain ⟨bx, ox, ex, -, -, -, hcx⟩ := (R1.out.below hw).resolve_left (ne_of_atT hu)
        obtain ⟨by', oy, ey, -, -, -, hcy⟩ := (R2.out.below hw).resolve_left (ne_of_atT hv)
        obtain ⟨csx, ⟨gx, a1, k1, rfl, f1⟩, hccx⟩ := hcx k u hu
        obtain ⟨csy, ⟨gy, a2, k2, rfl, f2⟩, hccy⟩ := hcy k v hv
        subst ex ey
        have c0 : wr.cell? ⟨bx, ox + k, none⟩ = some (.slice a1 u.length k1) := by have := hccx 0 _ rfl; rwa [show ox + k * Rdb.size (List Int) + 0 = ox + k from by show ox + k * 1 + 0 = _; omega] at this
        have d0 : wr.cell? ⟨by', oy + k, none⟩ = some (.slice a2 v.length k2) := by have := hccy 0 _ rfl; rwa [show oy + k * Rdb.size (List Int) + 0 = oy + k from by show oy + k * 1 + 0 = _; omega] at this
        have el := LEQ.out k u v hu hv
        have M := Lib.hid (fun w' (z : Below wr.heap.size wr w') => movesOf a1 a2 k1 k2 u v w' (MX.out k u hu) el (rows_words (f1.below z)) (rows_words (f2.below z)))
        have S1 := Lib.hid (DS.out k u v hu hv)
        have l0 := DL.out k (by omega)
        have l1 := difN_le (zF u) (zF v) u.length
        have l2 := L7.out k u hlt hu
        rw [← el] at d0 M
        have j0 : (0 : Int) ≤ (k : Int) := by omega
        have j1 : (k : Int) < (n : Int) := by omega
        clear hcx hcy hccx hccy f1 f2 hw hu hv el
        generalize difT x y k = s at *
        generalize difN (zF u) (zF v) u.length = t at *
        generalize u.length = lu at *
        go_wp2
        go_quiet (fail)
        have BQ0 := Lib.hid ((below_drewN' (Below.refl wr.heap.size wr) nq).drew)
        have MB := Lib.hid (M.out _ BQ0.out)
        have WS : IntKind.i64.wrap ((s : Int) + (t : Int)) = (s : Int) + (t : Int) := by rw [IntKind.wrap_i64]; omega
        go_wp2
        go_region_with (go_at_call 84; refine MB.out.mono ?_; rintro e w3 ⟨rfl, q3, rfl⟩)
        all_goals
          go_wp2
          go_roundw
          case rel => exact ⟨k + 1, by omega, by go_num, by rw [S1.out]; go_num, below_drewN' HW.out _⟩
          case measure => simp [intOf]; omega
      · obtain rfl : k = n := by omega
        clear hw
        go_wp2
        go_ret2
        exact ⟨rfl, HW.out⟩
end Go.Proofs.Yteogbfmghbaelaa.Rd
