/-
  Moves in the model.
-/
import Derived.Test.YteogbfmghbaelaaMovS
namespace Go.Proofs.Yteogbfmghbaelaa.Rd
open Go.RowKit Go.ChangeShapes Go.WideShapes Go.Proofs.Yteogbfmghbaelaa.GfI Go.Proofs.Yteogbfmghbaelaa.GfS
open Go.Proofs.Yteogbfmghbaelaa.Sg (BxN)
open Go.Proofs.Yteogbfmghbaelaa.Tm (IffB zF)
open Go.Proofs.Yteogbfmghbaelaa.MixC (Words)
set_option linter.unusedVariables false
set_option linter.unusedSimpArgs false

set_option maxRecDepth 100000 in
set_option maxHeartbeats 8000000 in
theorem specMoves (a b : Option Addr) (ca cb : Nat) (x y : List (List Int)) (r0 r1 : Int) (w : World) (sx : Rdb.sz x ≤ 2097152) (sy : Rdb.sz y ≤ 2097152) {fr fr2 : Bool} {lo lo2 : Nat} (h1 : Rows fr lo w a x) (h2 : Rows fr2 lo2 w b y) (hv : MovP x y r0 r1) :
    Calls Try.prog 30 #[.slice a x.length ca, .slice b y.length cb] w (RetW (.tuple #[.int .i64 r0, .int .i64 r1]) w) := by
  have TA := Lib.hid (l10Rows a ca x w sx h1)
  have TB := Lib.hid (fun w' (k : Below w.heap.size w w') => l10Rows b cb y w' sy (h2.below k))
  have R1 := Lib.hid h1
  have R2 := Lib.hid h2
  have MX := Lib.hid (fun k u (h : x[k]? = some u) => Nat.le_trans (sz_len u) (Nat.le_trans (sz_mem h) sx))
  have HLx := Lib.hid (fun k (h : k < x.length) => get_lt h)
  have HLy := Lib.hid (fun k (h : k < y.length) => get_lt h)
  have lx : x.length ≤ 2097152 := Nat.le_trans (sz_len x) sx
  have ly : y.length ≤ 2097152 := Nat.le_trans (sz_len y) sy
  clear h1 h2
  rcases hv with ⟨hn, rfl, rfl⟩ | ⟨ha, hb, hn, rfl, rfl⟩ | ⟨ha, hb, hsh, rfl, rfl⟩
  · have HN := Lib.hid (show tblOk x → ¬ tblOk y from fun p q => hn ⟨p, q⟩)
    clear hn
    generalize x.length = n at *
    generalize y.length = m at *
    go_enter Try.func30, Try.ntmps30
    go_wp2_with fail
    refine TA.out.mono ?_
    rintro e w1 ⟨r, rfl, hr, b1⟩
    have B1 := Lib.hid b1
    cases r
    · clear hr b1
      go_wp2
      go_ret2
      exact ⟨rfl, B1.out⟩
    · have NB := Lib.hid (HN.out (hr.1 rfl))
      clear hr b1
      go_wp2_with fail
      refine (TB.out _ B1.out).mono ?_
      rintro e w2 ⟨r, rfl, hr, b2⟩
      have B2 := Lib.hid (chainX w B1.out b2)
      cases r
      · clear hr b2
        go_wp2
        go_ret2
        exact ⟨rfl, B2.out⟩
      · exact absurd (hr.1 rfl) NB.out
  · have HA := Lib.hid ha
    have HB := Lib.hid hb
    by_cases hl : x.length = y.length
    · have hd : 0 < x.length ∧ (x.getD 0 []).length ≠ (y.getD 0 []).length := by
        refine ⟨Classical.byContradiction fun q => hn ⟨hl, fun p => absurd p q⟩, fun q => hn ⟨hl, fun _ => q⟩⟩
      obtain ⟨hp, hd⟩ := hd
      obtain ⟨u, hu⟩ := HLx.out 0 hp
      obtain ⟨v, hv⟩ := HLy.out 0 (by omega)
      rw [getD_some hu, getD_some hv] at hd
      have hd' : ((u.length : Int) != (v.length : Int)) = true := by simpa using fun e => hd (by omega)
      have HU := Lib.hid hu
      have HV := Lib.hid hv
      have NX := Lib.hid (ne_of_atT hu)
      have NY := Lib.hid (ne_of_atT hv)
      rw [← hl] at TB ly ⊢
      have hpi : (0 : Int) < (x.length : Int) := by omega
      have hpd : decide ((0 : Int) < (x.length : Int)) = true := decide_eq_true hpi
      clear hu hv hn ha hb hl hd MX HLx HLy
      obtain ⟨n, hnn⟩ : ∃ n, n = x.length := ⟨_, rfl⟩
      rw [← hnn] at TA TB lx ly hp hpi hpd ⊢
      clear hnn
      go_enter Try.func30, Try.ntmps30
      go_wp2_with fail
      refine TA.out.mono ?_
      rintro e w1 ⟨r, rfl, hr, b1⟩
      have B1 := Lib.hid b1
      cases r
      · exact absurd (hr.2 HA.out) (by simp)
      clear hr b1
      go_wp2_with fail
      refine (TB.out _ B1.out).mono ?_
      rintro e w2 ⟨r, rfl, hr, b2⟩
      have B2 := Lib.hid (chainX w B1.out b2)
      cases r
      · exact absurd (hr.2 HB.out) (by simp)
      clear hr b2
      obtain ⟨bx, ox, ex, -, -, -, hcx⟩ := (R1.out.below B2.out).resolve_left NX.out
      obtain ⟨by', oy, ey, -, -, -, hcy⟩ := (R2.out.below B2.out).resolve_left NY.out
      obtain ⟨csx, ⟨gx, a1, k1, rfl, f1⟩, hccx⟩ := hcx 0 u HU.out
      obtain ⟨csy, ⟨gy, a2, k2, rfl, f2⟩, hccy⟩ := hcy 0 v HV.out
      subst ex ey
      have c0 : w2.cell? ⟨bx, ox, none⟩ = some (.slice a1 u.length k1) := by have := hccx 0 _ rfl; rwa [Nat.zero_mul] at this
      have d0 : w2.cell? ⟨by', oy, none⟩ = some (.slice a2 v.length k2) := by have := hccy 0 _ rfl; rwa [Nat.zero_mul] at this
      clear hcx hcy hccx hccy f1 f2
      generalize u.length = lu at *
      generalize v.length = lv at *
      go_wp2
      go_quiet (fail)
      go_wp2
      go_ret2
      exact ⟨rfl, below_drewN' B2.out _⟩
    · have hl' : ((x.length : Int) != (y.length : Int)) = true := by simpa using fun e => hl (by omega)
      clear hn ha hb hl MX HLx HLy
      generalize x.length = n at *
      generalize y.length = m at *
      go_enter Try.func30, Try.ntmps30
      go_wp2_with fail
      refine TA.out.mono ?_
      rintro e w1 ⟨r, rfl, hr, b1⟩
      have B1 := Lib.hid b1
      cases r
      · exact absurd (hr.2 HA.out) (by simp)
      clear hr b1
      go_wp2_with fail
      refine (TB.out _ B1.out).mono ?_
      rintro e w2 ⟨r, rfl, hr, b2⟩
      have B2 := Lib.hid (chainX w B1.out b2)
      cases r
      · exact absurd (hr.2 HB.out) (by simp)
      clear hr b2
      go_wp2
      go_quiet (fail)
      go_wp2
      go_ret2
      exact ⟨rfl, below_drewN' B2.out _⟩
  · have HA := Lib.hid ha
    have HB := Lib.hid hb
    have hl : x.length = y.length := hsh.1
    have h16 := ha.1
    have SH0 := Lib.hid hsh.2
    have LEQ := Lib.hid (fun k u v (hu : x[k]? = some u) (hv : y[k]? = some v) => len_eq ha hb hsh hu hv)
    have DS := Lib.hid (fun k u v (hu : x[k]? = some u) (hv : y[k]? = some v) => difT_succ hu hv)
    have DL := Lib.hid (fun k (h : k ≤ x.length) => difT_le (b := y) ha k h)
    have L7 := Lib.hid (fun k u (h : k < x.length) (hu : x[k]? = some u) => (ha.2 k u h hu).1)
    rw [← hl] at TB ly HLy ⊢
    clear ha hb hsh hl MX
    obtain ⟨n, hnn⟩ : ∃ n, n = x.length := ⟨_, rfl⟩
    rw [← hnn] at TA TB lx ly HLx HLy h16 DL L7 SH0 ⊢
    clear hnn
    by_cases hz : n = 0
    · have hpd : decide ((0 : Int) < (n : Int)) = false := decide_eq_false (by omega)
      have hpn : decide (0 < n) = false := decide_eq_false (by omega)
      clear hz
      go_enter Try.func30, Try.ntmps30
      go_wp2_with fail
      refine TA.out.mono ?_
      rintro e w1 ⟨r, rfl, hr, b1⟩
      have B1 := Lib.hid b1
      cases r
      · exact absurd (hr.2 HA.out) (by simp)
      clear hr b1
      go_wp2_with fail
      refine (TB.out _ B1.out).mono ?_
      rintro e w2 ⟨r, rfl, hr, b2⟩
      have B2 := Lib.hid (chainX w B1.out b2)
      cases r
      · exact absurd (hr.2 HB.out) (by simp)
      clear hr b2
      go_wp2
      go_quiet (fail)
      go_wp2
      go_loopw [6, 7] (fun mv i wr => ∃ k : Nat, k ≤ n ∧ i = .int .i64 k ∧ mv = .int .i64 (difT x y k) ∧ Below w.heap.size w wr) (fun _ i _ => n - (intOf i).toNat)
      case atStart => exact ⟨0, by omega, rfl, rfl, below_drewN' B2.out _⟩
      case round =>
        obtain ⟨k, hk, rfl, rfl, hw⟩ := hrel
        have HW := Lib.hid hw
        by_cases hlt : k < n
        · obtain ⟨u, hu⟩ := HLx.out k hlt
          obtain ⟨v, hv⟩ := HLy.out k hlt
          obtain ⟨bx, ox, ex, -, hBx, -, hcx⟩ := (R1.out.below hw).resolve_left (ne_of_atT hu)
          obtain ⟨by', oy, ey, -, hBy, -, hcy⟩ := (R2.out.below hw).resolve_left (ne_of_atT hv)
          obtain ⟨csx, ⟨gx, a1, k1, rfl, f1⟩, hccx⟩ := hcx k u hu
          obtain ⟨csy, ⟨gy, a2, k2, rfl, f2⟩, hccy⟩ := hcy k v hv
          subst ex ey
          have c0 : wr.cell? ⟨bx, ox + k, none⟩ = some (.slice a1 u.length k1) := by have := hccx 0 _ rfl; rwa [show ox + k * Rdb.size (List Int) + 0 = ox + k from by show ox + k * 1 + 0 = _; omega] at this
          have d0 : wr.cell? ⟨by', oy + k, none⟩ = some (.slice a2 v.length k2) := by have := hccy 0 _ rfl; rwa [show oy + k * Rdb.size (List Int) + 0 = oy + k from by show oy + k * 1 + 0 = _; omega] at this
          have el := LEQ.out k u v hu hv
          have S1 := Lib.hid (DS.out k u v hu hv)
          have l0 := DL.out k (by omega)
          have lu7 := L7.out k u hlt hu
          have DY := Lib.hid (fun j (h : zF u j = zF v j) => difN_yes h)
          have DN := Lib.hid (fun j (h : ¬ zF u j = zF v j) => difN_no h)
          have DE := Lib.hid (difN_le (zF u) (zF v))
          have WU := Lib.hid (rows_words f1)
          have WV := Lib.hid (rows_words f2)
          rw [← el] at d0
          have j0 : (0 : Int) ≤ (k : Int) := by omega
          have j1 : (k : Int) < (n : Int) := by omega
          obtain ⟨m, hm⟩ : ∃ m, m = u.length := ⟨_, rfl⟩
          have HM := Lib.hid hm
          have HM2 := Lib.hid (hm.trans el)
          rw [← hm] at c0 d0 lu7 S1
          have C0 := Lib.hid (fun w' (z : Below wr.heap.size wr w') => (z.cell (p := ⟨bx, ox + k, none⟩) hBx).trans c0)
          have D0 := Lib.hid (fun w' (z : Below wr.heap.size wr w') => (z.cell (p := ⟨by', oy + k, none⟩) hBy).trans d0)
          clear hcx hcy hccx hccy f1 f2 hw hu hv el hm hBx hBy
          generalize difT x y k = s at *
          obtain ⟨wo, hwo⟩ : ∃ wo : World, wo = wr := ⟨_, rfl⟩
          have c0' : wr.cell? ⟨bx, ox + k, none⟩ = some (.slice a1 m k1) := c0
          clear hwo wo c0'
          go_wp2
          go_loopw [6, 8] (fun mv i w2 => ∃ j : Nat, j ≤ m ∧ i = .int .i64 j ∧ mv = .int .i64 ((s + difN (zF u) (zF v) j : Nat) : Int) ∧ Below wr.heap.size wr w2) (fun _ i _ => m - (intOf i).toNat)
          case atStart => exact ⟨0, by omega, rfl, rfl, Below.refl _ _⟩
          case round =>
            rename_i w2
            obtain ⟨j, hj, rfl, rfl, hw2⟩ := hrel
            have HW2 := Lib.hid hw2
            have c2 := C0.out _ hw2
            have d2 := D0.out _ hw2
            have lj := DE.out j
            clear c0 d0
            by_cases hjl : j < m
            · have jx : j < u.length := by rw [← HM.out]; exact hjl
              have jy : j < v.length := by rw [← HM2.out]; exact hjl
              obtain ⟨b3, o3, rfl, _, n3⟩ := (WU.out.below hw2).resolve_left (by intro e; rw [e] at jx; simp at jx)
              obtain ⟨b4, o4, rfl, _, n4⟩ := (WV.out.below hw2).resolve_left (by intro e; rw [e] at jy; simp at jy)
              have e3 : World.cell? _ ⟨b3, o3 + j, none⟩ = some (.int .i64 (zF u j)) := n3 j jx
              have e4 : World.cell? _ ⟨b4, o4 + j, none⟩ = some (.int .i64 (zF v j)) := n4 j jy
              have i0 : (0 : Int) ≤ (j : Int) := by omega
              have i1 : (j : Int) < (m : Int) := by omega
              clear n3 n4 jx jy hw2
              by_cases e : zF u j = zF v j
              · have Z := Lib.hid (DY.out j e)
                rw [e] at e3
                clear e
                generalize difN (zF u) (zF v) j = t at *
                generalize zF v j = z at *
                go_wp2
                go_quiet (fail)
                go_wp2
                go_roundw
                case rel => exact ⟨j + 1, by omega, by go_num, by rw [Z.out], below_drewN' HW2.out _⟩
                case measure => simp [intOf]; omega
              · have Z := Lib.hid (DN.out j e)
                have e' : (zF u j != zF v j) = true := by simpa using e
                clear e
                generalize difN (zF u) (zF v) j = t at *
                generalize zF v j = z at *
                generalize zF u j = z2 at *
                go_wp2
                go_quiet (fail)
                go_wp2
                go_roundw
                case rel => exact ⟨j + 1, by omega, by go_num, by rw [Z.out]; go_num, below_drewN' HW2.out _⟩
                case measure => simp [intOf]; omega
            · obtain rfl : j = m := by omega
              clear hw2
              go_wp2
              go_roundw
              case rel => exact ⟨k + 1, by omega, by go_num, by rw [S1.out], chainX w HW.out HW2.out⟩
              case measure => simp [intOf]; omega
        · obtain rfl : k = n := by omega
          clear hw
          go_wp2
          go_ret2
          exact ⟨rfl, HW.out⟩
    · have hpi : (0 : Int) < (n : Int) := by omega
      have hp : 0 < n := by omega
      have hpd : decide ((0 : Int) < (n : Int)) = true := decide_eq_true hpi
      obtain ⟨u, hu⟩ := HLx.out 0 hp
      obtain ⟨v, hv⟩ := HLy.out 0 hp
      have hd := LEQ.out 0 u v hu hv
      have HU := Lib.hid hu
      have HV := Lib.hid hv
      have NX := Lib.hid (ne_of_atT hu)
      have NY := Lib.hid (ne_of_atT hv)
      clear hu hv hz
      go_enter Try.func30, Try.ntmps30
      go_wp2_with fail
      refine TA.out.mono ?_
      rintro e w1 ⟨r, rfl, hr, b1⟩
      have B1 := Lib.hid b1
      cases r
      · exact absurd (hr.2 HA.out) (by simp)
      clear hr b1
      go_wp2_with fail
      refine (TB.out _ B1.out).mono ?_
      rintro e w2 ⟨r, rfl, hr, b2⟩
      have B2 := Lib.hid (chainX w B1.out b2)
      cases r
      · exact absurd (hr.2 HB.out) (by simp)
      clear hr b2
      obtain ⟨bx, ox, ex, -, -, -, hcx⟩ := (R1.out.below B2.out).resolve_left NX.out
      obtain ⟨by', oy, ey, -, -, -, hcy⟩ := (R2.out.below B2.out).resolve_left NY.out
      obtain ⟨csx, ⟨gx, a1, k1, rfl, f1⟩, hccx⟩ := hcx 0 u HU.out
      obtain ⟨csy, ⟨gy, a2, k2, rfl, f2⟩, hccy⟩ := hcy 0 v HV.out
      subst ex ey
      have c0 : w2.cell? ⟨bx, ox, none⟩ = some (.slice a1 u.length k1) := by have := hccx 0 _ rfl; rwa [Nat.zero_mul] at this
      have d0 : w2.cell? ⟨by', oy, none⟩ = some (.slice a2 v.length k2) := by have := hccy 0 _ rfl; rwa [Nat.zero_mul] at this
      clear hcx hcy hccx hccy f1 f2
      rw [← hd] at d0
      clear hd
      generalize u.length = lu at *
      go_wp2
      go_quiet (fail)
      clear c0 d0
      go_wp2
      go_loopw [6, 7] (fun mv i wr => ∃ k : Nat, k ≤ n ∧ i = .int .i64 k ∧ mv = .int .i64 (difT x y k) ∧ Below w.heap.size w wr) (fun _ i _ => n - (intOf i).toNat)
      case atStart => exact ⟨0, by omega, rfl, rfl, below_drewN' B2.out _⟩
      case round =>
        obtain ⟨k, hk, rfl, rfl, hw⟩ := hrel
        have HW := Lib.hid hw
        by_cases hlt : k < n
        · obtain ⟨u, hu⟩ := HLx.out k hlt
          obtain ⟨v, hv⟩ := HLy.out k hlt
          obtain ⟨bx, ox, ex, -, hBx, -, hcx⟩ := (R1.out.below hw).resolve_left (ne_of_atT hu)
          obtain ⟨by', oy, ey, -, hBy, -, hcy⟩ := (R2.out.below hw).resolve_left (ne_of_atT hv)
          obtain ⟨csx, ⟨gx, a1, k1, rfl, f1⟩, hccx⟩ := hcx k u hu
          obtain ⟨csy, ⟨gy, a2, k2, rfl, f2⟩, hccy⟩ := hcy k v hv
          cases ex; cases ey
          have c0 : wr.cell? ⟨bx, ox + k, none⟩ = some (.slice a1 u.length k1) := by have := hccx 0 _ rfl; rwa [show ox + k * Rdb.size (List Int) + 0 = ox + k from by show ox + k * 1 + 0 = _; omega] at this
          have d0 : wr.cell? ⟨by', oy + k, none⟩ = some (.slice a2 v.length k2) := by have := hccy 0 _ rfl; rwa [show oy + k * Rdb.size (List Int) + 0 = oy + k from by show oy + k * 1 + 0 = _; omega] at this
          have el := LEQ.out k u v hu hv
          have S1 := Lib.hid (DS.out k u v hu hv)
          have l0 := DL.out k (by omega)
          have lu7 := L7.out k u hlt hu
          have DY := Lib.hid (fun j (h : zF u j = zF v j) => difN_yes h)
          have DN := Lib.hid (fun j (h : ¬ zF u j = zF v j) => difN_no h)
          have DE := Lib.hid (difN_le (zF u) (zF v))
          have WU := Lib.hid (rows_words f1)
          have WV := Lib.hid (rows_words f2)
          rw [← el] at d0
          have j0 : (0 : Int) ≤ (k : Int) := by omega
          have j1 : (k : Int) < (n : Int) := by omega
          obtain ⟨m, hm⟩ : ∃ m, m = u.length := ⟨_, rfl⟩
          have HM := Lib.hid hm
          have HM2 := Lib.hid (hm.trans el)
          rw [← hm] at c0 d0 lu7 S1
          have C0 := Lib.hid (fun w' (z : Below wr.heap.size wr w') => (z.cell (p := ⟨bx, ox + k, none⟩) hBx).trans c0)
          have D0 := Lib.hid (fun w' (z : Below wr.heap.size wr w') => (z.cell (p := ⟨by', oy + k, none⟩) hBy).trans d0)
          clear hcx hcy hccx hccy f1 f2 hw hu hv el hm hBx hBy
          generalize difT x y k = s at *
          obtain ⟨wo, hwo⟩ : ∃ wo : World, wo = wr := ⟨_, rfl⟩
          have c0' : wr.cell? ⟨bx, ox + k, none⟩ = some (.slice a1 m k1) := c0
          clear hwo wo c0'
          go_wp2
          go_loopw [6, 8] (fun mv i w2 => ∃ j : Nat, j ≤ m ∧ i = .int .i64 j ∧ mv = .int .i64 ((s + difN (zF u) (zF v) j : Nat) : Int) ∧ Below wr.heap.size wr w2) (fun _ i _ => m - (intOf i).toNat)
          case atStart => exact ⟨0, by omega, rfl, rfl, Below.refl _ _⟩
          case round =>
            rename_i w2
            obtain ⟨j, hj, rfl, rfl, hw2⟩ := hrel
            have HW2 := Lib.hid hw2
            have c2 := C0.out _ hw2
            have d2 := D0.out _ hw2
            have lj := DE.out j
            clear c0 d0
            by_cases hjl : j < m
            · have jx : j < u.length := by rw [← HM.out]; exact hjl
              have jy : j < v.length := by rw [← HM2.out]; exact hjl
              obtain ⟨b3, o3, rfl, _, n3⟩ := (WU.out.below hw2).resolve_left (by intro e; rw [e] at jx; simp at jx)
              obtain ⟨b4, o4, rfl, _, n4⟩ := (WV.out.below hw2).resolve_left (by intro e; rw [e] at jy; simp at jy)
              have e3 : World.cell? _ ⟨b3, o3 + j, none⟩ = some (.int .i64 (zF u j)) := n3 j jx
              have e4 : World.cell? _ ⟨b4, o4 + j, none⟩ = some (.int .i64 (zF v j)) := n4 j jy
              have i0 : (0 : Int) ≤ (j : Int) := by omega
              have i1 : (j : Int) < (m : Int) := by omega
              clear n3 n4 jx jy hw2
              by_cases e : zF u j = zF v j
              · have Z := Lib.hid (DY.out j e)
                rw [e] at e3
                clear e
                generalize difN (zF u) (zF v) j = t at *
                generalize zF v j = z at *
                go_wp2
                go_quiet (fail)
                go_wp2
                go_roundw
                case rel => exact ⟨j + 1, by omega, by go_num, by rw [Z.out], below_drewN' HW2.out _⟩
                case measure => simp [intOf]; omega
              · have Z := Lib.hid (DN.out j e)
                have e' : (zF u j != zF v j) = true := by simpa using e
                clear e
                generalize difN (zF u) (zF v) j = t at *
                generalize zF v j = z at *
                generalize zF u j = z2 at *
                go_wp2
                go_quiet (fail)
                go_wp2
                go_roundw
                case rel => exact ⟨j + 1, by omega, by go_num, by rw [Z.out]; go_num, below_drewN' HW2.out _⟩
                case measure => simp [intOf]; omega
            · obtain rfl : j = m := by omega
              clear hw2
              go_wp2
              go_roundw
              case rel => exact ⟨k + 1, by omega, by go_num, by rw [S1.out], chainX w HW.out HW2.out⟩
              case measure => simp [intOf]; omega
        · obtain rfl : k = n := by omega
          clear hw
          go_wp2
          go_ret2
          exact ⟨rfl, HW.out⟩
end Go.Proofs.Yteogbfmghbaelaa.Rd
