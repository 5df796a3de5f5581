/-
  Placement tables: which are valid, and in how many places two rows differ, in the program.
-/
import Derived.Test.YteogbfmghbaelaaDDInt64
import Derived.Test.YteogbfmghbaelaaMpI
namespace Go.Proofs.Yteogbfmghbaelaa.Rd
open Go.RowKit Go.ChangeShapes Go.WideShapes Go.Proofs.Yteogbfmghbaelaa.GfI Go.Proofs.Yteogbfmghbaelaa.GfS
open Go.Proofs.Yteogbfmghbaelaa.Sg (BxN)
open Go.Proofs.Yteogbfmghbaelaa.Tm (IffB zF)
open Go.Proofs.Yteogbfmghbaelaa.MixC (Words)
set_option linter.unusedVariables false
set_option linter.unusedSimpArgs false

/-- In how many of the first k places two lists differ. -/
def difN (f g : Nat → Int) : Nat → Nat
  | 0 => 0
  | k + 1 => difN f g k + if f k = g k then 0 else 1
theorem difN_le (f g : Nat → Int) : ∀ k, difN f g k ≤ k
  | 0 => Nat.le_refl _
  | k + 1 => by have := difN_le f g k; unfold difN; split <;> omega
theorem difN_yes {f g : Nat → Int} {k : Nat} (h : f k = g k) : difN f g (k + 1) = difN f g k := by
  show difN f g k + (if f k = g k then 0 else 1) = _
  rw [if_pos h]; rfl
theorem difN_no {f g : Nat → Int} {k : Nat} (h : ¬ f k = g k) : difN f g (k + 1) = difN f g k + 1 := by
  show difN f g k + (if f k = g k then 0 else 1) = _
  rw [if_neg h]
/-- A row of a placement table. -/
def rowOk (l : List (List Int)) (x : List Int) : Prop := x.length ≤ 7 ∧ x.length = (l.getD 0 []).length ∧ ∀ z, z ∈ x → inB z (-1) 15 = true
def tblOk (l : List (List Int)) : Prop := l.length ≤ 16 ∧ ∀ i x, i < l.length → l[i]? = some x → rowOk l x
def noPl (x : Int) : Bool := !inB x (-1) 15
theorem ne_of_atT {α : Type} {l : List α} {k : Nat} {x : α} (h : l[k]? = some x) : l ≠ [] := by rintro rfl; simp at h
theorem isNodeT (n : Int) (w : World) : Calls Try.prog 48 #[.int .i64 n] w fun e w' => e = .returned (.bool (inB n 0 15)) ∧ w = w' := by
  go_enter Try.func48, Try.ntmps48
  go_wp2_with fail
  refine (Wi.isWithin n 0 15 (by omega) _).mono ?_
  rintro e w1 ⟨rfl, rfl⟩
  go_wp2
  go_ret
  exact ⟨rfl, rfl⟩
set_option maxRecDepth 100000 in
set_option maxHeartbeats 1000000 in
theorem isNoPlace (x : Int) (w : World) : Calls Try.prog 143 #[.int .i64 x] w (RetW (.bool (noPl x)) w) := by
  have N := fun w' => isNodeT x w'
  unfold noPl
  by_cases h : x = -1
  · subst h
    clear N
    go_enter Try.func143, Try.ntmps143
    go_wp2
    go_ret
    exact ⟨rfl, Below.refl _ _⟩
  · have h' : (x != -1) = true := by simpa using h
    have e : inB x (-1) 15 = inB x 0 15 := by unfold inB; rw [Bool.eq_iff_iff, decide_eq_true_iff, decide_eq_true_iff]; omega
    rw [e]
    clear e h
    generalize inB x 0 15 = ok at *
    have N := Lib.hid N
    go_enter Try.func143, Try.ntmps143
    go_wp2_with fail
    refine (N.out _).mono ?_
    rintro e w1 ⟨rfl, rfl⟩
    go_wp2
    go_ret
    exact ⟨rfl, Below.refl _ _⟩
set_option maxRecDepth 100000 in
set_option maxHeartbeats 1000000 in
theorem ctPlace_idx  (a : Option Addr) (cap : Nat) (l : List Int) (w : World) (hl : l.length ≤ 2097152) {fr : Bool} {lo : Nat} (hc : Rows fr lo w a l)  :
    Calls Try.prog 169 #[.slice a l.length cap, .func (.func 143) #[] #[]] w (IdxW (∃ x, x ∈ l ∧ noPl x = true) w) := by
  have HL := Lib.hid (fun k (h : k < l.length) => get_lt h)
  have NO := Lib.hid (fun (h : ∀ i x, i < l.length → l[i]? = some x → noPl x = false) => (show ¬ ∃ x, x ∈ l ∧ noPl x = true from none_of h))
  have MEM := Lib.hid (fun k x (h : l[k]? = some x) => List.mem_of_getElem? h)
  obtain ⟨n, hn⟩ : ∃ n, n = l.length := ⟨_, rfl⟩
  rw [← hn] at hl HL NO ⊢
  clear hn
  go_enter Try.func169, Try.ntmps169
  go_wp2
  go_loopw [8] (fun i wr => ∃ k : Nat, k ≤ n ∧ i = .int .i64 k ∧ (∀ i x, i < k → l[i]? = some x → noPl x = false) ∧ Below w.heap.size w wr) (fun i _ => n - (intOf i).toNat)
  case atStart => exact ⟨0, by omega, rfl, fun i x hi => absurd hi (Nat.not_lt_zero _), Below.refl _ _⟩
  case round =>
    obtain ⟨k, hk, rfl, HN, hw⟩ := hrel
    have HN := Lib.hid HN
    have HW := Lib.hid hw
    by_cases hlt : k < n
    · obtain ⟨x, hx⟩ := HL.out k hlt
      obtain ⟨b, off, cs, rfl, -, hB, hr, hcc⟩ := (hc.below hw).at' hx
      have r := hr
      obtain ⟨rfl, f0_0⟩ := hr
      have c0 : wr.cell? ⟨b, off + k, none⟩ = some (.int .i64 x) := by have := hcc 0 _ rfl; rwa [show off + k * Rdb.size Int + 0 = off + k from by show off + k * 1 + 0 = _; omega] at this
      have P := isNoPlace x wr
      have HX := Lib.hid hx
      clear hcc hc hw hx r
      cases hp : noPl x
      · rw [hp] at P
        have P := Lib.hid P
        have HN2 := Lib.hid (show ∀ i y, i < k + 1 → l[i]? = some y → noPl y = false from fun i y hi hy => by
          by_cases e : i = k
          · subst e; rw [HX.out] at hy; cases hy; exact hp
          · exact HN.out i y (by omega) hy)
        clear hp
        go_wp2_with fail
        refine P.out.mono ?_
        rintro e w1 ⟨rfl, b1⟩
        have B1 := Lib.hid (chainX w HW.out b1)
        clear b1 P
        go_wp2
        go_roundw
        case rel => exact ⟨k + 1, by omega, by go_num, HN2.out, B1.out⟩
        case measure => simp [intOf]; omega
      · rw [hp] at P
        have P := Lib.hid P
        have Y := Lib.hid (show ∃ x, x ∈ l ∧ noPl x = true from ⟨x, MEM.out k x HX.out, hp⟩)
        clear hp
        go_wp2_with fail
        refine P.out.mono ?_
        rintro e w1 ⟨rfl, b1⟩
        have B1 := Lib.hid (chainX w HW.out b1)
        clear b1 P
        go_wp2
        go_ret
        exact ⟨_, rfl, B1.out, .inl ⟨by omega, Y.out⟩⟩
    · obtain rfl : k = n := by omega
      have N := Lib.hid (NO.out HN.out)
      clear hc hw
      go_wp2
      go_ret
      exact ⟨_, rfl, HW.out, .inr ⟨rfl, N.out⟩⟩
set_option maxRecDepth 100000 in
set_option maxHeartbeats 1000000 in
theorem ctPlace  (a : Option Addr) (cap : Nat) (l : List Int) (w : World) (hl : l.length ≤ 2097152) {fr : Bool} {lo : Nat} (hc : Rows fr lo w a l)  :
    Calls Try.prog 130 #[.slice a l.length cap, .func (.func 143) #[] #[]] w (Tm.IffB (∃ x, x ∈ l ∧ noPl x = true) w) := by
  have I := Lib.hid (ctPlace_idx  a cap l w hl hc )
  clear hc
  go_enter Try.func130, Try.ntmps130
  go_wp2_with fail
  refine I.out.mono ?_
  rintro e w1 ⟨i, rfl, b1, ⟨h0, Y⟩ | ⟨rfl, N⟩⟩
  · have h' : decide (0 ≤ i) = true := decide_eq_true h0
    have Y := Lib.hid Y
    have B := Lib.hid b1
    clear b1
    go_wp2
    go_ret
    exact Tm.IffB.yes Y.out B.out
  · have N := Lib.hid N
    have B := Lib.hid b1
    clear b1
    go_wp2
    go_ret
    exact Tm.IffB.no N.out B.out
set_option maxRecDepth 100000 in
set_option maxHeartbeats 1000000 in
theorem movesOf (a b : Option Addr) (ca cb : Nat) (x y : List Int) (w : World) (hl : x.length ≤ 2097152) (he : x.length = y.length) (h1 : Words w a x) (h2 : Words w b y) :
    Calls Try.prog 84 #[.slice a x.length ca, .slice b y.length cb] w fun e w' => e = .returned (.int .i64 (difN (zF x) (zF y) x.length)) ∧ ∃ q, w' = w.drewN q := by
  have Y := Lib.hid (fun k (h : zF x k = zF y k) => difN_yes h)
  have N := Lib.hid (fun k (h : ¬ zF x k = zF y k) => difN_no h)
  have LE := Lib.hid (difN_le (zF x) (zF y))
  obtain ⟨n, hn⟩ : ∃ n, n = x.length := ⟨_, rfl⟩
  rw [← he, ← hn]
  rw [← hn] at hl
  have HX := Lib.hid hn
  have HY := Lib.hid (hn.trans he)
  clear hn he
  go_enter Try.func84, Try.ntmps84
  go_wp2
  go_loopw [5, 9] (fun m i wr => ∃ k q : Nat, k ≤ n ∧ i = .int .i64 k ∧ m = .int .i64 (difN (zF x) (zF y) k) ∧ wr = w.drewN q) (fun _ i _ => n - (intOf i).toNat)
  case atStart => exact ⟨0, 0, by omega, rfl, rfl, rfl⟩
  case round =>
    obtain ⟨k, q, hk, rfl, rfl, hw⟩ := hrel
    have HW := Lib.hid hw
    by_cases hlt : k < n
    · have kx : k < x.length := by rw [← HX.out]; exact hlt
      have ky : k < y.length := by rw [← HY.out]; exact hlt
      obtain ⟨b1, o1, rfl, _, c1⟩ := h1.resolve_left (by intro e; rw [e] at kx; simp at kx)
      obtain ⟨b2, o2, rfl, _, c2⟩ := h2.resolve_left (by intro e; rw [e] at ky; simp at ky)
      have d1 : wr.cell? ⟨b1, o1 + k, none⟩ = some (.int .i64 (zF x k)) := by rw [hw]; exact c1 k kx
      have d2 : wr.cell? ⟨b2, o2 + k, none⟩ = some (.int .i64 (zF y k)) := by rw [hw]; exact c2 k ky
      have j0 : (0 : Int) ≤ (k : Int) := by omega
      have j1 : (k : Int) < (n : Int) := by omega
      have l0 := LE.out k
      clear hw c1 c2 kx ky h1 h2
      by_cases e : zF x k = zF y k
      · have Z := Lib.hid (Y.out k e)
        rw [e] at d1
        clear e
        generalize difN (zF x) (zF y) k = m at *
        generalize zF y k = v at *
        go_wp2
        go_quiet (fail)
        go_wp2
        go_roundw
        case rel => exact ⟨k + 1, q + nq, by omega, by go_num, by rw [Z.out], by rw [HW.out, World.drewN_drewN]⟩
        case measure => simp [intOf]; omega
      · have Z := Lib.hid (N.out k e)
        have e' : (zF x k != zF y k) = true := by simpa using e
        clear e
        generalize difN (zF x) (zF y) k = m at *
        generalize zF y k = v at *
        generalize zF x k = u at *
        go_wp2
        go_quiet (fail)
        go_wp2
        go_roundw
        case rel => exact ⟨k + 1, q + nq, by omega, by go_num, by rw [Z.out]; go_num, by rw [HW.out, World.drewN_drewN]⟩
        case measure => simp [intOf]; omega
    · obtain rfl : k = n := by omega
      clear hw h1 h2
      go_wp2
      go_ret
      exact ⟨rfl, q, HW.out⟩
set_option maxRecDepth 100000 in
set_option maxHeartbeats 4000000 in
theorem tableOk (a : Option Addr) (cap : Nat) (l : List (List Int)) (w : World) (hs : Rdb.sz l ≤ 2097152) {fr : Bool} {lo : Nat} (hc : Rows fr lo w a l) :
    Calls Try.prog 83 #[.slice a l.length cap] w (IffB (tblOk l) w) := by
  have HL := Lib.hid (fun k (h : k < l.length) => get_lt h)
  have hl : l.length ≤ 2097152 := Nat.le_trans (sz_len l) hs
  have SM := Lib.hid (fun k x (h : l[k]? = some x) => Nat.le_trans (sz_len x) (Nat.le_trans (sz_mem h) hs))
  have G0 := Lib.hid (fun x (h : l[0]? = some x) => (show (l.getD 0 []).length = x.length by rw [List.getD_eq_getElem?_getD, h]; rfl))
  have TK := Lib.hid (show tblOk l ↔ l.length ≤ 16 ∧ ∀ i x, i < l.length → l[i]? = some x → rowOk l x from Iff.rfl)
  obtain ⟨n, hn⟩ : ∃ n, n = l.length := ⟨_, rfl⟩
  rw [← hn] at hl HL TK ⊢
  have RO := Lib.hid hc
  clear hn hs hc
  go_enter Try.func83, Try.ntmps83
  go_wp2
  go_loopw [7] (fun i wr => ∃ k : Nat, k ≤ n ∧ i = .int .i64 k ∧ (∀ i x, i < k → l[i]? = some x → rowOk l x) ∧ Below w.heap.size w wr) (fun i _ => n - (intOf i).toNat)
  case atStart => exact ⟨0, by omega, rfl, fun i x hi => absurd hi (Nat.not_lt_zero _), Below.refl _ _⟩
  case round =>
    obtain ⟨k, hk, rfl, P, hw⟩ := hrel
    have PH := Lib.hid P
    have HW := Lib.hid hw
    clear P
    by_cases hlt : k < n
    · obtain ⟨x, hx⟩ := HL.out k hlt
      obtain ⟨x0, hx0⟩ := HL.out 0 (by omega)
      obtain ⟨b, off, he, h0, hB, hf, hc⟩ := (RO.out.below hw).resolve_left (ne_of_atT hx)
      obtain ⟨cs, hr, hcc⟩ := hc k x hx
      obtain ⟨cs0, hr0, hcc0⟩ := hc 0 x0 hx0
      obtain ⟨g1, a1, k1, rfl, f1⟩ := hr
      obtain ⟨g0, a0, k0, rfl, f0⟩ := hr0
      subst he
      have c0 : wr.cell? ⟨b, off + k, none⟩ = some (.slice a1 x.length k1) := by have := hcc 0 _ rfl; rwa [show off + k * Rdb.size (List Int) + 0 = off + k from by show off + k * 1 + 0 = _; omega] at this
      have d0 : wr.cell? ⟨b, off, none⟩ = some (.slice a0 x0.length k0) := by have := hcc0 0 _ rfl; rwa [Nat.zero_mul] at this
      have hxl := SM.out k x hx
      have E0 := Lib.hid (G0.out x0 hx0)
      have ROW := Lib.hid (fun (h : ¬ rowOk l x) => show ¬ tblOk l from fun t => h ((TK.out.1 t).2 k x hlt hx))
      have NXT := Lib.hid (fun (h : rowOk l x) => show ∀ i y, i < k + 1 → l[i]? = some y → rowOk l y from fun i y hi hy => by
        by_cases q : i = k
        · subst q; rw [hx] at hy; cases hy; exact h
        · exact PH.out i y (by omega) hy)
      have IP := fun w' => Tm.isPlaceCount (x.length : Int) w'
      have CT := Lib.hid (fun w' (y : Below wr.heap.size wr w') => ctPlace a1 k1 x w' hxl (f1.below y))
      have hn0 : (0 : Int) < (n : Int) := by omega
      have hn1 : 0 < n := by omega
      clear hc hcc hcc0 hf h0 hB f1 f0 hw hx hx0
      by_cases h1 : x.length = x0.length
      · rw [h1] at c0 IP CT hxl
        have E1 := Lib.hid h1
        clear h1
        generalize x0.length = m at *
        cases h7 : inB (m : Int) 0 7
        · rw [h7] at IP
          have IP := Lib.hid IP
          have G := Lib.hid (ROW.out (fun r => by have := r.1; rw [E1.out] at this; rw [inB_yes (by omega) (by omega)] at h7; cases h7))
          clear h7 ROW NXT CT
          go_wp2_with fail
          refine (IP.out _).mono ?_
          rintro e w1 ⟨rfl, rfl⟩
          go_wp2
          go_ret
          exact IffB.no G.out HW.out
        · rw [h7] at IP
          have IP := Lib.hid IP
          have M7 := Lib.hid (show m ≤ 7 by have := of_decide_eq_true h7; omega)
          clear h7
          go_wp2_with fail
          refine (IP.out _).mono ?_
          rintro e w1 ⟨rfl, rfl⟩
          go_wp2_with fail
          refine (CT.out _ (Below.refl _ _)).mono ?_
          rintro e w1 ⟨r, rfl, hr, b1⟩
          have B1 := Lib.hid (chainX w HW.out b1)
          have HR := Lib.hid hr
          clear hr b1
          cases r
          · have Q := Lib.hid (NXT.out ⟨by rw [E1.out]; exact M7.out, by rw [E0.out, E1.out], fun z hz => by
              cases hb : inB z (-1) 15
              · exact absurd (HR.out.2 ⟨z, hz, by unfold noPl; rw [hb]; rfl⟩) (by simp)
              · rfl⟩)
            go_wp2
            go_roundw
            case rel => exact ⟨k + 1, by omega, by go_num, Q.out, B1.out⟩
            case measure => simp [intOf]; omega
          · have G := Lib.hid (ROW.out (fun r => by
              obtain ⟨z, hz, hp⟩ := HR.out.1 rfl
              unfold noPl at hp
              rw [r.2.2 z hz] at hp
              cases hp))
            go_wp2
            go_ret
            exact IffB.no G.out B1.out
      · have G := Lib.hid (ROW.out (fun r => h1 (by rw [r.2.1, E0.out])))
        have h1' : ((x.length : Int) != (x0.length : Int)) = true := by simpa using fun e => h1 (by omega)
        generalize x0.length = m at *
        generalize x.length = m1 at *
        clear IP CT ROW NXT
        go_wp2
        go_ret
        exact IffB.no G.out HW.out
    · obtain rfl : k = n := by omega
      clear hw
      by_cases h16 : k ≤ 16
      · have h' : decide ((k : Int) ≤ 16) = true := decide_eq_true (by omega)
        have G := Lib.hid (TK.out.2 ⟨h16, PH.out⟩)
        go_wp2
        go_ret
        exact IffB.yes G.out HW.out
      · have h' : decide ((k : Int) ≤ 16) = false := decide_eq_false (by omega)
        have G := Lib.hid (show ¬ tblOk l from fun t => h16 (TK.out.1 t).1)
        go_wp2
        go_ret
        exact IffB.no G.out HW.out
end Go.Proofs.Yteogbfmghbaelaa.Rd
