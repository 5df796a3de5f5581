/-
  The program's checks of disks.
-/
import Derived.Test.YtdieekgihdikdaaDkM
import Derived.Deep.RegionHeld3
namespace Go.Proofs.Ytdieekgihdikdaa.Rd
open Go.RowKit Go.ChangeShapes Go.WideShapes Go.Proofs.Ytdieekgihdikdaa.GfI Go.Proofs.Ytdieekgihdikdaa.GfS
open Go.Proofs.Ytdieekgihdikdaa.Sg (BxN)
set_option linter.unusedVariables false
set_option linter.unusedSimpArgs false

set_option maxRecDepth 100000 in
set_option maxHeartbeats 1000000 in
theorem isSector (s : ByteArray) (w : World) (hs : s.size ≤ 9223372036854775807) : Calls Try.prog 98 #[.string s] w (RetW (.bool (sec s)) w) := by
  unfold sec
  by_cases q : s.size = 64
  · have e : ((s.size : Int) == 64) = true := by simp; omega
    rw [decide_eq_true q]
    go_enter Try.func98, Try.ntmps98
    go_wp2
    go_ret
    exact ⟨by first | rfl | simp [q], Below.refl _ _⟩
  · have e : ((s.size : Int) == 64) = false := by simp; omega
    rw [decide_eq_false q]
    go_enter Try.func98, Try.ntmps98
    go_wp2
    go_ret
    exact ⟨by first | rfl | simp [q], Below.refl _ _⟩
set_option maxRecDepth 100000 in
set_option maxHeartbeats 1000000 in
theorem noSector (s : ByteArray) (w : World) (hs : s.size ≤ 9223372036854775807) : Calls Try.prog 123 #[.string s] w (RetW (.bool (nosec s)) w) := by
  have C := Lib.hid (fun w' => isSector s w' hs)
  unfold nosec
  generalize sec s = b at *
  go_enter Try.func123, Try.ntmps123
  go_wp2_with fail
  refine (C.out _).mono ?_
  rintro e w1 ⟨rfl, b1⟩
  have B1 := Lib.hid b1
  clear b1
  cases b <;> (go_wp2; go_ret; exact ⟨rfl, B1.out⟩)
set_option maxRecDepth 100000 in
set_option maxHeartbeats 1000000 in
theorem ctSec_idx  (a : Option Addr) (cap : Nat) (l : List ByteArray) (w : World) (hl : l.length ≤ 2097152) {fr : Bool} {lo : Nat} (hc : Rows fr lo w a l)  :
    Calls Try.prog 126 #[.slice a l.length cap, .func (.func 123) #[] #[]] w (IdxW (∃ x, x ∈ l ∧ nosec x = true) w) := by
  have HL := Lib.hid (fun k (h : k < l.length) => get_lt h)
  have NO := Lib.hid (fun (h : ∀ i x, i < l.length → l[i]? = some x → nosec x = false) => (show ¬ ∃ x, x ∈ l ∧ nosec x = true from none_of h))
  have MEM := Lib.hid (fun k x (h : l[k]? = some x) => List.mem_of_getElem? h)
  obtain ⟨n, hn⟩ : ∃ n, n = l.length := ⟨_, rfl⟩
  rw [← hn] at hl HL NO ⊢
  clear hn
  go_enter Try.func126, Try.ntmps126
  go_wp2
  go_loopw [8] (fun i wr => ∃ k : Nat, k ≤ n ∧ i = .int .i64 k ∧ (∀ i x, i < k → l[i]? = some x → nosec x = false) ∧ Below w.heap.size w wr) (fun i _ => n - (intOf i).toNat)
  case atStart => exact ⟨0, by omega, rfl, fun i x hi => absurd hi (Nat.not_lt_zero _), Below.refl _ _⟩
  case round =>
    obtain ⟨k, hk, rfl, HN, hw⟩ := hrel
    have HN := Lib.hid HN
    have HW := Lib.hid hw
    by_cases hlt : k < n
    · obtain ⟨x, hx⟩ := HL.out k hlt
      obtain ⟨b, off, cs, rfl, -, hB, hr, hcc⟩ := (hc.below hw).at' hx
      have r := hr
      obtain ⟨rfl, f0_0⟩ := hr
      have c0 : wr.cell? ⟨b, off + k, none⟩ = some (.string x) := by have := hcc 0 _ rfl; rwa [show off + k * Rdb.size ByteArray + 0 = off + k from by show off + k * 1 + 0 = _; omega] at this
      have P := noSector x wr f0_0
      have HX := Lib.hid hx
      clear hcc hc hw hx r
      cases hp : nosec x
      · rw [hp] at P
        have P := Lib.hid P
        have HN2 := Lib.hid (show ∀ i y, i < k + 1 → l[i]? = some y → nosec y = false from fun i y hi hy => by
          by_cases e : i = k
          · subst e; rw [HX.out] at hy; cases hy; exact hp
          · exact HN.out i y (by omega) hy)
        clear hp
        go_wp2_with fail
        refine P.out.mono ?_
        rintro e w1 ⟨rfl, b1⟩
        have B1 := Lib.hid (chainX w HW.out b1)
        clear b1 P
        go_wp2
        go_roundw
        case rel => exact ⟨k + 1, by omega, by go_num, HN2.out, B1.out⟩
        case measure => simp [intOf]; omega
      · rw [hp] at P
        have P := Lib.hid P
        have Y := Lib.hid (show ∃ x, x ∈ l ∧ nosec x = true from ⟨x, MEM.out k x HX.out, hp⟩)
        clear hp
        go_wp2_with fail
        refine P.out.mono ?_
        rintro e w1 ⟨rfl, b1⟩
        have B1 := Lib.hid (chainX w HW.out b1)
        clear b1 P
        go_wp2
        go_ret
        exact ⟨_, rfl, B1.out, .inl ⟨by omega, Y.out⟩⟩
    · obtain rfl : k = n := by omega
      have N := Lib.hid (NO.out HN.out)
      clear hc hw
      go_wp2
      go_ret
      exact ⟨_, rfl, HW.out, .inr ⟨rfl, N.out⟩⟩
set_option maxRecDepth 100000 in
set_option maxHeartbeats 1000000 in
theorem ctSec  (a : Option Addr) (cap : Nat) (l : List ByteArray) (w : World) (hl : l.length ≤ 2097152) {fr : Bool} {lo : Nat} (hc : Rows fr lo w a l)  :
    Calls Try.prog 122 #[.slice a l.length cap, .func (.func 123) #[] #[]] w (IffB (∃ x, x ∈ l ∧ nosec x = true) w) := by
  have I := Lib.hid (ctSec_idx  a cap l w hl hc )
  clear hc
  go_enter Try.func122, Try.ntmps122
  go_wp2_with fail
  refine I.out.mono ?_
  rintro e w1 ⟨i, rfl, b1, ⟨h0, Y⟩ | ⟨rfl, N⟩⟩
  · have h' : decide (0 ≤ i) = true := decide_eq_true h0
    have Y := Lib.hid Y
    have B := Lib.hid b1
    clear b1
    go_wp2
    go_ret
    exact IffB.yes Y.out B.out
  · have N := Lib.hid N
    have B := Lib.hid b1
    clear b1
    go_wp2
    go_ret
    exact IffB.no N.out B.out
set_option maxRecDepth 100000 in
set_option maxHeartbeats 1000000 in
theorem sectorsOk (a : Option Addr) (cap : Nat) (l : List ByteArray) (w : World) (hl : l.length ≤ 2097152) {fr : Bool} {lo : Nat} (hc : Rows fr lo w a l) :
    Calls Try.prog 94 #[.slice a l.length cap] w (IffB (∀ s, s ∈ l → sec s = true) w) := by
  have C := Lib.hid (ctSec a cap l w hl hc)
  clear hc
  go_enter Try.func94, Try.ntmps94
  go_wp2_with fail
  refine C.out.mono ?_
  rintro e w1 ⟨b, rfl, hb, b1⟩
  have B1 := Lib.hid b1
  have HB := Lib.hid hb
  clear b1 hb
  cases b
  · have Y := Lib.hid (all_of (p := sec) (fun _ => rfl) (fun h => by have := HB.out.2 h; cases this))
    go_wp2
    go_ret
    exact IffB.yes Y.out B1.out
  · have Y := Lib.hid (not_all (p := sec) (fun _ => rfl) (HB.out.1 rfl))
    go_wp2
    go_ret
    exact IffB.no Y.out B1.out
set_option maxRecDepth 100000 in
set_option maxHeartbeats 1000000 in
theorem lacks (n m : Nat) (a0 a1 : Option Addr) (c0 c1 : Nat) (i : Int) (w : World) : Calls Try.prog 97 #[.agg #[.slice a0 n c0, .slice a1 m c1], .int .i64 i] w (RetW (.bool (!inD n i)) w) := by
  have L := Lib.hid (lay w (.cells #[.slice a0 n c0, .slice a1 m c1] 36))
  unfold inD
  by_cases q : i < 0
  · have q' : decide (i < 0) = true := decide_eq_true q
    rw [decide_eq_false (by omega)]
    clear q
    go_enter Try.func97, Try.ntmps97
    go_wp2
    go_ret
    exact ⟨rfl, L.out⟩
  · have q' : decide (i < 0) = false := decide_eq_false q
    by_cases r : (n : Int) ≤ i
    · have r' : decide ((n : Int) ≤ i) = true := decide_eq_true r
      rw [decide_eq_false (by omega)]
      clear q r
      go_enter Try.func97, Try.ntmps97
      go_wp2
      go_ret
      exact ⟨rfl, L.out⟩
    · have r' : decide ((n : Int) ≤ i) = false := decide_eq_false r
      rw [decide_eq_true (by omega)]
      clear q r
      go_enter Try.func97, Try.ntmps97
      go_wp2
      go_ret
      exact ⟨rfl, L.out⟩
set_option maxRecDepth 100000 in
set_option maxHeartbeats 1000000 in
theorem noWait (n m : Nat) (a0 a1 : Option Addr) (c0 c1 : Nat) (bb : Nat) (x : DPending) (w : World) (hs : x.bytes.size ≤ 9223372036854775807) (hb0 : BxN w bb [.slice a0 n c0, .slice a1 m c1]) :
    Calls Try.prog 96 #[.agg #[.int .i64 x.atF, .string x.bytes], .pointer (some ⟨bb, 0, none⟩)] w (RetW (.bool (nowait n x)) w) := by
  have LY := lay w (.cells #[.int .i64 x.atF, .string x.bytes] 87)
  have L := Lib.hid LY
  have Q := hb0.later LY
  have d0 := Q.cells 0 _ rfl
  have d1 := Q.cells 1 _ rfl
  have YN := BxN.new w #[.int .i64 x.atF, .string x.bytes] 87
  have y0 := YN.cells 0 _ rfl
  have y1 := YN.cells 1 _ rfl
  have YH := Lib.hid YN
  have C1 := Lib.hid (fun w' => lacks n m a0 a1 c0 c1 x.atF w')
  have C2 := Lib.hid (fun w' => isSector x.bytes w' hs)
  clear LY Q YN hb0
  unfold nowait wait
  generalize inD n x.atF = p at *
  generalize sec x.bytes = q at *
  generalize x.atF = xa at *
  generalize x.bytes = xb at *
  go_enter Try.func96, Try.ntmps96
  go_wp2_with fail
  refine (C1.out _).mono ?_
  rintro e w1 ⟨rfl, b1⟩
  have Y1 := YH.out.later b1
  have z1 := Y1.cells 1 _ rfl
  have B1 := Lib.hid (chainX w L.out b1)
  clear b1 Y1
  cases p
  · go_wp2
    go_ret
    exact ⟨rfl, B1.out⟩
  · go_wp2_with fail
    refine (C2.out _).mono ?_
    rintro e w2 ⟨rfl, b2⟩
    have B2 := Lib.hid (chainX w B1.out b2)
    clear b2
    cases q <;> (go_wp2; go_ret; exact ⟨rfl, B2.out⟩)
set_option maxRecDepth 100000 in
set_option maxHeartbeats 1000000 in
theorem ctWait_idx (ns ms : Nat) (pa pb : Option Addr) (es fs bb : Nat) (a : Option Addr) (cap : Nat) (l : List DPending) (w : World) (hl : l.length ≤ 2097152) {fr : Bool} {lo : Nat} (hc : Rows fr lo w a l) (hb0 : BxN w bb [.slice pa ns es, .slice pb ms fs]) :
    Calls Try.prog 124 #[.slice a l.length cap, .func (.func 96) #[] #[.pointer (some ⟨bb, 0, none⟩)]] w (IdxW (∃ x, x ∈ l ∧ (nowait ns) x = true) w) := by
  have HL := Lib.hid (fun k (h : k < l.length) => get_lt h)
  have NO := Lib.hid (fun (h : ∀ i x, i < l.length → l[i]? = some x → (nowait ns) x = false) => (show ¬ ∃ x, x ∈ l ∧ (nowait ns) x = true from none_of h))
  have MEM := Lib.hid (fun k x (h : l[k]? = some x) => List.mem_of_getElem? h)
  obtain ⟨n, hn⟩ : ∃ n, n = l.length := ⟨_, rfl⟩
  rw [← hn] at hl HL NO ⊢
  clear hn
  go_enter Try.func124, Try.ntmps124
  go_wp2
  go_loopw [8] (fun i wr => ∃ k : Nat, k ≤ n ∧ i = .int .i64 k ∧ (∀ i x, i < k → l[i]? = some x → (nowait ns) x = false) ∧ Below w.heap.size w wr) (fun i _ => n - (intOf i).toNat)
  case atStart => exact ⟨0, by omega, rfl, fun i x hi => absurd hi (Nat.not_lt_zero _), Below.refl _ _⟩
  case round =>
    obtain ⟨k, hk, rfl, HN, hw⟩ := hrel
    have HN := Lib.hid HN
    have HW := Lib.hid hw
    by_cases hlt : k < n
    · obtain ⟨x, hx⟩ := HL.out k hlt
      obtain ⟨b, off, cs, rfl, -, hB, hr, hcc⟩ := (hc.below hw).at' hx
      have r := hr
      obtain ⟨rfl, f0_0, f0_1⟩ := shape_Pending hr
      have c0 : wr.cell? ⟨b, off + k * 2, none⟩ = some (.int .i64 x.atF) := hcc 0 _ rfl
      have c1 : wr.cell? ⟨b, off + k * 2 + 1, none⟩ = some (.string x.bytes) := hcc 1 _ rfl
      have P := noWait ns ms pa pb es fs bb x wr f0_1 (hb0.later hw)
      have HX := Lib.hid hx
      clear hcc hc hw hx r
      cases hp : (nowait ns) x
      · rw [hp] at P
        have P := Lib.hid P
        have HN2 := Lib.hid (show ∀ i y, i < k + 1 → l[i]? = some y → (nowait ns) y = false from fun i y hi hy => by
          by_cases e : i = k
          · subst e; rw [HX.out] at hy; cases hy; exact hp
          · exact HN.out i y (by omega) hy)
        clear hp
        go_wp2_with fail
        refine P.out.mono ?_
        rintro e w1 ⟨rfl, b1⟩
        have B1 := Lib.hid (chainX w HW.out b1)
        clear b1 P
        go_wp2
        go_roundw
        case rel => exact ⟨k + 1, by omega, by go_num, HN2.out, B1.out⟩
        case measure => simp [intOf]; omega
      · rw [hp] at P
        have P := Lib.hid P
        have Y := Lib.hid (show ∃ x, x ∈ l ∧ (nowait ns) x = true from ⟨x, MEM.out k x HX.out, hp⟩)
        clear hp
        go_wp2_with fail
        refine P.out.mono ?_
        rintro e w1 ⟨rfl, b1⟩
        have B1 := Lib.hid (chainX w HW.out b1)
        clear b1 P
        go_wp2
        go_ret
        exact ⟨_, rfl, B1.out, .inl ⟨by omega, Y.out⟩⟩
    · obtain rfl : k = n := by omega
      have N := Lib.hid (NO.out HN.out)
      clear hc hw
      go_wp2
      go_ret
      exact ⟨_, rfl, HW.out, .inr ⟨rfl, N.out⟩⟩
set_option maxRecDepth 100000 in
set_option maxHeartbeats 1000000 in
theorem ctWait (ns ms : Nat) (pa pb : Option Addr) (es fs bb : Nat) (a : Option Addr) (cap : Nat) (l : List DPending) (w : World) (hl : l.length ≤ 2097152) {fr : Bool} {lo : Nat} (hc : Rows fr lo w a l) (hb0 : BxN w bb [.slice pa ns es, .slice pb ms fs]) :
    Calls Try.prog 95 #[.slice a l.length cap, .func (.func 96) #[] #[.pointer (some ⟨bb, 0, none⟩)]] w (IffB (∃ x, x ∈ l ∧ (nowait ns) x = true) w) := by
  have I := Lib.hid (ctWait_idx ns ms pa pb es fs bb a cap l w hl hc hb0)
  clear hc
  go_enter Try.func95, Try.ntmps95
  go_wp2_with fail
  refine I.out.mono ?_
  rintro e w1 ⟨i, rfl, b1, ⟨h0, Y⟩ | ⟨rfl, N⟩⟩
  · have h' : decide (0 ≤ i) = true := decide_eq_true h0
    have Y := Lib.hid Y
    have B := Lib.hid b1
    clear b1
    go_wp2
    go_ret
    exact IffB.yes Y.out B.out
  · have N := Lib.hid N
    have B := Lib.hid b1
    clear b1
    go_wp2
    go_ret
    exact IffB.no N.out B.out
set_option maxRecDepth 100000 in
set_option maxHeartbeats 1000000 in
theorem implDiskOk {cs : List Value} {fr : Bool} {lo : Nat} (d : DDisk) (w : World) (hs : Rdb.sz d ≤ 2097152) (h : Rdb.rd fr lo w cs d) :
    Calls Try.prog 50 #[.agg cs.toArray] w (IffB (DOk d) w) := by
  obtain ⟨a0_0, c0_0, a0_1, c0_1, rfl, f0_0, g0_0, f0_1, g0_1⟩ := shape_Disk h
  have E : Rdb.sz d = Rdb.sz d.sectors + Rdb.sz d.waits := rfl
  have e1 := sz_len d.sectors
  have e2 := sz_len d.waits
  have hl1 : d.sectors.length ≤ 2097152 := by omega
  have hl2 : d.waits.length ≤ 2097152 := by omega
  have LY := lay w (.cells #[.slice a0_0 d.sectors.length c0_0, .slice a0_1 d.waits.length c0_1] 36)
  have YN := BxN.new w #[.slice a0_0 d.sectors.length c0_0, .slice a0_1 d.waits.length c0_1] 36
  have y0 := YN.cells 0 _ rfl
  have y1 := YN.cells 1 _ rfl
  have C1 := Lib.hid (fun w' => Wi.isWithin (d.sectors.length : Int) 1 1200 (by omega) w')
  have C2 := Lib.hid (fun w' (b : Below w.heap.size w w') => sectorsOk a0_0 c0_0 d.sectors w' hl1 (f0_0.below b))
  have C3 := Lib.hid (fun w' (b : Below w.heap.size w w') (hb : BxN w' w.heap.size [.slice a0_0 d.sectors.length c0_0, .slice a0_1 d.waits.length c0_1]) => ctWait d.sectors.length d.waits.length a0_0 a0_1 c0_0 c0_1 w.heap.size a0_1 c0_1 d.waits w' hl2 (f0_1.below b) hb)
  have YH := Lib.hid YN
  have L := Lib.hid LY
  have Y0 := Lib.hid (fun (k : DOk d) => k.1)
  have Y1 := Lib.hid (fun (k : DOk d) => k.2.1)
  have Y2 := Lib.hid (fun (k : DOk d) => k.2.2.1)
  have Y3 := Lib.hid (fun (k : DOk d) => k.2.2.2)
  have YA := Lib.hid (fun (p : 1 ≤ d.sectors.length ∧ d.sectors.length ≤ 1200) (q : d.waits.length ≤ 600) (r : ∀ s, s ∈ d.sectors → sec s = true) (t : ¬ ∃ x, x ∈ d.waits ∧ nowait d.sectors.length x = true) => (show DOk d from ⟨p, q, r, all_of (fun _ => rfl) t⟩))
  have YB := Lib.hid (fun (t : ∃ x, x ∈ d.waits ∧ nowait d.sectors.length x = true) => (show ¬ DOk d from fun k => not_all (p := wait d.sectors.length) (fun _ => rfl) t k.2.2.2))
  clear YN LY f0_0 f0_1 h E e1 e2 hs
  generalize d.sectors.length = n at *
  generalize d.waits.length = m at *
  by_cases q0 : 1 ≤ n ∧ n ≤ 1200
  · have i0 := inB_yes (n := (n : Int)) (by omega : (1 : Int) ≤ n) (by omega : (n : Int) ≤ 1200)
    rw [i0] at C1
    have C1 := Lib.hid C1.out
    clear i0
    go_enter Try.func50, Try.ntmps50
    go_wp2_with fail
    refine (C1.out _).mono ?_
    rintro e w1 ⟨rfl, rfl⟩
    by_cases q1 : m ≤ 600
    · have q1' : decide ((600 : Int) < (m : Int)) = false := decide_eq_false (by omega)
      go_wp2_with fail
      refine (C2.out _ L.out).mono ?_
      rintro e w2 ⟨b, rfl, hb, b2⟩
      have B2 := Lib.hid (chainX w L.out b2)
      have Z2 := YH.out.later b2
      have z0 := Z2.cells 0 _ rfl
      have z1 := Z2.cells 1 _ rfl
      have HB := Lib.hid hb
      have ZH := Lib.hid Z2
      clear b2 Z2 hb
      cases b
      · have N := Lib.hid (show ¬ DOk d from fun k => by have := HB.out.2 (Y2.out k); cases this)
        go_wp2
        go_ret
        exact IffB.no N.out B2.out
      · have HB2 := Lib.hid (HB.out.1 rfl)
        clear HB
        go_wp2_with fail
        refine (C3.out _ B2.out ZH.out).mono ?_
        rintro e w3 ⟨b, rfl, hb, b3⟩
        have B3 := Lib.hid (chainX w B2.out b3)
        have HC := Lib.hid hb
        clear b3 hb
        cases b
        · have Y := Lib.hid (YA.out q0 q1 HB2.out (fun t => by have := HC.out.2 t; cases this))
          go_wp2
          go_ret
          exact IffB.yes Y.out B3.out
        · have N := Lib.hid (YB.out (HC.out.1 rfl))
          go_wp2
          go_ret
          exact IffB.no N.out B3.out
    · have q1' : decide ((600 : Int) < (m : Int)) = true := decide_eq_true (by omega)
      have N := Lib.hid (show ¬ DOk d from fun k => q1 (Y1.out k))
      go_wp2
      go_ret
      exact IffB.no N.out L.out
  · have i0 : inB (n : Int) 1 1200 = false := by unfold inB; rw [decide_eq_false]; omega
    rw [i0] at C1
    have C1 := Lib.hid C1.out
    have N := Lib.hid (show ¬ DOk d from fun k => q0 (Y0.out k))
    clear i0
    go_enter Try.func50, Try.ntmps50
    go_wp2_with fail
    refine (C1.out _).mono ?_
    rintro e w1 ⟨rfl, rfl⟩
    go_wp2
    go_ret
    exact IffB.no N.out L.out
end Go.Proofs.Ytdieekgihdikdaa.Rd
