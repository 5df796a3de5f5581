/-
  A sector read, in the program and in the model.
-/
import Derived.Test.YtpafhbnjefdhjaaDkF
import Derived.Test.YtpafhbnjefdhjaaDkS
namespace Go.Proofs.Ytpafhbnjefdhjaa.Rd
open Go.RowKit Go.ChangeShapes Go.WideShapes Go.Proofs.Ytpafhbnjefdhjaa.GfI Go.Proofs.Ytpafhbnjefdhjaa.GfS
open Go.Proofs.Ytpafhbnjefdhjaa.Sg (BxN)
set_option linter.unusedVariables false
set_option linter.unusedSimpArgs false

/-- What a sector reads as behind a list of writes. -/
def lastW (ws : List DPending) (i : Int) (s : ByteArray) : ByteArray := ws.foldl (fun s x => if x.atF = i then x.bytes else s) s
theorem lastW_succ {ws : List DPending} {k : Nat} {x : DPending} (h : ws[k]? = some x) (i : Int) (s : ByteArray) : lastW (ws.take (k + 1)) i s = if x.atF = i then x.bytes else lastW (ws.take k) i s := by
  unfold lastW; rw [List.take_add_one, h, List.foldl_append]; rfl
theorem flushL_at (t : Nat) : ∀ (ws : List DPending) (l : List ByteArray) (s : ByteArray), l[t]? = some s → (∀ x, x ∈ ws → 0 ≤ x.atF) → (flushL l ws)[t]? = some (lastW ws t s)
  | [], _, _, h, _ => h
  | x :: ws, l, s, h, k => by
    show (flushL (putS l x) ws)[t]? = some (lastW ws t (if x.atF = (t : Int) then x.bytes else s))
    refine flushL_at t ws (putS l x) _ ?_ (fun y hy => k y (by simp [hy]))
    have hx := k x (by simp)
    have ht : t < l.length := (List.getElem?_eq_some_iff.1 h).1
    unfold putS
    rw [List.getElem?_set]
    by_cases e : x.atF = (t : Int)
    · rw [if_pos (by omega), if_pos (by omega), if_pos e]
    · rw [if_neg (by omega), if_neg e]; exact h
theorem waits_pos {d : DDisk} (h : DOk d) : ∀ x, x ∈ d.waits → 0 ≤ x.atF := fun x hx => (inD_yes (dok_in h x hx)).1
/-- What ReadSector answers. -/
def RdP (d : DDisk) (i : Int) (s : ByteArray) (c : Int) : Prop :=
  (¬ DOk d ∧ s = ByteArray.empty ∧ c = 1) ∨ (DOk d ∧ inD d.sectors.length i = false ∧ s = ByteArray.empty ∧ c = 2) ∨
  (DOk d ∧ ∃ t y, i = ((t : Nat) : Int) ∧ d.sectors[t]? = some y ∧ s = lastW d.waits i y ∧ c = 0)
theorem rdP_ex (d : DDisk) (i : Int) : ∃ s c, RdP d i s c := by
  classical
  by_cases h : DOk d
  · cases hi : inD d.sectors.length i
    · exact ⟨_, _, .inr (.inl ⟨h, hi, rfl, rfl⟩)⟩
    · obtain ⟨i0, i1⟩ := inD_yes hi
      obtain ⟨y, hy⟩ := get_lt (show i.toNat < d.sectors.length by omega)
      exact ⟨_, _, .inr (.inr ⟨h, i.toNat, y, by omega, hy, rfl, rfl⟩)⟩
  · exact ⟨_, _, .inl ⟨h, rfl, rfl⟩⟩
theorem inD_t {n t : Nat} (h : t < n) : inD n (t : Int) = true := decide_eq_true ⟨by omega, by omega⟩
set_option maxRecDepth 100000 in
set_option maxHeartbeats 4000000 in
theorem l14Has (n m : Nat) (a0 a1 : Option Addr) (c0 c1 : Nat) (i : Int) (w : World) (hn : n ≤ 9223372036854775807) : Calls Try.prog 63 #[.agg #[.slice a0 n c0, .slice a1 m c1], .int .i64 i] w (RetW (.bool (inD n i)) w) := by
  have L := Lib.hid (lay w (.cells #[.slice a0 n c0, .slice a1 m c1] 30))
  have WR : IntKind.i64.wrap ((n : Int) - 1) = (n : Int) - 1 := by rw [IntKind.wrap_i64]; omega
  have C := Lib.hid (fun w' => GfS.l00In i 0 ((n : Int) - 1) w')
  have E : inD n i = inB i 0 ((n : Int) - 1) := by unfold inD inB; rw [decide_eq_decide]; omega
  rw [E]
  clear E
  generalize inB i 0 ((n : Int) - 1) = b at *
  go_enter Try.func63, Try.ntmps63
  go_wp2_with fail
  refine (C.out _).mono ?_
  rintro e w1 ⟨rfl, rfl⟩
  go_wp2
  go_ret
  exact ⟨rfl, L.out⟩
set_option maxRecDepth 100000 in
set_option maxHeartbeats 4000000 in
theorem implReadSector {cs : List Value} {fr : Bool} {lo : Nat} (d : DDisk) (i : Int) (s : ByteArray) (c : Int) (hp : RdP d i s c) (w : World) (hs : Rdb.sz d ≤ 2097152) (h : Rdb.rd fr lo w cs d) :
    Calls Try.prog 24 #[.agg cs.toArray, .int .i64 i] w (RetW (.tuple #[.string s, .int .i64 c]) w) := by
  have RD := h
  obtain ⟨a0, c0, a1, c1, rfl, f0, g0, f1, g1⟩ := shape_Disk h
  have L := Lib.hid (lay w (.cells #[.slice a0 d.sectors.length c0, .slice a1 d.waits.length c1] 30))
  have X := Lib.hid (BxN.new w #[.slice a0 d.sectors.length c0, .slice a1 d.waits.length c1] 30)
  have x0 := X.out.cells 0 _ rfl
  have x1 := X.out.cells 1 _ rfl
  have RW := Lib.hid (rd_rw2 f0 f1)
  have C := Lib.hid (implDiskOk d _ hs (Rdb.below RD L.out))
  have C1 := Lib.hid (fun w' => lacks d.sectors.length d.waits.length a0 a1 c0 c1 i w')
  clear f0 f1 h RD
  have step : ∀ b, (b = true ↔ DOk d) → IffB (DOk d) (w.alloc (.cells #[.slice a0 d.sectors.length c0, .slice a1 d.waits.length c1] 30)) (.returned (.bool b)) (w.alloc (.cells #[.slice a0 d.sectors.length c0, .slice a1 d.waits.length c1] 30)) := fun b hb => ⟨b, rfl, hb, Below.refl _ _⟩
  clear step
  rcases hp with ⟨hk, rfl, rfl⟩ | ⟨hk, hi, rfl, rfl⟩ | ⟨hk, t, y, rfl, hy, rfl, rfl⟩
  · have HK := Lib.hid hk
    clear hk
    go_enter Try.func24, Try.ntmps24
    go_wp2_with fail
    refine C.out.mono ?_
    rintro e w1 ⟨b, rfl, hb, b1⟩
    have B1 := Lib.hid (chainX w L.out b1)
    cases b
    · clear hb b1
      go_wp2
      go_ret2
      exact ⟨rfl, B1.out⟩
    · exact absurd (hb.1 rfl) HK.out
  · have HK := Lib.hid hk
    rw [hi] at C1
    have C1 := Lib.hid C1.out
    clear hk hi
    go_enter Try.func24, Try.ntmps24
    go_wp2_with fail
    refine C.out.mono ?_
    rintro e w1 ⟨b, rfl, hb, b1⟩
    have B1 := Lib.hid (chainX w L.out b1)
    have X1 := X.out.later b1
    have x2 := X1.cells 0 _ rfl
    have x3 := X1.cells 1 _ rfl
    cases b
    · have := hb.2 HK.out; cases this
    clear hb b1 X1 x0 x1
    go_wp2_with fail
    refine (C1.out _).mono ?_
    rintro e w2 ⟨rfl, b2⟩
    have B2 := Lib.hid (chainX w B1.out b2)
    clear b2 x2 x3
    go_wp2
    go_ret2
    exact ⟨rfl, B2.out⟩
  · have HK := Lib.hid hk
    have hin : inD d.sectors.length (t : Int) = true := inD_t (List.getElem?_eq_some_iff.1 hy).1
    have htl := (List.getElem?_eq_some_iff.1 hy).1
    rw [hin] at C1
    have C1 := Lib.hid C1.out
    have CF := Lib.hid (fun w' (b : Below w.heap.size w w') => implFlushed d a0 c0 a1 c1 w' (dok_lens hk).1 (dok_lens hk).2 (RW.out.below b) (dok_in hk))
    have FA := Lib.hid (flushL_at t d.waits d.sectors y hy (waits_pos hk))
    have FN := Lib.hid (show (flushD d).sectors.length = d.sectors.length from flushL_len _ _)
    have t0 : (0 : Int) ≤ (t : Int) := by omega
    have t1 : (t : Int) < ((flushD d).sectors.length : Int) := by rw [FN.out]; omega
    clear hk hin hy
    go_enter Try.func24, Try.ntmps24
    go_wp2_with fail
    refine C.out.mono ?_
    rintro e w1 ⟨b, rfl, hb, b1⟩
    have B1 := Lib.hid (chainX w L.out b1)
    have X1 := Lib.hid (X.out.later b1)
    have x2 := X1.out.cells 0 _ rfl
    have x3 := X1.out.cells 1 _ rfl
    cases b
    · have := hb.2 HK.out; cases this
    clear hb b1 x0 x1
    go_wp2_with fail
    refine (C1.out _).mono ?_
    rintro e w2 ⟨rfl, b2⟩
    have B2 := Lib.hid (chainX w B1.out b2)
    have X2 := X1.out.later b2
    clear x2 x3
    have x2 := X2.cells 0 _ rfl
    have x3 := X2.cells 1 _ rfl
    clear b2 X2
    go_wp2_with fail
    refine (CF.out _ B2.out).mono ?_
    rintro e w3 ⟨p0, k0, p1, k1, rfl, o, l, b3⟩
    have B3 := Lib.hid (chainX w B2.out b3)
    have R := o.rows.1
    obtain ⟨bq, oq, csq, rfl, -, hBq, ⟨rfl, -⟩, hcq⟩ := R.at' FA.out
    have dq : w3.cell? ⟨bq, oq + t, none⟩ = some (.string (lastW d.waits t y)) := by have := hcq 0 _ rfl; rwa [show oq + t * Rdb.size ByteArray + 0 = oq + t from by show oq + t * 1 + 0 = _; omega] at this
    have hfld : ∀ (a : Option Addr) (n c : Nat) (b : Option Addr) (m e : Nat) (w : World), Sem.run Try.prog (Instr.field 30 (.agg #[.slice a n c, .slice b m e]) 0) w = .ok (.slice a n c) w := fun _ _ _ _ _ _ _ => by kernel_rfl
    clear o l b3 R hcq x2 x3
    generalize lastW d.waits t y = Z at *
    generalize (flushD d).sectors.length = N at *
    go_wp2
    go_ret2
    exact ⟨rfl, B3.out⟩
set_option maxRecDepth 100000 in
set_option maxHeartbeats 4000000 in
theorem specReadSector {cs : List Value} {fr : Bool} {lo : Nat} (d : DDisk) (i : Int) (s : ByteArray) (c : Int) (hp : RdP d i s c) (w : World) (hs : Rdb.sz d ≤ 2097152) (h : Rdb.rd fr lo w cs d) :
    Calls Try.prog 23 #[.agg cs.toArray, .int .i64 i] w (RetW (.tuple #[.string s, .int .i64 c]) w) := by
  have RD := h
  obtain ⟨a0, c0, a1, c1, rfl, f0, g0, f1, g1⟩ := shape_Disk h
  have L := Lib.hid (lay w (.cells #[.slice a0 d.sectors.length c0, .slice a1 d.waits.length c1] 30))
  have X := Lib.hid (BxN.new w #[.slice a0 d.sectors.length c0, .slice a1 d.waits.length c1] 30)
  have x0 := X.out.cells 0 _ rfl
  have x1 := X.out.cells 1 _ rfl
  have RW := Lib.hid (rd_rw2 f0 f1)
  have C := Lib.hid (specDiskOk d _ hs (Rdb.below RD L.out))
  have C1 := Lib.hid (fun w' => l14Has d.sectors.length d.waits.length a0 a1 c0 c1 i w' g0.1)
  clear f0 f1 h RD
  rcases hp with ⟨hk, rfl, rfl⟩ | ⟨hk, hi, rfl, rfl⟩ | ⟨hk, t, y, rfl, hy, rfl, rfl⟩
  · have HK := Lib.hid hk
    clear hk
    go_enter Try.func23, Try.ntmps23
    go_wp2_with fail
    refine C.out.mono ?_
    rintro e w1 ⟨b, rfl, hb, b1⟩
    have B1 := Lib.hid (chainX w L.out b1)
    cases b
    · clear hb b1
      go_wp2
      go_ret2
      exact ⟨rfl, B1.out⟩
    · exact absurd (hb.1 rfl) HK.out
  · have HK := Lib.hid hk
    rw [hi] at C1
    have C1 := Lib.hid C1.out
    clear hk hi
    go_enter Try.func23, Try.ntmps23
    go_wp2_with fail
    refine C.out.mono ?_
    rintro e w1 ⟨b, rfl, hb, b1⟩
    have B1 := Lib.hid (chainX w L.out b1)
    have X1 := X.out.later b1
    have x2 := X1.cells 0 _ rfl
    have x3 := X1.cells 1 _ rfl
    cases b
    · have := hb.2 HK.out; cases this
    clear hb b1 X1 x0 x1
    go_wp2_with fail
    refine (C1.out _).mono ?_
    rintro e w2 ⟨rfl, b2⟩
    have B2 := Lib.hid (chainX w B1.out b2)
    clear b2 x2 x3
    go_wp2
    go_ret2
    exact ⟨rfl, B2.out⟩
  · have HK := Lib.hid hk
    have htl := (List.getElem?_eq_some_iff.1 hy).1
    have hin : inD d.sectors.length (t : Int) = true := inD_t htl
    rw [hin] at C1
    have C1 := Lib.hid C1.out
    have t0 : (0 : Int) ≤ (t : Int) := by omega
    have t1 : (t : Int) < (d.sectors.length : Int) := by omega
    have LS := Lib.hid (fun k x (h : d.waits[k]? = some x) => lastW_succ h (t : Int) y)
    have LA := Lib.hid (show lastW (d.waits.take d.waits.length) t y = lastW d.waits t y from by rw [List.take_length])
    have L0 := Lib.hid (show lastW (d.waits.take 0) t y = y from rfl)
    have GET := Lib.hid (fun j (h : j < d.waits.length) => get_lt h)
    have HY := Lib.hid hy
    have ml : d.waits.length ≤ 1000000 := (dok_lens hk).2
    clear hk hin hy htl
    generalize lastW d.waits t y = Z at *
    obtain ⟨m, hm⟩ : ∃ m, m = d.waits.length := ⟨_, rfl⟩
    rw [← hm] at LA GET ml C C1 X L x1 ⊢
    obtain ⟨n, hn⟩ : ∃ n, n = d.sectors.length := ⟨_, rfl⟩
    rw [← hn] at t1 C C1 X L x0 x1 ⊢
    clear hm hn
    go_enter Try.func23, Try.ntmps23
    go_wp2_with fail
    refine C.out.mono ?_
    rintro e w1 ⟨b, rfl, hb, b1⟩
    have B1 := Lib.hid (chainX w L.out b1)
    have X1 := Lib.hid (X.out.later b1)
    have x2 := X1.out.cells 0 _ rfl
    have x3 := X1.out.cells 1 _ rfl
    cases b
    · have := hb.2 HK.out; cases this
    clear hb b1 x0 x1
    go_wp2_with fail
    refine (C1.out _).mono ?_
    rintro e w2 ⟨rfl, b2⟩
    have B2 := Lib.hid (chainX w B1.out b2)
    have X2 := Lib.hid (X1.out.later b2)
    clear x2 x3
    have x2 := X2.out.cells 0 _ rfl
    have x3 := X2.out.cells 1 _ rfl
    have WM : IntKind.i64.wrap ((m : Int) - 1) = (m : Int) - 1 := by rw [IntKind.wrap_i64]; omega
    clear b2
    go_wp2
    go_loopw [6] (fun i wr => ∃ k : Nat, k ≤ m ∧ i = .int .i64 ((k : Int) - 1) ∧ lastW (d.waits.take k) t y = Z ∧ Below w.heap.size w wr ∧ BxN wr w.heap.size [.slice a0 n c0, .slice a1 m c1]) (fun i _ => (intOf i + 1).toNat)
    case atStart => exact ⟨m, Nat.le_refl _, rfl, LA.out, B2.out, X2.out⟩
    case round =>
      obtain ⟨k, hk, rfl, hZ, hB, hX⟩ := hrel
      have HB := Lib.hid hB
      have HX := Lib.hid hX
      have x4 := hX.cells 0 _ rfl
      have x5 := hX.cells 1 _ rfl
      clear x2 x3
      cases k with
      | zero =>
        have R := (RW.out.below hB).1
        obtain ⟨bq, oq, csq, rfl, -, hBq, ⟨rfl, -⟩, hcq⟩ := R.at' HY.out
        have dq : wr.cell? ⟨bq, oq + t, none⟩ = some (.string y) := by have := hcq 0 _ rfl; rwa [show oq + t * Rdb.size ByteArray + 0 = oq + t from by show oq + t * 1 + 0 = _; omega] at this
        obtain rfl : y = Z := hZ
        clear hB hX R hcq
        go_wp2
        go_ret2
        exact ⟨rfl, HB.out⟩
      | succ k =>
        obtain ⟨x, hx⟩ := GET.out k (by omega)
        have R := (RW.out.below hB).2
        obtain ⟨b, off, cs, rfl, -, hBb, hr, hcc⟩ := R.at' hx
        obtain ⟨rfl, f0, f1⟩ := shape_Pending hr
        have c0' : wr.cell? ⟨b, off + k * 2, none⟩ = some (.int .i64 x.atF) := hcc 0 _ rfl
        have c1' : wr.cell? ⟨b, off + k * 2 + 1, none⟩ = some (.string x.bytes) := hcc 1 _ rfl
        have E1 : (((k + 1 : Nat) : Int) - 1) = (k : Int) := by omega
        have WK : IntKind.i64.wrap ((k : Int) - 1) = (k : Int) - 1 := by rw [IntKind.wrap_i64]; omega
        have k0 : (0 : Int) ≤ (k : Int) := by omega
        have k1 : (k : Int) < (m : Int) := by omega
        rw [LS.out k x hx] at hZ
        rw [E1]
        by_cases q : x.atF = (t : Int)
        · rw [if_pos q] at hZ
          subst hZ
          rw [q] at c0'
          clear hB hX R hr hcc hx E1 q
          generalize x.bytes = xb at *
          go_wp2
          go_ret2
          exact ⟨rfl, HB.out⟩
        · rw [if_neg q] at hZ
          have q' : (x.atF == (t : Int)) = false := by simpa using q
          have HZ := Lib.hid hZ
          clear hB hX R hr hcc hx E1 hZ q
          generalize x.bytes = xb at *
          generalize x.atF = xa at *
          go_wp2
          go_roundw
          case rel => exact ⟨k, by omega, by go_num, HZ.out, HB.out, HX.out⟩
          case measure => first | (simp [intOf]; done) | (simp [intOf]; omega)
end Go.Proofs.Ytpafhbnjefdhjaa.Rd
