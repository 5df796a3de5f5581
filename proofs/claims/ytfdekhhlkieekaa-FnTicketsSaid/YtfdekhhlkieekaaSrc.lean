/-
  The source of choices that the laws draw from: what it returns lies within its bounds, and only its own block turns.
-/
import Derived.Test.YtfdekhhlkieekaaAt
import Derived.Deep.AppendLies
import Derived.Laws.AppendOwnNone
namespace Go.Proofs.Ytfdekhhlkieekaa.Sr
open Go.RowKit Go.Proofs.Ytfdekhhlkieekaa.At
set_option linter.unusedVariables false

/-- The source's block, its parts named. -/
structure Parts (w : World) (B : Nat) (a : Option Addr) (len cap : Nat) (f : Nat → Int) (at' seed : Int) (m : Int) : Prop where
  c0 : w.cell? ⟨B, 0, none⟩ = some (.slice a len cap)
  c1 : w.cell? ⟨B, 1, none⟩ = some (.int .i64 at')
  c2 : w.cell? ⟨B, 2, none⟩ = some (.int .u64 seed)
  f1 : w.frozen? ⟨B, 1, none⟩ = false
  f2 : w.frozen? ⟨B, 2, none⟩ = false
  a0 : 0 ≤ at'
  a1 : at' ≤ m
  s0 : 0 ≤ seed
  s1 : seed ≤ 18446744073709551615
  l1 : len ≤ 2000000
  B1 : B < w.heap.size
  bs : len = 0 ∨ ∃ b off, a = some ⟨b, off, none⟩ ∧ b < B ∧ ∀ i, i < len → w.cell? ⟨b, off + i, none⟩ = some (.int .u8 (f i)) ∧ 0 ≤ f i ∧ f i ≤ 255
/-- A source in block B that at most m choices were read from. -/
def Src (w : World) (B : Nat) (m : Int) : Prop := ∃ a len cap f at' seed, Parts w B a len cap f at' seed m

/-- Behind a choice: a number below n; only block B has turned; at most m choices are read. -/
def Drew (w : World) (B : Nat) (m n : Int) (e : Ending) (w' : World) : Prop := Under n e ∧ Src w' B m ∧ w.grownBy w' (some B)

theorem wrap_bounds (n : Int) : 0 ≤ IntKind.u64.wrap n ∧ IntKind.u64.wrap n ≤ 18446744073709551615 := by rw [IntKind.wrap_u64]; omega
theorem u64_255 {x : Int} (h0 : 0 ≤ x) (h1 : x ≤ 18446744073709551615) : bits .and .u64 x 255 = x % 256 := by
  have := u64_and x 255 h0 (by omega) (by omega) (by omega)
  rw [this, show (255 : Int).toNat = 255 from rfl, nat_mask8]; omega
/-- The world behind a choice. -/
def after (w : World) (B q r : Nat) (t x : Int) : World := (((w.drewN q).setCell ⟨B, 1, none⟩ (.int .i64 t)).setCell ⟨B, 2, none⟩ (.int .u64 x)).drewN r
theorem cell_put {w : World} {B q r : Nat} {t x : Int} (p : Addr) (hp : p.block ≠ B) : (after w B q r t x).cell? p = w.cell? p := by
  unfold after
  rw [World.cell?_drewN, World.cell?_setCell_other _ _ _ _ (by intro e; rw [← e] at hp; exact hp rfl), World.cell?_setCell_other _ _ _ _ (by intro e; rw [← e] at hp; exact hp rfl), World.cell?_drewN]
theorem Parts.turned {w : World} {B : Nat} {a : Option Addr} {len cap : Nat} {f : Nat → Int} {t seed m : Int} (P : Parts w B a len cap f t seed m) (q r : Nat) (x : Int) (x0 : 0 ≤ x) (x1 : x ≤ 18446744073709551615) :
    Src (after w B q r (t + 1) x) B (m + 1) ∧ w.grownBy (after w B q r (t + 1) x) (some B) := by
  have e1 : ((w.drewN q).setCell ⟨B, 1, none⟩ (.int .i64 (t + 1))).cell? ⟨B, 1, none⟩ = some (.int .i64 (t + 1)) := World.cell?_setCell_same _ _ _ P.c1
  have e2 : ((w.drewN q).setCell ⟨B, 1, none⟩ (.int .i64 (t + 1))).cell? ⟨B, 2, none⟩ = some (.int .u64 seed) := by rw [World.cell?_setCell_other _ _ _ _ (by simp)]; exact P.c2
  refine ⟨⟨a, len, cap, f, t + 1, x, ?_, ?_, ?_, ?_, ?_, by have := P.a0; omega, by have := P.a1; omega, x0, x1, P.l1, by simp [after, World.setCell]; exact P.B1, ?_⟩, ?_⟩
  · unfold after; rw [World.cell?_drewN, World.cell?_setCell_other _ _ _ _ (by simp), World.cell?_setCell_other _ _ _ _ (by simp)]; exact P.c0
  · unfold after; rw [World.cell?_drewN, World.cell?_setCell_other _ _ _ _ (by simp)]; exact e1
  · unfold after; rw [World.cell?_drewN]; exact World.cell?_setCell_same _ _ _ e2
  · unfold after; rw [World.frozen?_drewN, World.frozen?_setCell, World.frozen?_setCell]; exact P.f1
  · unfold after; rw [World.frozen?_drewN, World.frozen?_setCell, World.frozen?_setCell]; exact P.f2
  · rcases P.bs with h | ⟨b, off, ha, hb, hc⟩
    · exact .inl h
    · exact .inr ⟨b, off, ha, hb, fun i hi => ⟨(cell_put _ (Nat.ne_of_lt hb)).trans (hc i hi).1, (hc i hi).2⟩⟩
  · refine ⟨rfl, rfl, rfl, by simp [after, World.setCell], fun k hk hne => ?_⟩
    have hkB : k ≠ B := fun e => hne (by rw [e])
    show (((w.drewN q).setCell ⟨B, 1, none⟩ _).setCell ⟨B, 2, none⟩ _).heap[k]? = _
    rw [Below.heap_setCell _ _ _ _ hkB, Below.heap_setCell _ _ _ _ hkB]; rfl

set_option maxRecDepth 100000 in
theorem next (B : Nat) (m : Int) (hm : m ≤ 1000000000) (w : World) (h : Src w B m) :
    Calls Try.prog 83 #[.pointer (some ⟨B, 0, none⟩)] w (Drew w B (m + 1) 256) := by
  obtain ⟨a, len, cap, f, t, seed, P⟩ := h
  have c0 := P.c0
  have c1 := P.c1
  have c2 := P.c2
  have f1 := P.f1
  have f2 := P.f2
  have a0 := P.a0
  have a1 := P.a1
  have s0 := P.s0
  have s1 := P.s1
  have l1 := P.l1
  by_cases hlt : t < len
  · obtain ⟨b, off, rfl, hbB0, hc⟩ := P.bs.resolve_left (by omega)
    have hbB : b ≠ B := Nat.ne_of_lt hbB0
    have hb : b < w.heap.size := Nat.lt_trans hbB0 P.B1
    obtain ⟨j, rfl⟩ := Int.eq_ofNat_of_zero_le a0
    obtain ⟨d, d0, d1⟩ := hc j (by omega)
    generalize f j = v at d d0 d1
    have HP := Lib.hid P
    clear hc P
    go_enter Try.func83, Try.ntmps83
    have X := wrap_bounds (IntKind.u64.wrap (IntKind.u64.wrap (seed * 6364136223846793005) + v) + 1442695040888963407)
    go_wp2
    go_quiet (fail)
    go_wp2
    go_quiet (fail)
    go_wp2
    generalize IntKind.u64.wrap (IntKind.u64.wrap (IntKind.u64.wrap (seed * 6364136223846793005) + v) + 1442695040888963407) = x at *
    go_quiet (fail)
    go_wp2
    go_ret
    exact ⟨⟨v, d0, by omega, rfl⟩, HP.out.turned _ _ x X.1 X.2⟩
  · have HP := Lib.hid P
    clear P
    have X := wrap_bounds (IntKind.u64.wrap (IntKind.u64.wrap (seed * 6364136223846793005)) + 1442695040888963407)
    go_enter Try.func83, Try.ntmps83
    go_wp2
    go_quiet (fail)
    go_wp2
    generalize IntKind.u64.wrap (IntKind.u64.wrap (IntKind.u64.wrap (seed * 6364136223846793005)) + 1442695040888963407) = x at *
    have Y : bits .and .u64 (x / 1099511627776) 255 = x / 1099511627776 % 256 := u64_255 (by omega) (by omega)
    go_quiet (fail)
    go_wp2
    go_ret
    exact ⟨⟨_, by omega, by omega, rfl⟩, HP.out.turned _ _ x X.1 X.2⟩

theorem Parts.mono {w : World} {B : Nat} {a : Option Addr} {len cap : Nat} {f : Nat → Int} {t seed m m' : Int} (P : Parts w B a len cap f t seed m) (h : m ≤ m') : Parts w B a len cap f t seed m' :=
  { P with a1 := Int.le_trans P.a1 h }
theorem Src.mono {w : World} {B : Nat} {m m' : Int} (h : Src w B m) (hm : m ≤ m') : Src w B m' := by
  obtain ⟨a, len, cap, f, t, seed, P⟩ := h
  exact ⟨a, len, cap, f, t, seed, P.mono hm⟩
theorem grown_refl (w : World) (r : Option Nat) : w.grownBy w r := ⟨rfl, rfl, rfl, Nat.le_refl _, fun _ _ _ => rfl⟩
theorem grown_trans {a b c : World} {r : Option Nat} (h : a.grownBy b r) (k : b.grownBy c r) : a.grownBy c r :=
  ⟨k.os.trans h.os, k.tape.trans h.tape, k.output.trans h.output, Nat.le_trans h.size k.size, fun i hi hne => (k.block i (Nat.lt_of_lt_of_le hi h.size) hne).trans (h.block i hi hne)⟩

set_option maxRecDepth 100000 in
theorem pick (B : Nat) (m n : Int) (hm : m ≤ 100000000) (n0 : 1 ≤ n) (n1 : n ≤ 1000000) (w : World) (h : Src w B m) :
    Calls Try.prog 81 #[.pointer (some ⟨B, 0, none⟩), .int .i64 n] w (Drew w B (m + 2) n) := by
  by_cases hn : n ≤ 1
  · have R := Lib.hid (show Drew w B (m + 2) n (.returned (.int .i64 0)) w from ⟨⟨0, by omega, by omega, rfl⟩, h.mono (by omega), grown_refl _ _⟩)
    clear h
    go_enter Try.func81, Try.ntmps81
    go_wp2
    go_ret
    exact R.out
  · by_cases hb : n ≤ 200
    · go_enter Try.func81, Try.ntmps81
      go_wp2_with fail
      refine (next B m (by omega) _ h).mono ?_
      rintro e w1 ⟨⟨x, x0, x1, rfl⟩, S1, G1⟩
      have R := Lib.hid (show Drew w B (m + 2) n (.returned (.int .i64 (x % n))) w1 from ⟨Under.mod n0, S1.mono (by omega), G1⟩)
      clear S1 G1 h
      go_wp2
      go_ret
      exact R.out
    · go_enter Try.func81, Try.ntmps81
      go_wp2_with fail
      refine (next B m (by omega) _ h).mono ?_
      rintro e w1 ⟨⟨x, x0, x1, rfl⟩, S1, G1⟩
      go_wp2_with fail
      refine (next B (m + 1) (by omega) _ S1).mono ?_
      rintro e w2 ⟨⟨y, y0, y1, rfl⟩, S2, G2⟩
      have R := Lib.hid (show Drew w B (m + 2) n (.returned (.int .i64 ((x * 256 + y) % n))) w2 from ⟨Under.mod n0, S2.mono (by omega), grown_trans G1 G2⟩)
      clear S1 G1 S2 G2 h
      go_wp2
      go_ret
      exact R.out

/-- Any int64. -/
def Any64 (e : Ending) : Prop := ∃ r : Int, -9223372036854775808 ≤ r ∧ r ≤ 9223372036854775807 ∧ e = .returned (.int .i64 r)
def Num (w : World) (B : Nat) (m : Int) (e : Ending) (w' : World) : Prop := Any64 e ∧ Src w' B m ∧ w.grownBy w' (some B)

set_option maxRecDepth 100000 in
theorem among (B g : Nat) (m : Int) (zs : List Int) (hm : m ≤ 100000000) (h0 : 1 ≤ zs.length) (h1 : zs.length ≤ 1000) (hz : ∀ z ∈ zs, -9223372036854775808 ≤ z ∧ z ≤ 9223372036854775807) (w : World) (h : Src w B m)
    (hg : g ≠ B) (hc : ∀ i, i < zs.length → w.cell? ⟨g, i, none⟩ = some (.int .i64 (zs.getD i 0))) :
    Calls Try.prog 115 #[.pointer (some ⟨B, 0, none⟩), .slice (some ⟨g, 0, none⟩) zs.length zs.length] w (Num w B (m + 2)) := by
  obtain ⟨n, hn⟩ : ∃ n, n = zs.length := ⟨_, rfl⟩
  have C : ∀ i, i < n → ∃ z, w.cell? ⟨g, i, none⟩ = some (.int .i64 z) ∧ -9223372036854775808 ≤ z ∧ z ≤ 9223372036854775807 := by
    intro i hi
    refine ⟨_, hc i (by omega), ?_⟩
    have hi' : i < zs.length := by omega
    have : zs.getD i 0 ∈ zs := by rw [List.getD_eq_getElem?_getD, List.getElem?_eq_getElem hi']; exact List.getElem_mem hi'
    exact hz _ this
  rw [← hn] at h0 h1 ⊢
  clear hn hz hc
  have HC := Lib.hid C
  clear C
  go_enter Try.func115, Try.ntmps115
  go_wp2_with fail
  refine (pick B m n hm (by omega) (by omega) _ h).mono ?_
  rintro e w1 ⟨⟨r, r0, r1, rfl⟩, S1, G1⟩
  obtain ⟨j, rfl⟩ := Int.eq_ofNat_of_zero_le r0
  obtain ⟨z, c, z0, z1⟩ := HC.out j (by omega)
  have c1 : w1.cell? ⟨g, j, none⟩ = some (.int .i64 z) := G1.cell c (by simpa using hg)
  have R := Lib.hid (show Num w B (m + 2) (.returned (.int .i64 z)) w1 from ⟨⟨z, z0, z1, rfl⟩, S1, G1⟩)
  clear S1 G1 h c
  go_wp2
  go_ret
  exact R.out

theorem Src.below {w w' : World} {B : Nat} {m : Int} (h : Src w B m) (hb : Below w.heap.size w w') : Src w' B m := by
  obtain ⟨a, len, cap, f, t, seed, P⟩ := h
  refine ⟨a, len, cap, f, t, seed, (hb.cell P.B1).trans P.c0, (hb.cell P.B1).trans P.c1, (hb.cell P.B1).trans P.c2, (hb.frozen P.B1).trans P.f1, (hb.frozen P.B1).trans P.f2, P.a0, P.a1, P.s0, P.s1, P.l1, Nat.lt_of_lt_of_le P.B1 hb.size, ?_⟩
  rcases P.bs with h | ⟨b, off, ha, hne, hc⟩
  · exact .inl h
  · exact .inr ⟨b, off, ha, hne, fun i hi => ⟨(hb.cell (p := ⟨b, off + i, none⟩) (Nat.lt_trans hne P.B1)).trans (hc i hi).1, (hc i hi).2⟩⟩
theorem Src.grown {w w' : World} {B : Nat} {m : Int} {r : Option Nat} (h : Src w B m) (g : w.grownBy w' r) (hr : ∀ k, r = some k → B < k) : Src w' B m := by
  obtain ⟨a, len, cap, f, t, seed, P⟩ := h
  have c : ∀ b o, b ≤ B → w'.cell? ⟨b, o, none⟩ = w.cell? ⟨b, o, none⟩ := fun b o hb => World.cell?_of_block (w := w) (g.block b (Nat.lt_of_le_of_lt hb P.B1) (fun e => by have := hr b e.symm; omega))
  have f' : ∀ b o, b ≤ B → w'.frozen? ⟨b, o, none⟩ = w.frozen? ⟨b, o, none⟩ := fun b o hb => World.frozen?_of_block (w := w) (g.block b (Nat.lt_of_le_of_lt hb P.B1) (fun e => by have := hr b e.symm; omega))
  refine ⟨a, len, cap, f, t, seed, (c _ _ (Nat.le_refl _)).trans P.c0, (c _ _ (Nat.le_refl _)).trans P.c1, (c _ _ (Nat.le_refl _)).trans P.c2, (f' _ _ (Nat.le_refl _)).trans P.f1, (f' _ _ (Nat.le_refl _)).trans P.f2, P.a0, P.a1, P.s0, P.s1, P.l1, Nat.lt_of_lt_of_le P.B1 g.size, ?_⟩
  rcases P.bs with h | ⟨b, off, ha, hne, hc⟩
  · exact .inl h
  · exact .inr ⟨b, off, ha, hne, fun i hi => ⟨(c b _ (Nat.le_of_lt hne)).trans (hc i hi).1, (hc i hi).2⟩⟩
theorem Src.lt {w : World} {B : Nat} {m : Int} (h : Src w B m) : B < w.heap.size := by obtain ⟨_, _, _, _, _, _, P⟩ := h; exact P.B1

set_option maxRecDepth 100000 in
theorem l01Odd (B : Nat) (m : Int) (hm : m ≤ 100000000) (w : World) (h : Src w B m) :
    Calls Try.prog 82 #[.pointer (some ⟨B, 0, none⟩)] w (Num w B (m + 2)) := by
  have hB := h.lt
  have h1 := h.below ((Below.refl _ _).alloc (Nat.le_refl _) (.cells #[.int .i64 0, .int .i64 1, .int .i64 127, .int .i64 128, .int .i64 255, .int .i64 256, .int .i64 16383, .int .i64 16384, .int .i64 2147483648, .int .i64 4294967296, .int .i64 36028797018963968, .int .i64 72057594037927935, .int .i64 72057594037927936, .int .i64 4611686018427387903, .int .i64 4611686018427387904, .int .i64 4611686018427387905, .int .i64 9223372036854775807, .int .i64 (-1), .int .i64 (-128), .int .i64 (-9223372036854775808)] 2))
  have hcells : ∀ i, i < 20 → (w.alloc (.cells #[.int .i64 0, .int .i64 1, .int .i64 127, .int .i64 128, .int .i64 255, .int .i64 256, .int .i64 16383, .int .i64 16384, .int .i64 2147483648, .int .i64 4294967296, .int .i64 36028797018963968, .int .i64 72057594037927935, .int .i64 72057594037927936, .int .i64 4611686018427387903, .int .i64 4611686018427387904, .int .i64 4611686018427387905, .int .i64 9223372036854775807, .int .i64 (-1), .int .i64 (-128), .int .i64 (-9223372036854775808)] 2)).cell? ⟨w.heap.size, i, none⟩ = some (.int .i64 ([0, 1, 127, 128, 255, 256, 16383, 16384, 2147483648, 4294967296, 36028797018963968, 72057594037927935, 72057594037927936, 4611686018427387903, 4611686018427387904, 4611686018427387905, 9223372036854775807, -1, -128, -9223372036854775808].getD i 0)) := by
    intro i hi
    rw [World.cell?_alloc_new]
    have h20 : i = 0 ∨ i = 1 ∨ i = 2 ∨ i = 3 ∨ i = 4 ∨ i = 5 ∨ i = 6 ∨ i = 7 ∨ i = 8 ∨ i = 9 ∨ i = 10 ∨ i = 11 ∨ i = 12 ∨ i = 13 ∨ i = 14 ∨ i = 15 ∨ i = 16 ∨ i = 17 ∨ i = 18 ∨ i = 19 := by omega
    rcases h20 with rfl | rfl | rfl | rfl | rfl | rfl | rfl | rfl | rfl | rfl | rfl | rfl | rfl | rfl | rfl | rfl | rfl | rfl | rfl | rfl <;> rfl
  have C := Lib.hid (among B w.heap.size m [0, 1, 127, 128, 255, 256, 16383, 16384, 2147483648, 4294967296, 36028797018963968, 72057594037927935, 72057594037927936, 4611686018427387903, 4611686018427387904, 4611686018427387905, 9223372036854775807, -1, -128, -9223372036854775808] hm (by decide) (by decide) (by decide) _ h1 (by omega) hcells)
  clear h h1 hcells
  go_enter Try.func82, Try.ntmps82
  go_wp2_with fail
  refine (C.out).mono ?_
  rintro e w1 ⟨⟨r, r0, r1, rfl⟩, S1, G1⟩
  have R := Lib.hid (show Num w B (m + 2) (.returned (.int .i64 r)) w1 from ⟨⟨r, r0, r1, rfl⟩, S1, grown_trans (World.grownBy_alloc _ _ _) G1⟩)
  clear S1 G1
  go_wp2
  go_ret
  exact R.out

theorem or_bounds (x y : Int) : -9223372036854775808 ≤ bits .or .i64 x y ∧ bits .or .i64 x y ≤ 9223372036854775807 := by
  unfold bits; simp only [IntKind.wrap_i64]; omega

set_option maxRecDepth 100000 in
theorem l01Number (B : Nat) (m : Int) (hm : m ≤ 1000000) (w : World) (h : Src w B m) :
    Calls Try.prog 42 #[.pointer (some ⟨B, 0, none⟩)] w (Num w B (m + 12)) := by
  go_enter Try.func42, Try.ntmps42
  go_wp2_with fail
  refine (pick B m 3 (by omega) (by omega) (by omega) _ h).mono ?_
  rintro e w1 ⟨⟨r, r0, r1, rfl⟩, S1, G1⟩
  clear h
  have h3 : r = 0 ∨ r = 1 ∨ r = 2 := by omega
  rcases h3 with rfl | rfl | rfl
  · go_wp2_with fail
    refine (l01Odd B (m + 2) (by omega) _ S1).mono ?_
    rintro e w2 ⟨⟨z, z0, z1, rfl⟩, S2, G2⟩
    have R := Lib.hid (show Num w B (m + 12) (.returned (.int .i64 z)) w2 from ⟨⟨z, z0, z1, rfl⟩, S2.mono (by omega), grown_trans G1 G2⟩)
    clear S1 S2 G1 G2
    go_wp2
    go_ret
    exact R.out
  · go_wp2_with fail
    refine (pick B (m + 2) 300 (by omega) (by omega) (by omega) _ S1).mono ?_
    rintro e w2 ⟨⟨z, z0, z1, rfl⟩, S2, G2⟩
    have R := Lib.hid (show Num w B (m + 12) (.returned (.int .i64 z)) w2 from ⟨⟨z, by omega, by omega, rfl⟩, S2.mono (by omega), grown_trans G1 G2⟩)
    clear S1 S2 G1 G2
    go_wp2
    go_ret
    exact R.out
  · go_wp2_with fail
    refine (pick B (m + 2) 9 (by omega) (by omega) (by omega) _ S1).mono ?_
    rintro e w2 ⟨⟨z, z0, z1, rfl⟩, S2, G2⟩
    have G := grown_trans G1 G2
    have S := S2.mono (show m + 2 + 2 ≤ m + 12 - z by omega)
    clear S1 S2 G1 G2
    go_wp2_with fail
    go_loopw [3, 4] (fun x i wr => ∃ n k : Int, x = .int .i64 n ∧ i = .int .i64 k ∧ -9223372036854775808 ≤ n ∧ n ≤ 9223372036854775807 ∧ 0 ≤ k ∧ k ≤ 8 ∧ Src wr B (m + 12 - k) ∧ w.grownBy wr (some B)) (fun _ i _ => (intOf i).toNat)
    case atStart => exact ⟨0, z, rfl, rfl, by omega, by omega, by omega, by omega, S, G⟩
    case round =>
      obtain ⟨n, k, rfl, rfl, n0, n1, k0, k1, S3, G3⟩ := hrel
      clear S G
      by_cases hk : 0 < k
      · go_wp2_with fail
        refine (next B (m + 12 - k) (by omega) _ S3).mono ?_
        rintro e w3 ⟨⟨y, y0, y1, rfl⟩, S4, G4⟩
        have S5 := S4.mono (show m + 12 - k + 1 ≤ m + 12 - (k - 1) by omega)
        have G5 := grown_trans G3 G4
        clear S3 S4 G3 G4
        go_wp2
        go_roundw
        case rel => exact ⟨_, k - 1, rfl, rfl, (or_bounds _ _).1, (or_bounds _ _).2, by omega, by omega, S5, G5⟩
        case measure => simp [intOf]; omega
      · obtain rfl : k = 0 := by omega
        have R := Lib.hid (show Num w B (m + 12) (.returned (.int .i64 n)) wr from ⟨⟨n, n0, n1, rfl⟩, S3.mono (by omega), G3⟩)
        clear S3 G3
        go_wp2
        go_ret
        exact R.out

def NewSrc (w : World) (e : Ending) (w' : World) : Prop := e = .returned (.pointer (some ⟨w.heap.size, 0, none⟩)) ∧ Src w' w.heap.size 0 ∧ Below w.heap.size w w'

set_option maxRecDepth 100000 in
theorem l00From (a : Option Addr) (len cap : Nat) (f : Nat → Int) (hl : len ≤ 2000000) (w : World) (h : Byts w a len f) :
    Calls Try.prog 40 #[.slice a len cap] w (NewSrc w) := by
  have S : Src (w.alloc (.cells #[.slice a len cap, .int .i64 0, .int .u64 0] 108)) w.heap.size 0 := by
    refine ⟨a, len, cap, f, 0, 0, by rw [World.cell?_alloc_new]; rfl, by rw [World.cell?_alloc_new]; rfl, by rw [World.cell?_alloc_new]; rfl, World.frozen?_alloc_at _ _ _ _ rfl, World.frozen?_alloc_at _ _ _ _ rfl, by omega, by omega, by omega, by omega, hl, by simp, ?_⟩
    rcases h with h | ⟨b, off, ha, _, hB, hc⟩
    · exact .inl h
    · have bl : Below w.heap.size w (w.alloc (.cells #[.slice a len cap, .int .i64 0, .int .u64 0] 108)) := (Below.refl _ _).alloc (Nat.le_refl _) _
      exact .inr ⟨b, off, ha, hB, fun i hi => ⟨(bl.cell hB).trans (hc i hi).1, (hc i hi).2⟩⟩
  have R := Lib.hid (show NewSrc w (.returned (.pointer (some ⟨w.heap.size, 0, none⟩))) _ from ⟨rfl, S, (Below.refl _ _).alloc (Nat.le_refl _) _⟩)
  clear S h
  go_enter Try.func40, Try.ntmps40
  go_wp2
  go_ret
  exact R.out

theorem info1 : (Try.prog.info? 5).map (fun i => (i.zero, i.size, i.bytes)) = some (some (.int .u8 0), 1, 1) := by kernel_rfl
/-- A new slice of bytes. -/
def NewBytes (w : World) (n : Nat) (e : Ending) (w' : World) : Prop := ∃ a cap f, e = .returned (.slice a n cap) ∧ Byts w' a n f ∧ Below w.heap.size w w'
theorem byts_of_own {w w' : World} {v : Value} {n : Nat} {xs : List Int} (hx : xs.length = n) (hb : ∀ x ∈ xs, 0 ≤ x ∧ x ≤ 255) (hn : 0 < n) (hm : n ≤ 2000001)
    (ho : w'.ownsRow w.heap.size 5 1 v n (xs.map (Value.int .u8))) (h : Below w.heap.size w w') : NewBytes w n (.returned v) w' := by
  obtain ⟨g, cap, rfl, hg, hlt⟩ := ho.form hn
  refine ⟨_, cap, fun i => xs.getD i 0, rfl, .inr ⟨g, 0, rfl, by omega, hlt, fun i hi => ?_⟩, h⟩
  have hi' : i < xs.length := by omega
  have hm : xs.getD i 0 ∈ xs := by rw [List.getD_eq_getElem?_getD, List.getElem?_eq_getElem hi']; exact List.getElem_mem hi'
  refine ⟨?_, hb _ hm⟩
  show _ = some (Value.int .u8 (xs.getD i 0))
  rw [Nat.zero_add, ho.cellAt i (by omega), List.getElem?_map, List.getElem?_eq_getElem hi', List.getD_eq_getElem?_getD, List.getElem?_eq_getElem hi']; rfl

/-- Any int64; nothing that was there has turned. -/
def Any (w : World) (e : Ending) (w' : World) : Prop := Any64 e ∧ Below w.heap.size w w'

set_option maxRecDepth 100000 in
theorem A8Number (a : Option Addr) (len cap : Nat) (f : Nat → Int) (hl : len ≤ 2000000) (w : World) (h : Byts w a len f) :
    Calls Try.prog 13 #[.slice a len cap] w (Any w) := by
  go_enter Try.func13, Try.ntmps13
  go_wp2_with fail
  refine (l00From a len cap f hl _ h).mono ?_
  rintro e w1 ⟨rfl, S1, B1⟩
  go_wp2_with fail
  refine (l01Number w.heap.size 0 (by omega) _ S1).mono ?_
  rintro e w2 ⟨⟨z, z0, z1, rfl⟩, S2, G2⟩
  have R := Lib.hid (show Any w (.returned (.int .i64 z)) w2 from ⟨⟨z, z0, z1, rfl⟩, B1.grown G2 B1.size (fun k hk => by cases hk; exact Nat.le_refl _)⟩)
  clear S1 B1 S2 G2 h
  go_wp2
  go_ret
  exact R.out
end Go.Proofs.Ytfdekhhlkieekaa.Sr
