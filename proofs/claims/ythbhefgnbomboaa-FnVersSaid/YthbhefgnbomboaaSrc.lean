/-
  The source of choices that the laws draw from: what it returns lies within its bounds, and only its own block turns.
-/
import Derived.Test.YthbhefgnbomboaaAt
import Derived.Deep.AppendLies
import Derived.Laws.AppendOwnNone
namespace Go.Proofs.Ythbhefgnbomboaa.Sr
open Go.RowKit Go.Proofs.Ythbhefgnbomboaa.At
set_option linter.unusedVariables false

/-- The source's block, its parts named. -/
structure Parts (w : World) (B : Nat) (a : Option Addr) (len cap : Nat) (f : Nat → Int) (at' seed : Int) (m : Int) : Prop where
  c0 : w.cell? ⟨B, 0, none⟩ = some (.slice a len cap)
  c1 : w.cell? ⟨B, 1, none⟩ = some (.int .i64 at')
  c2 : w.cell? ⟨B, 2, none⟩ = some (.int .u64 seed)
  f1 : w.frozen? ⟨B, 1, none⟩ = false
  f2 : w.frozen? ⟨B, 2, none⟩ = false
  a0 : 0 ≤ at'
  a1 : at' ≤ m
  s0 : 0 ≤ seed
  s1 : seed ≤ 18446744073709551615
  l1 : len ≤ 2000000
  B1 : B < w.heap.size
  bs : len = 0 ∨ ∃ b off, a = some ⟨b, off, none⟩ ∧ b < B ∧ ∀ i, i < len → w.cell? ⟨b, off + i, none⟩ = some (.int .u8 (f i)) ∧ 0 ≤ f i ∧ f i ≤ 255
/-- A source in block B that at most m choices were read from. -/
def Src (w : World) (B : Nat) (m : Int) : Prop := ∃ a len cap f at' seed, Parts w B a len cap f at' seed m

/-- Behind a choice: a number below n; only block B has turned; at most m choices are read. -/
def Drew (w : World) (B : Nat) (m n : Int) (e : Ending) (w' : World) : Prop := Under n e ∧ Src w' B m ∧ w.grownBy w' (some B)

theorem wrap_bounds (n : Int) : 0 ≤ IntKind.u64.wrap n ∧ IntKind.u64.wrap n ≤ 18446744073709551615 := by rw [IntKind.wrap_u64]; omega
theorem u64_255 {x : Int} (h0 : 0 ≤ x) (h1 : x ≤ 18446744073709551615) : bits .and .u64 x 255 = x % 256 := by
  have := u64_and x 255 h0 (by omega) (by omega) (by omega)
  rw [this, show (255 : Int).toNat = 255 from rfl, nat_mask8]; omega
/-- The world behind a choice. -/
def after (w : World) (B q r : Nat) (t x : Int) : World := (((w.drewN q).setCell ⟨B, 1, none⟩ (.int .i64 t)).setCell ⟨B, 2, none⟩ (.int .u64 x)).drewN r
theorem cell_put {w : World} {B q r : Nat} {t x : Int} (p : Addr) (hp : p.block ≠ B) : (after w B q r t x).cell? p = w.cell? p := by
  unfold after
  rw [World.cell?_drewN, World.cell?_setCell_other _ _ _ _ (by intro e; rw [← e] at hp; exact hp rfl), World.cell?_setCell_other _ _ _ _ (by intro e; rw [← e] at hp; exact hp rfl), World.cell?_drewN]
theorem Parts.turned {w : World} {B : Nat} {a : Option Addr} {len cap : Nat} {f : Nat → Int} {t seed m : Int} (P : Parts w B a len cap f t seed m) (q r : Nat) (x : Int) (x0 : 0 ≤ x) (x1 : x ≤ 18446744073709551615) :
    Src (after w B q r (t + 1) x) B (m + 1) ∧ w.grownBy (after w B q r (t + 1) x) (some B) := by
  have e1 : ((w.drewN q).setCell ⟨B, 1, none⟩ (.int .i64 (t + 1))).cell? ⟨B, 1, none⟩ = some (.int .i64 (t + 1)) := World.cell?_setCell_same _ _ _ P.c1
  have e2 : ((w.drewN q).setCell ⟨B, 1, none⟩ (.int .i64 (t + 1))).cell? ⟨B, 2, none⟩ = some (.int .u64 seed) := by rw [World.cell?_setCell_other _ _ _ _ (by simp)]; exact P.c2
  refine ⟨⟨a, len, cap, f, t + 1, x, ?_, ?_, ?_, ?_, ?_, by have := P.a0; omega, by have := P.a1; omega, x0, x1, P.l1, by simp [after, World.setCell]; exact P.B1, ?_⟩, ?_⟩
  · unfold after; rw [World.cell?_drewN, World.cell?_setCell_other _ _ _ _ (by simp), World.cell?_setCell_other _ _ _ _ (by simp)]; exact P.c0
  · unfold after; rw [World.cell?_drewN, World.cell?_setCell_other _ _ _ _ (by simp)]; exact e1
  · unfold after; rw [World.cell?_drewN]; exact World.cell?_setCell_same _ _ _ e2
  · unfold after; rw [World.frozen?_drewN, World.frozen?_setCell, World.frozen?_setCell]; exact P.f1
  · unfold after; rw [World.frozen?_drewN, World.frozen?_setCell, World.frozen?_setCell]; exact P.f2
  · rcases P.bs with h | ⟨b, off, ha, hb, hc⟩
    · exact .inl h
    · exact .inr ⟨b, off, ha, hb, fun i hi => ⟨(cell_put _ (Nat.ne_of_lt hb)).trans (hc i hi).1, (hc i hi).2⟩⟩
  · refine ⟨rfl, rfl, rfl, by simp [after, World.setCell], fun k hk hne => ?_⟩
    have hkB : k ≠ B := fun e => hne (by rw [e])
    show (((w.drewN q).setCell ⟨B, 1, none⟩ _).setCell ⟨B, 2, none⟩ _).heap[k]? = _
    rw [Below.heap_setCell _ _ _ _ hkB, Below.heap_setCell _ _ _ _ hkB]; rfl

set_option maxRecDepth 100000 in
theorem next (B : Nat) (m : Int) (hm : m ≤ 1000000000) (w : World) (h : Src w B m) :
    Calls Try.prog 65 #[.pointer (some ⟨B, 0, none⟩)] w (Drew w B (m + 1) 256) := by
  obtain ⟨a, len, cap, f, t, seed, P⟩ := h
  have c0 := P.c0
  have c1 := P.c1
  have c2 := P.c2
  have f1 := P.f1
  have f2 := P.f2
  have a0 := P.a0
  have a1 := P.a1
  have s0 := P.s0
  have s1 := P.s1
  have l1 := P.l1
  by_cases hlt : t < len
  · obtain ⟨b, off, rfl, hbB0, hc⟩ := P.bs.resolve_left (by omega)
    have hbB : b ≠ B := Nat.ne_of_lt hbB0
    have hb : b < w.heap.size := Nat.lt_trans hbB0 P.B1
    obtain ⟨j, rfl⟩ := Int.eq_ofNat_of_zero_le a0
    obtain ⟨d, d0, d1⟩ := hc j (by omega)
    generalize f j = v at d d0 d1
    have HP := Lib.hid P
    clear hc P
    go_enter Try.func65, Try.ntmps65
    have X := wrap_bounds (IntKind.u64.wrap (IntKind.u64.wrap (seed * 6364136223846793005) + v) + 1442695040888963407)
    go_wp2
    go_quiet (fail)
    go_wp2
    go_quiet (fail)
    go_wp2
    generalize IntKind.u64.wrap (IntKind.u64.wrap (IntKind.u64.wrap (seed * 6364136223846793005) + v) + 1442695040888963407) = x at *
    go_quiet (fail)
    go_wp2
    go_ret
    exact ⟨⟨v, d0, by omega, rfl⟩, HP.out.turned _ _ x X.1 X.2⟩
  · have HP := Lib.hid P
    clear P
    have X := wrap_bounds (IntKind.u64.wrap (IntKind.u64.wrap (seed * 6364136223846793005)) + 1442695040888963407)
    go_enter Try.func65, Try.ntmps65
    go_wp2
    go_quiet (fail)
    go_wp2
    generalize IntKind.u64.wrap (IntKind.u64.wrap (IntKind.u64.wrap (seed * 6364136223846793005)) + 1442695040888963407) = x at *
    have Y : bits .and .u64 (x / 1099511627776) 255 = x / 1099511627776 % 256 := u64_255 (by omega) (by omega)
    go_quiet (fail)
    go_wp2
    go_ret
    exact ⟨⟨_, by omega, by omega, rfl⟩, HP.out.turned _ _ x X.1 X.2⟩

theorem Parts.mono {w : World} {B : Nat} {a : Option Addr} {len cap : Nat} {f : Nat → Int} {t seed m m' : Int} (P : Parts w B a len cap f t seed m) (h : m ≤ m') : Parts w B a len cap f t seed m' :=
  { P with a1 := Int.le_trans P.a1 h }
theorem Src.mono {w : World} {B : Nat} {m m' : Int} (h : Src w B m) (hm : m ≤ m') : Src w B m' := by
  obtain ⟨a, len, cap, f, t, seed, P⟩ := h
  exact ⟨a, len, cap, f, t, seed, P.mono hm⟩
theorem grown_refl (w : World) (r : Option Nat) : w.grownBy w r := ⟨rfl, rfl, rfl, Nat.le_refl _, fun _ _ _ => rfl⟩
theorem grown_trans {a b c : World} {r : Option Nat} (h : a.grownBy b r) (k : b.grownBy c r) : a.grownBy c r :=
  ⟨k.os.trans h.os, k.tape.trans h.tape, k.output.trans h.output, Nat.le_trans h.size k.size, fun i hi hne => (k.block i (Nat.lt_of_lt_of_le hi h.size) hne).trans (h.block i hi hne)⟩

set_option maxRecDepth 100000 in
theorem pick (B : Nat) (m n : Int) (hm : m ≤ 100000000) (n0 : 1 ≤ n) (n1 : n ≤ 1000000) (w : World) (h : Src w B m) :
    Calls Try.prog 33 #[.pointer (some ⟨B, 0, none⟩), .int .i64 n] w (Drew w B (m + 2) n) := by
  by_cases hn : n ≤ 1
  · have R := Lib.hid (show Drew w B (m + 2) n (.returned (.int .i64 0)) w from ⟨⟨0, by omega, by omega, rfl⟩, h.mono (by omega), grown_refl _ _⟩)
    clear h
    go_enter Try.func33, Try.ntmps33
    go_wp2
    go_ret
    exact R.out
  · by_cases hb : n ≤ 200
    · go_enter Try.func33, Try.ntmps33
      go_wp2_with fail
      refine (next B m (by omega) _ h).mono ?_
      rintro e w1 ⟨⟨x, x0, x1, rfl⟩, S1, G1⟩
      have R := Lib.hid (show Drew w B (m + 2) n (.returned (.int .i64 (x % n))) w1 from ⟨Under.mod n0, S1.mono (by omega), G1⟩)
      clear S1 G1 h
      go_wp2
      go_ret
      exact R.out
    · go_enter Try.func33, Try.ntmps33
      go_wp2_with fail
      refine (next B m (by omega) _ h).mono ?_
      rintro e w1 ⟨⟨x, x0, x1, rfl⟩, S1, G1⟩
      go_wp2_with fail
      refine (next B (m + 1) (by omega) _ S1).mono ?_
      rintro e w2 ⟨⟨y, y0, y1, rfl⟩, S2, G2⟩
      have R := Lib.hid (show Drew w B (m + 2) n (.returned (.int .i64 ((x * 256 + y) % n))) w2 from ⟨Under.mod n0, S2.mono (by omega), grown_trans G1 G2⟩)
      clear S1 G1 S2 G2 h
      go_wp2
      go_ret
      exact R.out

/-- Any int64. -/
def Any64 (e : Ending) : Prop := ∃ r : Int, -9223372036854775808 ≤ r ∧ r ≤ 9223372036854775807 ∧ e = .returned (.int .i64 r)
def Num (w : World) (B : Nat) (m : Int) (e : Ending) (w' : World) : Prop := Any64 e ∧ Src w' B m ∧ w.grownBy w' (some B)

theorem Src.below {w w' : World} {B : Nat} {m : Int} (h : Src w B m) (hb : Below w.heap.size w w') : Src w' B m := by
  obtain ⟨a, len, cap, f, t, seed, P⟩ := h
  refine ⟨a, len, cap, f, t, seed, (hb.cell P.B1).trans P.c0, (hb.cell P.B1).trans P.c1, (hb.cell P.B1).trans P.c2, (hb.frozen P.B1).trans P.f1, (hb.frozen P.B1).trans P.f2, P.a0, P.a1, P.s0, P.s1, P.l1, Nat.lt_of_lt_of_le P.B1 hb.size, ?_⟩
  rcases P.bs with h | ⟨b, off, ha, hne, hc⟩
  · exact .inl h
  · exact .inr ⟨b, off, ha, hne, fun i hi => ⟨(hb.cell (p := ⟨b, off + i, none⟩) (Nat.lt_trans hne P.B1)).trans (hc i hi).1, (hc i hi).2⟩⟩
theorem Src.grown {w w' : World} {B : Nat} {m : Int} {r : Option Nat} (h : Src w B m) (g : w.grownBy w' r) (hr : ∀ k, r = some k → B < k) : Src w' B m := by
  obtain ⟨a, len, cap, f, t, seed, P⟩ := h
  have c : ∀ b o, b ≤ B → w'.cell? ⟨b, o, none⟩ = w.cell? ⟨b, o, none⟩ := fun b o hb => World.cell?_of_block (w := w) (g.block b (Nat.lt_of_le_of_lt hb P.B1) (fun e => by have := hr b e.symm; omega))
  have f' : ∀ b o, b ≤ B → w'.frozen? ⟨b, o, none⟩ = w.frozen? ⟨b, o, none⟩ := fun b o hb => World.frozen?_of_block (w := w) (g.block b (Nat.lt_of_le_of_lt hb P.B1) (fun e => by have := hr b e.symm; omega))
  refine ⟨a, len, cap, f, t, seed, (c _ _ (Nat.le_refl _)).trans P.c0, (c _ _ (Nat.le_refl _)).trans P.c1, (c _ _ (Nat.le_refl _)).trans P.c2, (f' _ _ (Nat.le_refl _)).trans P.f1, (f' _ _ (Nat.le_refl _)).trans P.f2, P.a0, P.a1, P.s0, P.s1, P.l1, Nat.lt_of_lt_of_le P.B1 g.size, ?_⟩
  rcases P.bs with h | ⟨b, off, ha, hne, hc⟩
  · exact .inl h
  · exact .inr ⟨b, off, ha, hne, fun i hi => ⟨(c b _ (Nat.le_of_lt hne)).trans (hc i hi).1, (hc i hi).2⟩⟩
theorem Src.lt {w : World} {B : Nat} {m : Int} (h : Src w B m) : B < w.heap.size := by obtain ⟨_, _, _, _, _, _, P⟩ := h; exact P.B1

theorem or_bounds (x y : Int) : -9223372036854775808 ≤ bits .or .i64 x y ∧ bits .or .i64 x y ≤ 9223372036854775807 := by
  unfold bits; simp only [IntKind.wrap_i64]; omega

def NewSrc (w : World) (e : Ending) (w' : World) : Prop := e = .returned (.pointer (some ⟨w.heap.size, 0, none⟩)) ∧ Src w' w.heap.size 0 ∧ Below w.heap.size w w'

set_option maxRecDepth 100000 in
theorem l00From (a : Option Addr) (len cap : Nat) (f : Nat → Int) (hl : len ≤ 2000000) (w : World) (h : Byts w a len f) :
    Calls Try.prog 32 #[.slice a len cap] w (NewSrc w) := by
  have S : Src (w.alloc (.cells #[.slice a len cap, .int .i64 0, .int .u64 0] 91)) w.heap.size 0 := by
    refine ⟨a, len, cap, f, 0, 0, by rw [World.cell?_alloc_new]; rfl, by rw [World.cell?_alloc_new]; rfl, by rw [World.cell?_alloc_new]; rfl, World.frozen?_alloc_at _ _ _ _ rfl, World.frozen?_alloc_at _ _ _ _ rfl, by omega, by omega, by omega, by omega, hl, by simp, ?_⟩
    rcases h with h | ⟨b, off, ha, _, hB, hc⟩
    · exact .inl h
    · have bl : Below w.heap.size w (w.alloc (.cells #[.slice a len cap, .int .i64 0, .int .u64 0] 91)) := (Below.refl _ _).alloc (Nat.le_refl _) _
      exact .inr ⟨b, off, ha, hB, fun i hi => ⟨(bl.cell hB).trans (hc i hi).1, (hc i hi).2⟩⟩
  have R := Lib.hid (show NewSrc w (.returned (.pointer (some ⟨w.heap.size, 0, none⟩))) _ from ⟨rfl, S, (Below.refl _ _).alloc (Nat.le_refl _) _⟩)
  clear S h
  go_enter Try.func32, Try.ntmps32
  go_wp2
  go_ret
  exact R.out

theorem info1 : (Try.prog.info? 5).map (fun i => (i.zero, i.size, i.bytes)) = some (some (.int .u8 0), 1, 1) := by kernel_rfl
/-- A new slice of bytes. -/
def NewBytes (w : World) (n : Nat) (e : Ending) (w' : World) : Prop := ∃ a cap f, e = .returned (.slice a n cap) ∧ Byts w' a n f ∧ Below w.heap.size w w'
theorem byts_of_own {w w' : World} {v : Value} {n : Nat} {xs : List Int} (hx : xs.length = n) (hb : ∀ x ∈ xs, 0 ≤ x ∧ x ≤ 255) (hn : 0 < n) (hm : n ≤ 2000001)
    (ho : w'.ownsRow w.heap.size 5 1 v n (xs.map (Value.int .u8))) (h : Below w.heap.size w w') : NewBytes w n (.returned v) w' := by
  obtain ⟨g, cap, rfl, hg, hlt⟩ := ho.form hn
  refine ⟨_, cap, fun i => xs.getD i 0, rfl, .inr ⟨g, 0, rfl, by omega, hlt, fun i hi => ?_⟩, h⟩
  have hi' : i < xs.length := by omega
  have hm : xs.getD i 0 ∈ xs := by rw [List.getD_eq_getElem?_getD, List.getElem?_eq_getElem hi']; exact List.getElem_mem hi'
  refine ⟨?_, hb _ hm⟩
  show _ = some (Value.int .u8 (xs.getD i 0))
  rw [Nat.zero_add, ho.cellAt i (by omega), List.getElem?_map, List.getElem?_eq_getElem hi', List.getD_eq_getElem?_getD, List.getElem?_eq_getElem hi']; rfl

/-- Any int64; nothing that was there has turned. -/
def Any (w : World) (e : Ending) (w' : World) : Prop := Any64 e ∧ Below w.heap.size w w'

end Go.Proofs.Ythbhefgnbomboaa.Sr
