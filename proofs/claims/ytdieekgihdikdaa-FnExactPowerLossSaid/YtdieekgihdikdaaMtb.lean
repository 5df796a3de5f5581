/-
  Marks into copied arguments: slices of strings, of writes, disks.
-/
import Derived.Test.YtdieekgihdikdaaMtx
import Derived.Test.YtdieekgihdikdaaDDisk
namespace Go.Proofs.Ytdieekgihdikdaa.Rd
open Go.RowKit Go.ChangeShapes Go.WideShapes
open Go.Proofs.Ytdieekgihdikdaa.Sg (BxN)
set_option linter.unusedVariables false
set_option linter.unusedSimpArgs false

/-- n cells at a, in a block from lo on and below hi, which may be written. -/
def Room (lo hi : Nat) (w : World) (a : Option Addr) (n : Nat) : Prop :=
  n = 0 ∨ ∃ b off, a = some ⟨b, off, none⟩ ∧ lo ≤ b ∧ b < hi ∧ (∀ i, w.frozen? ⟨b, i, none⟩ = false) ∧ ∀ i, i < n → ∃ u, w.cell? ⟨b, off + i, none⟩ = some u
theorem Room.set {lo hi : Nat} {w : World} {a : Option Addr} {n : Nat} (h : Room lo hi w a n) (p : Addr) (v : Value) : Room lo hi (w.setCell p v) a n := by
  rcases h with h | ⟨b, off, e, h1, h2, hf, hc⟩
  · exact .inl h
  · refine .inr ⟨b, off, e, h1, h2, fun i => (World.frozen?_setCell _ _ _ _).trans (hf i), fun i hi => ?_⟩
    obtain ⟨u, hu⟩ := hc i hi
    by_cases q : (⟨b, off + i, none⟩ : Addr) = p
    · subst q; exact ⟨v, World.cell?_setCell_same _ _ _ hu⟩
    · exact ⟨u, (World.cell?_setCell_other _ _ _ _ (fun e => q e.symm)).trans hu⟩
theorem Room.below {lo hi : Nat} {w w' : World} {a : Option Addr} {n : Nat} (h : Room lo hi w a n) (hh : hi ≤ w.heap.size) (b : Below w.heap.size w w') : Room lo hi w' a n := by
  rcases h with h | ⟨q, off, e, h1, h2, hf, hc⟩
  · exact .inl h
  · exact .inr ⟨q, off, e, h1, h2, fun i => (b.frozen (p := ⟨q, i, none⟩) (by show q < _; omega)).trans (hf i), fun i hi => by
      obtain ⟨u, hu⟩ := hc i hi
      exact ⟨u, (b.cell (p := ⟨q, off + i, none⟩) (by show q < _; omega)).trans hu⟩⟩
theorem room_of {α : Type} [Rdb α] {lo : Nat} {v W : World} {a : Option Addr} {l : List α} (h : Rows true lo v a l) (hs : Shadow v.heap.size v W) : Room lo v.heap.size W a (l.length * Rdb.size α) := by
  rcases h with h | ⟨b, off, e, h0, hB, hf, hc⟩
  · exact .inl (by rw [h]; simp)
  · refine .inr ⟨b, off, e, h0, hB, fun i => (hs.frozen (p := ⟨b, i, none⟩) hB).trans (hf rfl i), fun i hi => ?_⟩
    rcases Nat.eq_zero_or_pos (Rdb.size α) with z | z
    · rw [z] at hi; omega
    · have hj : i / Rdb.size α < l.length := Nat.div_lt_of_lt_mul (by rw [Nat.mul_comm]; exact hi)
      obtain ⟨cs, r, cc⟩ := hc _ _ (List.getElem?_eq_getElem hj)
      have hl := Rdb.len r
      have hm : i % Rdb.size α < cs.length := by rw [hl]; exact Nat.mod_lt _ z
      have := cc _ _ (List.getElem?_eq_getElem hm)
      have e2 : i / Rdb.size α * Rdb.size α + i % Rdb.size α = i := by rw [Nat.mul_comm]; exact Nat.div_add_mod _ _
      rw [show off + i / Rdb.size α * Rdb.size α + i % Rdb.size α = off + i by omega] at this
      exact ⟨_, (hs.cell (p := ⟨b, off + i, none⟩) hB).trans this⟩
/-- All rooms below hi are rooms still. -/
def Keep (hi : Nat) (w w' : World) : Prop := ∀ lo a n, Room lo hi w a n → Room lo hi w' a n
theorem Keep.refl (hi : Nat) (w : World) : Keep hi w w := fun _ _ _ h => h
theorem Keep.trans {hi : Nat} {a b c : World} (h : Keep hi a b) (k : Keep hi b c) : Keep hi a c := fun lo x n r => k lo x n (h lo x n r)
theorem Keep.of {hi : Nat} {w w' : World} (hh : hi ≤ w.heap.size) (b : Below w.heap.size w w') : Keep hi w w' := fun _ _ _ h => h.below hh b
theorem Keep.set {hi : Nat} (w : World) (p : Addr) (v : Value) : Keep hi w (w.setCell p v) := fun _ _ _ h => h.set p v
/-- What marking leaves: a number, and memory changed between lo and hi alone. -/
def MkC (lo hi : Nat) (r : Int) (w : World) (e : Ending) (w' : World) : Prop := e = .returned (.int .i64 r) ∧ Chg lo hi w w' ∧ Keep hi w w'
/-- What lawgen asks of a mark. -/
def MkQ (lo hi : Nat) (k : Int) (w : World) (e : Ending) (w' : World) : Prop := ∃ r : Int, e = .returned (.int .i64 r) ∧ 1 ≤ r ∧ r ≤ k + 12582912 ∧ Chg lo hi w w'
set_option maxRecDepth 100000 in
set_option maxHeartbeats 2000000 in
theorem markStringSC (a : Option Addr) (cap n : Nat) (k : Int) (lo hi : Nat) (w : World) (hl : n ≤ 2097152) (k0 : 1 ≤ k) (k1 : k ≤ 100000000000) (h : Room lo hi w a (n * 1)) (hz : hi ≤ w.heap.size) :
    Calls Try.prog 61 #[.slice a n cap, .int .i64 k] w (MkC lo hi (k + n) w) := by
  have R0 := Lib.hid h
  clear h
  go_enter Try.func61, Try.ntmps61
  go_wp2
  go_loopw [1, 5] (fun kk i wr => ∃ j : Nat, j ≤ n ∧ i = .int .i64 j ∧ kk = .int .i64 (k + j) ∧ hi ≤ wr.heap.size ∧ Chg lo hi w wr ∧ Keep hi w wr) (fun _ i _ => n - (intOf i).toNat)
  case atStart => exact ⟨0, by omega, rfl, by simp, hz, Chg.refl _ _ _, Keep.refl _ _⟩
  case round =>
    obtain ⟨j, hj, rfl, rfl, hs, C, K⟩ := hrel
    by_cases hlt : j < n
    · obtain ⟨b, off, rfl, h0, hb, hf, hc⟩ := (K _ _ _ R0.out).resolve_left (by omega)
      have hB : b < wr.heap.size := Nat.lt_of_lt_of_le hb hs
      obtain ⟨u0, d0⟩ := hc j (by show j < n * 1; omega)
      have z0 := hf (off + j)
      have MT := Lib.hid (fun w' => markText (k + (j : Nat)) w' (by omega) (by omega))
      have CH := Lib.hid C
      have KH := Lib.hid K
      have HS := Lib.hid hs
      clear hf hc C K hs
      go_wp2_with fail
      refine (MT.out _).mono ?_
      rintro e w2 ⟨rfl, b2⟩
      have d2 := (b2.cell (p := ⟨b, off + j, none⟩) (Nat.lt_of_lt_of_le hb HS.out)).trans d0
      have z2 := (b2.frozen (p := ⟨b, off + j, none⟩) (Nat.lt_of_lt_of_le hb HS.out)).trans z0
      have C2 := Lib.hid ((CH.out.trans (Chg.of b2)).trans (Chg.set w2 ⟨b, off + j, none⟩ (.string (mkT (k + (j : Nat)))) h0 hb))
      have K2 := Lib.hid ((KH.out.trans (Keep.of HS.out b2)).trans (Keep.set w2 ⟨b, off + j, none⟩ (.string (mkT (k + (j : Nat))))))
      have S2 := Lib.hid (show hi ≤ (w2.setCell ⟨b, off + j, none⟩ (.string (mkT (k + (j : Nat))))).heap.size from by rw [World.size_setCell]; exact Nat.le_trans HS.out b2.size)
      clear b2 d0 z0 CH KH
      go_wp2
      go_roundw
      case rel => exact ⟨j + 1, by omega, by go_num, by go_num, S2.out, C2.out, K2.out⟩
      case measure => simp [intOf]; omega
    · obtain rfl : j = n := by omega
      have FN := Lib.hid (show MkC lo hi (k + j) w (.returned (.int .i64 (k + j))) wr from ⟨rfl, C, K⟩)
      clear C K hs
      go_wp2
      go_ret
      exact FN.out
set_option maxRecDepth 100000 in
set_option maxHeartbeats 2000000 in
theorem markPendingSC (a : Option Addr) (cap n : Nat) (k : Int) (lo hi : Nat) (w : World) (hl : n ≤ 2097152) (k0 : 1 ≤ k) (k1 : k ≤ 100000000000) (h : Room lo hi w a (n * 2)) (hz : hi ≤ w.heap.size) :
    Calls Try.prog 62 #[.slice a n cap, .int .i64 k] w (MkC lo hi (k + 2 * n) w) := by
  have R0 := Lib.hid h
  clear h
  go_enter Try.func62, Try.ntmps62
  go_wp2
  go_loopw [1, 5] (fun kk i wr => ∃ j : Nat, j ≤ n ∧ i = .int .i64 j ∧ kk = .int .i64 (k + 2 * j) ∧ hi ≤ wr.heap.size ∧ Chg lo hi w wr ∧ Keep hi w wr) (fun _ i _ => n - (intOf i).toNat)
  case atStart => exact ⟨0, by omega, rfl, by simp, hz, Chg.refl _ _ _, Keep.refl _ _⟩
  case round =>
    obtain ⟨j, hj, rfl, rfl, hs, C, K⟩ := hrel
    by_cases hlt : j < n
    · obtain ⟨b, off, rfl, h0, hb, hf, hc⟩ := (K _ _ _ R0.out).resolve_left (by omega)
      have hB : b < wr.heap.size := Nat.lt_of_lt_of_le hb hs
      obtain ⟨u0, d0⟩ := hc (j * 2) (by show j * 2 < n * 2; omega)
      obtain ⟨u1, d1⟩ := hc (j * 2 + 1) (by show j * 2 + 1 < n * 2; omega)
      have z0 := hf (off + j * 2)
      have z1 := hf (off + j * 2 + 1)
      have MT := Lib.hid (fun w' => markText (k + 2 * (j : Nat) + 1) w' (by omega) (by omega))
      have CH := Lib.hid C
      have KH := Lib.hid K
      have HS := Lib.hid hs
      have d1' : (wr.setCell ⟨b, off + j * 2, none⟩ (.int .i64 (k + 2 * (j : Nat)))).cell? ⟨b, off + j * 2 + 1, none⟩ = some u1 := (World.cell?_setCell_other wr ⟨b, off + j * 2, none⟩ ⟨b, off + j * 2 + 1, none⟩ (.int .i64 (k + 2 * (j : Nat))) (by simp)).trans d1
      have z1' : (wr.setCell ⟨b, off + j * 2, none⟩ (.int .i64 (k + 2 * (j : Nat)))).frozen? ⟨b, off + j * 2 + 1, none⟩ = false := (World.frozen?_setCell _ _ _ _).trans z1
      have D1 := Lib.hid d1'
      have Z1 := Lib.hid z1'
      clear hf hc C K hs d1 d1' z1 z1'
      go_wp2_with fail
      refine (MT.out _).mono ?_
      rintro e w2 ⟨rfl, b2⟩
      have hs1 : hi ≤ (wr.setCell ⟨b, off + j * 2, none⟩ (.int .i64 (k + 2 * (j : Nat)))).heap.size := by rw [World.size_setCell]; exact HS.out
      have d2 := (b2.cell (p := ⟨b, off + j * 2 + 1, none⟩) (Nat.lt_of_lt_of_le hb hs1)).trans D1.out
      have z2 := (b2.frozen (p := ⟨b, off + j * 2 + 1, none⟩) (Nat.lt_of_lt_of_le hb hs1)).trans Z1.out
      have C2 := Lib.hid (((CH.out.trans (Chg.set wr ⟨b, off + j * 2, none⟩ (.int .i64 (k + 2 * (j : Nat))) h0 hb)).trans (Chg.of b2)).trans (Chg.set w2 ⟨b, off + j * 2 + 1, none⟩ (.string (mkT (k + 2 * (j : Nat) + 1))) h0 hb))
      have K2 := Lib.hid (((KH.out.trans (Keep.set wr ⟨b, off + j * 2, none⟩ (.int .i64 (k + 2 * (j : Nat))))).trans (Keep.of hs1 b2)).trans (Keep.set w2 ⟨b, off + j * 2 + 1, none⟩ (.string (mkT (k + 2 * (j : Nat) + 1)))))
      have S2 := Lib.hid (show hi ≤ (w2.setCell ⟨b, off + j * 2 + 1, none⟩ (.string (mkT (k + 2 * (j : Nat) + 1)))).heap.size from by rw [World.size_setCell]; exact Nat.le_trans hs1 b2.size)
      clear b2 d0 z0 CH KH hs1
      go_wp2
      go_roundw
      case rel => exact ⟨j + 1, by omega, by go_num, by go_num, S2.out, C2.out, K2.out⟩
      case measure => simp [intOf]; omega
    · obtain rfl : j = n := by omega
      have FN := Lib.hid (show MkC lo hi (k + 2 * j) w (.returned (.int .i64 (k + 2 * j))) wr from ⟨rfl, C, K⟩)
      clear C K hs
      go_wp2
      go_ret
      exact FN.out
theorem markStringSB (a : Option Addr) (cap : Nat) (l : List ByteArray) (k : Int) (lo : Nat) (v w : World) (z : Rdb.sz l ≤ 2097152) (k0 : 1 ≤ k) (k1 : k ≤ 1000000000) (h : Rows true lo v a l) (hs : Shadow v.heap.size v w) (hz : v.heap.size ≤ w.heap.size) :
    Calls Try.prog 61 #[.slice a l.length cap, .int .i64 k] w (MkQ lo v.heap.size k w) := by
  have hl := sz_len l
  refine (markStringSC a cap l.length k lo v.heap.size w (by omega) k0 (by omega) (room_of h hs) hz).mono ?_
  rintro e w' ⟨rfl, c, -⟩
  exact ⟨_, rfl, by omega, by omega, c⟩
theorem markT (q cap : Nat) (l : List ByteArray) (k : Int) (lo : Nat) (w : World) (hl : l.length ≤ 2097152) (k0 : 1 ≤ k) (k1 : k ≤ 1000000000) (h : Rows true lo w (some ⟨q, 0, none⟩) l) :
    Calls Try.prog 61 #[.slice (some ⟨q, 0, none⟩) l.length cap, .int .i64 k] w (MkQ q (q + 1) k w) := by
  by_cases e : l.length = 0
  · rw [e]
    refine (markStringSC (some ⟨q, 0, none⟩) cap 0 k q (min (q + 1) w.heap.size) w (by omega) k0 (by omega) (.inl (by omega)) (Nat.min_le_right _ _)).mono ?_
    rintro e w' ⟨rfl, c, -⟩
    exact ⟨_, rfl, by simp; omega, by simp; omega, ⟨c.os, c.tape, c.output, c.size, fun x hx hs => c.block x (by omega) hs⟩⟩
  · have R := room_of h (fun _ _ => rfl)
    have hq : q < w.heap.size := by
      rcases R with z | ⟨b, off, e', _, h2, _⟩
      · exact absurd z (by show ¬ l.length * 1 = 0; omega)
      · obtain ⟨rfl, -⟩ : q = b ∧ 0 = off := by simpa using e'
        exact h2
    have R2 : Room q (q + 1) w (some ⟨q, 0, none⟩) (l.length * 1) := by
      rcases R with z | ⟨b, off, e', h1, h2, h3, h4⟩
      · exact .inl z
      · obtain ⟨rfl, rfl⟩ : q = b ∧ 0 = off := by simpa using e'
        exact .inr ⟨q, 0, rfl, Nat.le_refl _, Nat.lt_succ_self _, h3, h4⟩
    refine (markStringSC (some ⟨q, 0, none⟩) cap l.length k q (q + 1) w hl k0 (by omega) R2 hq).mono ?_
    rintro e w' ⟨rfl, c, -⟩
    exact ⟨_, rfl, by omega, by omega, c⟩
set_option maxRecDepth 100000 in
set_option maxHeartbeats 2000000 in
theorem markDiskB (d : DDisk) (a0 : Option Addr) (c0 : Nat) (a1 : Option Addr) (c1 : Nat) (k : Int) (lo : Nat) (v w : World) (z : Rdb.sz d ≤ 2097152) (k0 : 1 ≤ k) (k1 : k ≤ 1000000000) (h0 : Rows true lo v a0 d.sectors) (h1 : Rows true lo v a1 d.waits) (hs : Shadow v.heap.size v w) (hz : v.heap.size ≤ w.heap.size) :
    Calls Try.prog 18 #[.agg #[.slice a0 d.sectors.length c0, .slice a1 d.waits.length c1], .int .i64 k] w (MkQ lo v.heap.size k w) := by
  have E : Rdb.sz d = Rdb.sz d.sectors + Rdb.sz d.waits := rfl
  have e1 := sz_len d.sectors
  have e2 := sz_len d.waits
  have LY := lay w (.cells #[.slice a0 d.sectors.length c0, .slice a1 d.waits.length c1] 36)
  have YN := BxN.new w #[.slice a0 d.sectors.length c0, .slice a1 d.waits.length c1] 36
  have y0 := YN.cells 0 _ rfl
  have y1 := YN.cells 1 _ rfl
  have RA := room_of h0 hs
  have RB := room_of h1 hs
  have hl1 : d.sectors.length ≤ 2097152 := by omega
  have hl2 : d.waits.length ≤ 2097152 := by omega
  have M1 := Lib.hid (fun w' (b : Below w.heap.size w w') => markStringSC a0 c0 d.sectors.length k lo v.heap.size w' hl1 k0 (by omega) (RA.below hz b) (Nat.le_trans hz b.size))
  have M2 := Lib.hid (fun w' (r : Room lo v.heap.size w' a1 (d.waits.length * 2)) (q : v.heap.size ≤ w'.heap.size) => markPendingSC a1 c1 d.waits.length (k + d.sectors.length) lo v.heap.size w' hl2 (by omega) (by omega) r q)
  have RH := Lib.hid (fun w' (b : Below w.heap.size w w') => RB.below hz b)
  have YB := Lib.hid (Nat.lt_of_lt_of_le YN.lt (Nat.le_refl _))
  have YH := Lib.hid YN
  have L := Lib.hid LY
  have HZ := Lib.hid hz
  clear YN LY RA RB h0 h1 hs E e1 e2 z
  generalize hi0 : v.heap.size = hi at *
  clear hi0
  generalize d.sectors.length = n at *
  generalize d.waits.length = m at *
  go_enter Try.func18, Try.ntmps18
  go_wp2_with fail
  refine (M1.out _ L.out).mono ?_
  rintro e w1 ⟨rfl, c1', kp1⟩
  have z1 : w1.cell? ⟨w.heap.size, 1, none⟩ = some (.slice a1 m c1) := (World.cell?_of_block (a := ⟨w.heap.size, 1, none⟩) (c1'.block _ (.inr hz) YB.out)).trans (YH.out.cells 1 _ rfl)
  have S1 := Lib.hid (Nat.le_trans (Nat.le_trans HZ.out L.out.size) c1'.size)
  have R1 := Lib.hid (kp1 _ _ _ (RH.out _ L.out))
  have C1 := Lib.hid ((Chg.of L.out).trans c1')
  clear kp1 c1' y0 y1
  go_wp2_with fail
  refine (M2.out _ R1.out S1.out).mono ?_
  rintro e w2 ⟨rfl, c2', -⟩
  have F := Lib.hid (show MkQ lo hi k w (.returned (.int .i64 (k + n + 2 * m))) w2 from ⟨_, rfl, by omega, by omega, C1.out.trans c2'⟩)
  clear c2'
  go_wp2
  go_ret
  exact F.out
end Go.Proofs.Ytdieekgihdikdaa.Rd
