/-
  Marks into a disk that was handed back, and found again.
-/
import Derived.Test.YtdieekgihdikdaaMtb
import Derived.Deep.RegionWith
namespace Go.Proofs.Ytdieekgihdikdaa.Rd
open Go.RowKit Go.ChangeShapes Go.WideShapes
open Go.Proofs.Ytdieekgihdikdaa.Sg (BxN)
set_option linter.unusedVariables false
set_option linter.unusedSimpArgs false

theorem setCell_same {w : World} {p : Addr} {v : Value} (h : w.cell? p = some v) : w.setCell p v = w := by
  unfold World.cell? at h
  split at h
  · rename_i c e f hb
    by_cases s : p.spot.isSome = true
    · rw [if_pos s] at h; cases h
    · rw [if_neg s] at h
      have hc : c.setIfInBounds p.off v = c := by
        refine Array.ext_getElem? fun i => ?_
        rw [Array.getElem?_setIfInBounds]
        by_cases q : p.off = i
        · subst q; have := (Array.getElem?_eq_some_iff.1 h).1; rw [if_pos rfl, if_pos this, h]
        · rw [if_neg q]
      unfold World.setCell
      have : w.heap.modify p.block (fun
          | .cells c elem frozen => .cells (if p.spot.isSome then c else c.setIfInBounds p.off v) elem frozen
          | o => o) = w.heap := by
        refine Array.ext_getElem? fun i => ?_
        rw [Array.getElem?_modify]
        by_cases q : p.block = i
        · subst q; rw [if_pos rfl, hb]; simp [s, hc]
        · rw [if_neg q]
      exact congrArg (fun hp => ({ w with heap := hp } : World)) this
  · cases h
/-- A type whose reading hangs on no memory. -/
class Flat (α : Type) [Rdb α] : Prop where
  flat : ∀ {fr : Bool} {lo : Nat} {w w' : World} {cs : List Value} {d : α}, Rdb.rd fr lo w cs d → Rdb.rd fr lo w' cs d
instance : Flat ByteArray := ⟨fun h => h⟩
instance : Flat DPending := ⟨fun h => h⟩
/-- A list in one block between lo and hi, which may be written, or none. -/
def One {α : Type} [Rdb α] (lo hi : Nat) (w : World) (a : Option Addr) (l : List α) : Prop :=
  l = [] ∨ ∃ q, a = some ⟨q, 0, none⟩ ∧ Rows true lo w (some ⟨q, 0, none⟩) l ∧ lo ≤ q ∧ q < hi
theorem Rows.blk {α : Type} [Rdb α] [Flat α] {fr : Bool} {lo q off : Nat} {w w' : World} {l : List α} (h : Rows fr lo w (some ⟨q, off, none⟩) l) (e : w'.heap[q]? = w.heap[q]?) (hz : w.heap.size ≤ w'.heap.size) : Rows fr lo w' (some ⟨q, off, none⟩) l := by
  rcases h with h | ⟨b, o, he, h0, hB, hf, hc⟩
  · exact .inl h
  · obtain ⟨rfl, rfl⟩ : q = b ∧ off = o := by simpa using he
    exact .inr ⟨q, off, rfl, h0, Nat.lt_of_lt_of_le hB hz, fun z i => (World.frozen?_of_block (a := ⟨q, i, none⟩) e).trans (hf z i), fun i x hx => by
      obtain ⟨cs, r, cc⟩ := hc i x hx
      exact ⟨cs, Flat.flat r, fun c v hv => (World.cell?_of_block (a := ⟨q, off + i * Rdb.size α + c, none⟩) e).trans (cc c v hv)⟩⟩
theorem One.rows {α : Type} [Rdb α] {lo hi : Nat} {w : World} {a : Option Addr} {l : List α} (h : One lo hi w a l) : Rows true lo w a l := by
  rcases h with h | ⟨q, rfl, r, _, _⟩
  · exact .inl h
  · exact r
theorem One.keep {α : Type} [Rdb α] [Flat α] {lo hi : Nat} {w w' : World} {a : Option Addr} {l : List α} (h : One lo hi w a l) (e : ∀ q, lo ≤ q → q < hi → w'.heap[q]? = w.heap[q]?) (hz : w.heap.size ≤ w'.heap.size) : One lo hi w' a l := by
  rcases h with h | ⟨q, rfl, r, h1, h2⟩
  · exact .inl h
  · exact .inr ⟨q, rfl, r.blk (e q h1 h2) hz, h1, h2⟩
theorem One.wide {α : Type} [Rdb α] {lo hi lo' hi' : Nat} {w : World} {a : Option Addr} {l : List α} (h : One lo hi w a l) (h1 : lo' ≤ lo) (h2 : hi ≤ hi') : One lo' hi' w a l := by
  rcases h with h | ⟨q, e, r, h3, h4⟩
  · exact .inl h
  · exact .inr ⟨q, e, r.weak h1 id, by omega, by omega⟩
/-- A disk's lists, each in a block of its own between lo and hi. -/
def Own2 (lo hi : Nat) (w : World) (d : DDisk) (a0 a1 : Option Addr) : Prop := hi ≤ w.heap.size ∧ ∃ m, lo ≤ m ∧ m ≤ hi ∧ One lo m w a0 d.sectors ∧ One m hi w a1 d.waits
/-- A disk's lists, read. -/
def Rw2 (w : World) (d : DDisk) (a0 a1 : Option Addr) : Prop := Rows false 0 w a0 d.sectors ∧ Rows false 0 w a1 d.waits
theorem Rw2.below {w w' : World} {d : DDisk} {a0 a1 : Option Addr} (h : Rw2 w d a0 a1) (b : Below w.heap.size w w') : Rw2 w' d a0 a1 := ⟨h.1.below b, h.2.below b⟩
theorem Own2.rows {lo hi : Nat} {w : World} {d : DDisk} {a0 a1 : Option Addr} (h : Own2 lo hi w d a0 a1) : Rw2 w d a0 a1 := by
  obtain ⟨_, m, _, _, h1, h2⟩ := h
  exact ⟨h1.rows.weak (Nat.zero_le _) (fun e => by cases e), h2.rows.weak (Nat.zero_le _) (fun e => by cases e)⟩
theorem Own2.keep {lo hi : Nat} {w w' : World} {d : DDisk} {a0 a1 : Option Addr} (h : Own2 lo hi w d a0 a1) (e : ∀ q, lo ≤ q → q < hi → w'.heap[q]? = w.heap[q]?) (hz : w.heap.size ≤ w'.heap.size) : Own2 lo hi w' d a0 a1 := by
  obtain ⟨hh, m, p, q, h1, h2⟩ := h
  exact ⟨Nat.le_trans hh hz, m, p, q, h1.keep (fun k a b => e k a (by omega)) hz, h2.keep (fun k a b => e k (by omega) b) hz⟩
theorem Own2.below {lo hi : Nat} {w w' : World} {d : DDisk} {a0 a1 : Option Addr} (h : Own2 lo hi w d a0 a1) (b : Below w.heap.size w w') : Own2 lo hi w' d a0 a1 :=
  h.keep (fun k _ q => b.block k (Nat.lt_of_lt_of_le q h.1)) b.size
theorem Own2.high {lo hi lo' hi' : Nat} {w w' : World} {d : DDisk} {a0 a1 : Option Addr} (h : Own2 lo hi w d a0 a1) (hh : hi' ≤ lo) (c : Chg lo' hi' w w') : Own2 lo hi w' d a0 a1 :=
  h.keep (fun k p q => c.block k (.inr (Nat.le_trans hh p)) (Nat.lt_of_lt_of_le q h.1)) c.size
/-- What the program hands back: a disk in memory of its own, and a code; a disk alone; what the model hands back. -/
def AnsK (d : DDisk) (rc : Int) (w : World) (e : Ending) (w' : World) : Prop := ∃ a0 c0 a1 c1, e = .returned (.tuple #[.agg #[.slice a0 d.sectors.length c0, .slice a1 d.waits.length c1], .int .i64 rc]) ∧ Own2 w.heap.size w'.heap.size w' d a0 a1 ∧ (d.sectors.length ≤ c0 ∧ d.waits.length ≤ c1) ∧ Below w.heap.size w w'
def AnsKD (d : DDisk) (w : World) (e : Ending) (w' : World) : Prop := ∃ a0 c0 a1 c1, e = .returned (.agg #[.slice a0 d.sectors.length c0, .slice a1 d.waits.length c1]) ∧ Own2 w.heap.size w'.heap.size w' d a0 a1 ∧ (d.sectors.length ≤ c0 ∧ d.waits.length ≤ c1) ∧ Below w.heap.size w w'
def AnsKR (d : DDisk) (rc : Int) (w : World) (e : Ending) (w' : World) : Prop := ∃ a0 c0 a1 c1, e = .returned (.tuple #[.agg #[.slice a0 d.sectors.length c0, .slice a1 d.waits.length c1], .int .i64 rc]) ∧ Rw2 w' d a0 a1 ∧ (d.sectors.length ≤ c0 ∧ d.waits.length ≤ c1) ∧ Below w.heap.size w w'
def AnsKRD (d : DDisk) (w : World) (e : Ending) (w' : World) : Prop := ∃ a0 c0 a1 c1, e = .returned (.agg #[.slice a0 d.sectors.length c0, .slice a1 d.waits.length c1]) ∧ Rw2 w' d a0 a1 ∧ (d.sectors.length ≤ c0 ∧ d.waits.length ≤ c1) ∧ Below w.heap.size w w'
theorem bxChg {lo hi : Nat} {w w' : World} {b : Nat} {vs : List Value} (h : Sg.BxN w b vs) (c : Chg lo hi w w') (hb : b < lo ∨ hi ≤ b) : Sg.BxN w' b vs :=
  ⟨Nat.lt_of_lt_of_le h.lt c.size, fun i v hv => (World.cell?_of_block (a := ⟨b, i, none⟩) (c.block b hb h.lt)).trans (h.cells i v hv), fun i => (World.frozen?_of_block (a := ⟨b, i, none⟩) (c.block b hb h.lt)).trans (h.free i)⟩
theorem Chg.widen {lo lo' hi hi' : Nat} {w w' : World} (c : Chg lo hi w w') (h1 : lo' ≤ lo) (h2 : hi ≤ hi') : Chg lo' hi' w w' := ⟨c.os, c.tape, c.output, c.size, fun k hk hs => c.block k (by omega) hs⟩
theorem ltL {q : Nat} {w w' : World} (h : q < w.heap.size) (b : Below w.heap.size w w') : q < w'.heap.size := Nat.lt_of_lt_of_le h b.size
theorem leL {q : Nat} {w w' : World} (h : q ≤ w.heap.size) (b : Below w.heap.size w w') : q ≤ w'.heap.size := Nat.le_trans h b.size
def mkStr (m : Int) (i : Nat) : ByteArray := mkT (m + (i : Nat))
def mkPend (m : Int) (i : Nat) : DPending := ⟨m + 2 * (i : Nat), mkT (m + 2 * (i : Nat) + 1)⟩
set_option maxRecDepth 100000 in
set_option maxHeartbeats 2000000 in
theorem markXStringS (q cap n : Nat) (l : List ByteArray) (m : Int) (lo : Nat) (w : World) (hn : l.length = n) (hl : n ≤ 2097152) (k0 : 1 ≤ m) (k1 : m ≤ 100000000000) (h : Rows true lo w (some ⟨q, 0, none⟩) l) :
    Calls Try.prog 61 #[.slice (some ⟨q, 0, none⟩) n cap, .int .i64 m] w (MkX lo q n (m + n) (mkStr m) w) := by
  have LN := Lib.hid (fun j => (mixL_len (mkStr m) l j).trans hn)
  have ALL := Lib.hid (mixL_all (mkStr m) l)
  have HN := Lib.hid hn
  have R0 := Lib.hid h
  clear h hn
  go_enter Try.func61, Try.ntmps61
  go_wp2
  go_loopw [1, 5] (fun kk i wr => ∃ j : Nat, j ≤ n ∧ i = .int .i64 j ∧ kk = .int .i64 (m + j) ∧ Rows true lo wr (some ⟨q, 0, none⟩) (mixL (mkStr m) l j) ∧ Chg q (q + 1) w wr) (fun _ i _ => n - (intOf i).toNat)
  case atStart => exact ⟨0, by omega, rfl, by simp, R0.out, Chg.refl _ _ _⟩
  case round =>
    obtain ⟨j, hj, rfl, rfl, R, C⟩ := hrel
    by_cases hlt : j < n
    · obtain ⟨x, hx⟩ := get_lt (show j < (mixL (mkStr m) l j).length by rw [LN.out]; exact hlt)
      have RH := Lib.hid R
      have CH := Lib.hid C
      obtain ⟨b, off, he, h0, hB, hf, hc⟩ := R.resolve_left (by intro e; rw [e] at hx; simp at hx)
      obtain ⟨rfl, rfl⟩ : q = b ∧ 0 = off := by simpa using he
      obtain ⟨cs, ⟨rfl, -⟩, hcc⟩ := hc j x hx
      have d0 : wr.cell? ⟨q, j, none⟩ = some (.string x) := by have := hcc 0 _ rfl; rwa [show 0 + j * Rdb.size ByteArray + 0 = j from by show 0 + j * 1 + 0 = _; omega] at this
      have z0 := hf rfl j
      have MT := Lib.hid (fun w' => markText (m + (j : Nat)) w' (by omega) (by omega))
      clear C hf hc hcc hx he R0 R
      go_wp2_with fail
      refine (MT.out _).mono ?_
      rintro e w2 ⟨rfl, b2⟩
      have d2 := (b2.cell (p := ⟨q, j, none⟩) hB).trans d0
      have z2 := (b2.frozen (p := ⟨q, j, none⟩) hB).trans z0
      have P := Rows.put (fun h => h) (RH.out.below b2) (show j < (mixL (mkStr m) l j).length by rw [LN.out]; exact hlt) (show Rdb.rd true lo w2 [.string (mkT (m + (j : Nat)))] (mkStr m j) from ⟨rfl, mkT_size (by omega)⟩)
      rw [show 0 + j * Rdb.size ByteArray = j from by show 0 + j * 1 = _; omega] at P
      have P2 : Rows true lo (w2.setCell ⟨q, j, none⟩ (.string (mkT (m + (j : Nat))))) (some ⟨q, 0, none⟩) (mixL (mkStr m) l (j + 1)) := P
      have P2 := Lib.hid P2
      have C2 := Lib.hid ((CH.out.trans (Chg.of b2)).trans (Chg.set w2 ⟨q, j, none⟩ (.string (mkT (m + (j : Nat)))) (Nat.le_refl q) (Nat.lt_succ_self q)))
      clear P CH RH b2 d0 z0
      go_wp2
      go_roundw
      case rel => exact ⟨j + 1, by omega, by go_num, by go_num, P2.out, C2.out⟩
      case measure => simp [intOf]; omega
    · obtain rfl : j = n := by omega
      have FN := Lib.hid (show MkX lo q j (m + j) (mkStr m) w (.returned (.int .i64 (m + j))) wr from ⟨rfl, by have := ALL.out; rw [HN.out] at this; rw [this] at R; exact R, C⟩)
      clear R C
      go_wp2
      go_ret
      exact FN.out
set_option maxRecDepth 100000 in
set_option maxHeartbeats 2000000 in
theorem markXPendingS (q cap n : Nat) (l : List DPending) (m : Int) (lo : Nat) (w : World) (hn : l.length = n) (hl : n ≤ 2097152) (k0 : 1 ≤ m) (k1 : m ≤ 100000000000) (h : Rows true lo w (some ⟨q, 0, none⟩) l) :
    Calls Try.prog 62 #[.slice (some ⟨q, 0, none⟩) n cap, .int .i64 m] w (MkX lo q n (m + 2 * n) (mkPend m) w) := by
  have LN := Lib.hid (fun j => (mixL_len (mkPend m) l j).trans hn)
  have ALL := Lib.hid (mixL_all (mkPend m) l)
  have HN := Lib.hid hn
  have R0 := Lib.hid h
  clear h hn
  go_enter Try.func62, Try.ntmps62
  go_wp2
  go_loopw [1, 5] (fun kk i wr => ∃ j : Nat, j ≤ n ∧ i = .int .i64 j ∧ kk = .int .i64 (m + 2 * j) ∧ Rows true lo wr (some ⟨q, 0, none⟩) (mixL (mkPend m) l j) ∧ Chg q (q + 1) w wr) (fun _ i _ => n - (intOf i).toNat)
  case atStart => exact ⟨0, by omega, rfl, by simp, R0.out, Chg.refl _ _ _⟩
  case round =>
    obtain ⟨j, hj, rfl, rfl, R, C⟩ := hrel
    by_cases hlt : j < n
    · obtain ⟨x, hx⟩ := get_lt (show j < (mixL (mkPend m) l j).length by rw [LN.out]; exact hlt)
      obtain ⟨b, off, he, h0, hB, hf, hc⟩ := R.resolve_left (by intro e; rw [e] at hx; simp at hx)
      obtain ⟨rfl, rfl⟩ : q = b ∧ 0 = off := by simpa using he
      obtain ⟨cs, hr, hcc⟩ := hc j x hx
      obtain ⟨rfl, f0, f1⟩ := shape_Pending hr
      have d0 : wr.cell? ⟨q, j * 2, none⟩ = some (.int .i64 x.atF) := by have := hcc 0 _ rfl; rwa [show 0 + j * Rdb.size DPending + 0 = j * 2 from by show 0 + j * 2 + 0 = _; omega] at this
      have d1 : wr.cell? ⟨q, j * 2 + 1, none⟩ = some (.string x.bytes) := by have := hcc 1 _ rfl; rwa [show 0 + j * Rdb.size DPending + 1 = j * 2 + 1 from by show 0 + j * 2 + 1 = _; omega] at this
      have z0 := hf rfl (j * 2)
      have z1 := hf rfl (j * 2 + 1)
      have CH := Lib.hid (C.trans (Chg.set wr ⟨q, j * 2, none⟩ (.int .i64 (m + 2 * (j : Nat))) (Nat.le_refl q) (Nat.lt_succ_self q)))
      have hB1 : q < (wr.setCell ⟨q, j * 2, none⟩ (.int .i64 (m + 2 * (j : Nat)))).heap.size := by rw [World.size_setCell]; exact hB
      have D1 := Lib.hid ((World.cell?_setCell_other wr ⟨q, j * 2, none⟩ ⟨q, j * 2 + 1, none⟩ (.int .i64 (m + 2 * (j : Nat))) (by simp)).trans d1)
      have Z1 := Lib.hid ((show (wr.setCell ⟨q, j * 2, none⟩ (.int .i64 (m + 2 * (j : Nat)))).frozen? ⟨q, j * 2 + 1, none⟩ = wr.frozen? ⟨q, j * 2 + 1, none⟩ from World.frozen?_setCell _ _ _ _).trans z1)
      -- the list with the number in place
      have PA := Rows.put (fun h => h) R (show j < (mixL (mkPend m) l j).length by rw [LN.out]; exact hlt) (show Rdb.rd true lo wr [.int .i64 (m + 2 * (j : Nat)), .string x.bytes] (⟨m + 2 * (j : Nat), x.bytes⟩ : DPending) from mk_Pending (d := ⟨m + 2 * (j : Nat), x.bytes⟩) (WalkArith.wf_i64 (by show _ ≤ m + 2 * (j : Int) ∧ m + 2 * (j : Int) ≤ _; omega)) f1)
      rw [show 0 + j * Rdb.size DPending = j * 2 from by show 0 + j * 2 = _; omega] at PA
      have PA : Rows true lo ((wr.setCell ⟨q, j * 2, none⟩ (.int .i64 (m + 2 * (j : Nat)))).setCell ⟨q, j * 2 + 1, none⟩ (.string x.bytes)) (some ⟨q, 0, none⟩) ((mixL (mkPend m) l j).set j ⟨m + 2 * (j : Nat), x.bytes⟩) := PA
      have EQ := setCell_same D1.out
      rw [EQ] at PA
      have RH := Lib.hid PA
      have MT := Lib.hid (fun w' => markText (m + 2 * (j : Nat) + 1) w' (by omega) (by omega))
      have LS := Lib.hid (show j < ((mixL (mkPend m) l j).set j (⟨m + 2 * (j : Nat), x.bytes⟩ : DPending)).length from by rw [List.length_set, LN.out]; exact hlt)
      clear C hf hc hcc hx he R0 R d1 z1 hr PA EQ f0 f1
      go_wp2_with fail
      refine (MT.out _).mono ?_
      rintro e w2 ⟨rfl, b2⟩
      have d2 := (b2.cell (p := ⟨q, j * 2 + 1, none⟩) hB1).trans D1.out
      have z2 := (b2.frozen (p := ⟨q, j * 2 + 1, none⟩) hB1).trans Z1.out
      have R2 := RH.out.below b2
      obtain ⟨b, off, he, h0', hB', hf, hc⟩ := R2.resolve_left (by intro e; have := LS.out; rw [e] at this; simp at this)
      obtain ⟨rfl, rfl⟩ : q = b ∧ 0 = off := by simpa using he
      have P := Rows.put (fun h => h) R2 LS.out (show Rdb.rd true lo w2 [.int .i64 (m + 2 * (j : Nat)), .string (mkT (m + 2 * (j : Nat) + 1))] (mkPend m j) from mk_Pending (d := mkPend m j) (WalkArith.wf_i64 (by show _ ≤ m + 2 * (j : Int) ∧ m + 2 * (j : Int) ≤ _; omega)) (mkT_size (by omega)))
      rw [show 0 + j * Rdb.size DPending = j * 2 from by show 0 + j * 2 = _; omega, List.set_set] at P
      have P2 : Rows true lo ((w2.setCell ⟨q, j * 2, none⟩ (.int .i64 (m + 2 * (j : Nat)))).setCell ⟨q, j * 2 + 1, none⟩ (.string (mkT (m + 2 * (j : Nat) + 1)))) (some ⟨q, 0, none⟩) (mixL (mkPend m) l (j + 1)) := P
      have c0 : w2.cell? ⟨q, j * 2, none⟩ = some (.int .i64 (m + 2 * (j : Nat))) := (b2.cell (p := ⟨q, j * 2, none⟩) hB1).trans (World.cell?_setCell_same _ _ _ d0)
      rw [setCell_same c0] at P2
      have P2 := Lib.hid P2
      have C2 := Lib.hid ((CH.out.trans (Chg.of b2)).trans (Chg.set w2 ⟨q, j * 2 + 1, none⟩ (.string (mkT (m + 2 * (j : Nat) + 1))) (Nat.le_refl q) (Nat.lt_succ_self q)))
      clear P CH RH b2 d0 z0 R2 hf hc h0' hB' he c0 hB1
      go_wp2
      go_roundw
      case rel => exact ⟨j + 1, by omega, by go_num, by go_num, P2.out, C2.out⟩
      case measure => simp [intOf]; omega
    · obtain rfl : j = n := by omega
      have FN := Lib.hid (show MkX lo q j (m + 2 * j) (mkPend m) w (.returned (.int .i64 (m + 2 * j))) wr from ⟨rfl, by have := ALL.out; rw [HN.out] at this; rw [this] at R; exact R, C⟩)
      clear R C
      go_wp2
      go_ret
      exact FN.out
set_option maxRecDepth 100000 in
set_option maxHeartbeats 2000000 in
theorem heldStringS (a : Option Addr) (cap n : Nat) (m : Int) (fr : Bool) (lo : Nat) (w : World) (hl : n ≤ 2097152) (k0 : 1 ≤ m) (k1 : m ≤ 100000000000) (h : Rows fr lo w a ((List.range n).map (mkStr m))) :
    Calls Try.prog 63 #[.slice a n cap, .int .i64 m] w (RetW (.int .i64 (m + n)) w) := by
  have R0 := Lib.hid h
  clear h
  go_enter Try.func63, Try.ntmps63
  go_wp2
  go_loopw [1, 5] (fun kk i wr => ∃ j : Nat, j ≤ n ∧ i = .int .i64 j ∧ kk = .int .i64 (m + j) ∧ Below w.heap.size w wr) (fun _ i _ => n - (intOf i).toNat)
  case atStart => exact ⟨0, by omega, rfl, by simp, Below.refl _ _⟩
  case round =>
    obtain ⟨j, hj, rfl, rfl, hw⟩ := hrel
    have HW := Lib.hid hw
    by_cases hlt : j < n
    · have hx : ((List.range n).map (mkStr m))[j]? = some (mkStr m j) := by rw [List.getElem?_map, List.getElem?_range hlt]; rfl
      obtain ⟨b, off, cs, rfl, -, hB, ⟨rfl, -⟩, hcc⟩ := (R0.out.below hw).at' hx
      have d0 : wr.cell? ⟨b, off + j, none⟩ = some (.string (mkT (m + (j : Nat)))) := by have := hcc 0 _ rfl; rwa [show off + j * Rdb.size ByteArray + 0 = off + j from by show off + j * 1 + 0 = _; omega] at this
      have MT := Lib.hid (fun w' => markText (m + (j : Nat)) w' (by omega) (by omega))
      clear hcc hw hx
      generalize mkT (m + (j : Nat)) = tx at *
      go_wp2
      go_region_with (go_at_call 102; refine (MT.out _).mono ?_; rintro e w2 ⟨rfl, b2⟩; have b3 := undrewX b2; have B2 := Lib.hid (chainX w HW.out b3); have d2 := (b3.cell (p := ⟨b, off + j, none⟩) hB).trans d0; clear b2 b3)
      all_goals
        go_wp2
        go_roundw
        case rel => exact ⟨j + 1, by omega, by go_num, by go_num, B2.out⟩
        case measure => simp [intOf]; omega
    · obtain rfl : j = n := by omega
      clear hw
      go_wp2
      go_ret
      exact ⟨rfl, HW.out⟩
set_option maxRecDepth 100000 in
set_option maxHeartbeats 2000000 in
theorem heldPendingS (a : Option Addr) (cap n : Nat) (m : Int) (fr : Bool) (lo : Nat) (w : World) (hl : n ≤ 2097152) (k0 : 1 ≤ m) (k1 : m ≤ 100000000000) (h : Rows fr lo w a ((List.range n).map (mkPend m))) :
    Calls Try.prog 64 #[.slice a n cap, .int .i64 m] w (RetW (.int .i64 (m + 2 * n)) w) := by
  have R0 := Lib.hid h
  clear h
  go_enter Try.func64, Try.ntmps64
  go_wp2
  go_loopw [1, 5] (fun kk i wr => ∃ j : Nat, j ≤ n ∧ i = .int .i64 j ∧ kk = .int .i64 (m + 2 * j) ∧ Below w.heap.size w wr) (fun _ i _ => n - (intOf i).toNat)
  case atStart => exact ⟨0, by omega, rfl, by simp, Below.refl _ _⟩
  case round =>
    obtain ⟨j, hj, rfl, rfl, hw⟩ := hrel
    have HW := Lib.hid hw
    by_cases hlt : j < n
    · have hx : ((List.range n).map (mkPend m))[j]? = some (mkPend m j) := by rw [List.getElem?_map, List.getElem?_range hlt]; rfl
      obtain ⟨b, off, cs, rfl, -, hB, hr, hcc⟩ := (R0.out.below hw).at' hx
      obtain ⟨rfl, f0, f1⟩ := shape_Pending hr
      have d0 : wr.cell? ⟨b, off + j * 2, none⟩ = some (.int .i64 (m + 2 * (j : Nat))) := hcc 0 _ rfl
      have d1 : wr.cell? ⟨b, off + j * 2 + 1, none⟩ = some (.string (mkT (m + 2 * (j : Nat) + 1))) := hcc 1 _ rfl
      clear hr f0 f1
      have MT := Lib.hid (fun w' => markText (m + 2 * (j : Nat) + 1) w' (by omega) (by omega))
      clear hcc hw hx
      generalize mkT (m + 2 * (j : Nat) + 1) = tx at *
      go_wp2
      go_region_with (go_at_call 102; refine (MT.out _).mono ?_; rintro e w2 ⟨rfl, b2⟩; have b3 := undrewX b2; have B2 := Lib.hid (chainX w HW.out b3); have d2 := (b3.cell (p := ⟨b, off + j * 2 + 1, none⟩) hB).trans d1; clear b2 b3)
      all_goals
        go_wp2
        go_roundw
        case rel => exact ⟨j + 1, by omega, by go_num, by go_num, B2.out⟩
        case measure => simp [intOf]; omega
    · obtain rfl : j = n := by omega
      clear hw
      go_wp2
      go_ret
      exact ⟨rfl, HW.out⟩
/-- A disk with its marks. -/
def mkDisk (d : DDisk) : DDisk := ⟨(List.range d.sectors.length).map (mkStr 1), (List.range d.waits.length).map (mkPend (1 + (d.sectors.length : Int)))⟩
theorem eqK (d : DDisk) (a0 : Option Addr) (c0 : Nat) (a1 : Option Addr) (c1 : Nat) (b0 : Option Addr) (e0 : Nat) (b1 : Option Addr) (e1 : Nat) (w : World) (hs : Rdb.sz d ≤ 2097152) (h : Rw2 w d a0 a1) (k : Rw2 w d b0 b1) (z1 : d.sectors.length ≤ c0 ∧ d.waits.length ≤ c1) (z2 : d.sectors.length ≤ e0 ∧ d.waits.length ≤ e1) :
    Calls Try.prog 16 #[.agg #[.slice a0 d.sectors.length c0, .slice a1 d.waits.length c1], .agg #[.slice b0 d.sectors.length e0, .slice b1 d.waits.length e1]] w (TrueW w) := by
  have E : Rdb.sz d = Rdb.sz d.sectors + Rdb.sz d.waits := rfl
  have q1 := sz_len d.sectors
  have q2 := sz_len d.waits
  exact eqDisk d w hs (mk_Disk h.1 ⟨by omega, z1.1⟩ h.2 ⟨by omega, z1.2⟩) (mk_Disk k.1 ⟨by omega, z2.1⟩ k.2 ⟨by omega, z2.2⟩)
theorem markOne {α : Type} [Rdb α] (g : Int → Nat → α) (fn : FuncId) (step : Nat → Nat) (hm : ∀ (q cap n : Nat) (l : List α) (m : Int) (lo : Nat) (w : World), l.length = n → n ≤ 2097152 → 1 ≤ m → m ≤ 100000000000 → Rows true lo w (some ⟨q, 0, none⟩) l → Calls Try.prog fn #[.slice (some ⟨q, 0, none⟩) n cap, .int .i64 m] w (MkX lo q n (m + (step n : Int)) (g m) w))
    (hn : ∀ (a : Option Addr) (cap : Nat) (m : Int) (w : World), Calls Try.prog fn #[.slice a 0 cap, .int .i64 m] w (fun e w' => e = .returned (.int .i64 m) ∧ w' = w)) (h0 : step 0 = 0)
    (a : Option Addr) (cap : Nat) (l : List α) (m : Int) (lo hi : Nat) (w : World) (hl : l.length ≤ 2097152) (k0 : 1 ≤ m) (k1 : m ≤ 100000000000) (h : One lo hi w a l) :
    Calls Try.prog fn #[.slice a l.length cap, .int .i64 m] w (fun e w' => e = .returned (.int .i64 (m + (step l.length : Int))) ∧ One lo hi w' a ((List.range l.length).map (g m)) ∧ Chg lo hi w w') := by
  rcases h with h | ⟨q, rfl, r, h1, h2⟩
  · subst h
    refine (hn a cap m w).mono ?_
    rintro e w' ⟨rfl, rfl⟩
    exact ⟨by show _ = Ending.returned (.int .i64 (m + ((step 0 : Nat) : Int))); rw [h0]; simp, .inl rfl, Chg.refl _ _ _⟩
  · refine (hm q cap l.length l m lo w rfl hl k0 k1 r).mono ?_
    rintro e w' ⟨rfl, r', c⟩
    exact ⟨rfl, .inr ⟨q, rfl, r', h1, h2⟩, c.widen h1 (by omega)⟩
theorem markNilStringS (a : Option Addr) (cap : Nat) (k : Int) (w : World) :
    Calls Try.prog 61 #[.slice a 0 cap, .int .i64 k] w (fun e w' => e = .returned (.int .i64 k) ∧ w' = w) := by
  go_enter Try.func61, Try.ntmps61
  go_wp2
  go_loop [1, 5] (fun kk i => i = .int .i64 0 ∧ kk = .int .i64 k) (fun _ i => 0)
  case atStart => exact ⟨rfl, rfl⟩
  case round =>
    obtain ⟨rfl, rfl⟩ := hrel
    go_wp2
    go_ret
    exact ⟨rfl, rfl⟩
theorem markNilPendingS (a : Option Addr) (cap : Nat) (k : Int) (w : World) :
    Calls Try.prog 62 #[.slice a 0 cap, .int .i64 k] w (fun e w' => e = .returned (.int .i64 k) ∧ w' = w) := by
  go_enter Try.func62, Try.ntmps62
  go_wp2
  go_loop [1, 5] (fun kk i => i = .int .i64 0 ∧ kk = .int .i64 k) (fun _ i => 0)
  case atStart => exact ⟨rfl, rfl⟩
  case round =>
    obtain ⟨rfl, rfl⟩ := hrel
    go_wp2
    go_ret
    exact ⟨rfl, rfl⟩
set_option maxRecDepth 100000 in
set_option maxHeartbeats 2000000 in
theorem markK (d : DDisk) (a0 : Option Addr) (c0 : Nat) (a1 : Option Addr) (c1 : Nat) (mm : Int) (hmm : mm = 1 + (d.sectors.length : Int) + 2 * (d.waits.length : Int)) (lo hi : Nat) (w : World) (hs : Rdb.sz d ≤ 2097152) (h : Own2 lo hi w d a0 a1) :
    Calls Try.prog 18 #[.agg #[.slice a0 d.sectors.length c0, .slice a1 d.waits.length c1], .int .i64 1] w (fun e w' => e = .returned (.int .i64 mm) ∧ Rw2 w' (mkDisk d) a0 a1 ∧ Chg lo hi w w') := by
  have E : Rdb.sz d = Rdb.sz d.sectors + Rdb.sz d.waits := rfl
  have q1 := sz_len d.sectors
  have q2 := sz_len d.waits
  have hl1 : d.sectors.length ≤ 2097152 := by omega
  have hl2 : d.waits.length ≤ 2097152 := by omega
  have LY := lay w (.cells #[.slice a0 d.sectors.length c0, .slice a1 d.waits.length c1] 36)
  have YN := BxN.new w #[.slice a0 d.sectors.length c0, .slice a1 d.waits.length c1] 36
  have y0 := YN.cells 0 _ rfl
  have y1 := YN.cells 1 _ rfl
  have O := h.below LY
  obtain ⟨hh, md, hm1, hm2, o1, o2⟩ := O
  have hz := h.1
  have M1 := Lib.hid (markOne mkStr 61 (fun n => n) (fun q cap n l m lo w a b c d e => markXStringS q cap n l m lo w a b c d e) markNilStringS rfl a0 c0 d.sectors 1 lo md _ hl1 (by omega) (by omega) o1)
  have M2 := Lib.hid (fun w' (r : One md hi w' a1 d.waits) => markOne mkPend 62 (fun n => 2 * n) (fun q cap n l m lo w a b c d e => by
    refine (markXPendingS q cap n l m lo w a b c d e).mono ?_
    rintro e w' ⟨rfl, x, y⟩
    exact ⟨by simp, x, y⟩) markNilPendingS rfl a1 c1 d.waits (1 + (d.sectors.length : Int)) md hi w' hl2 (by omega) (by omega) r)
  have FIN := Lib.hid (fun w' (r1 : One lo md w' a0 ((List.range d.sectors.length).map (mkStr 1))) (r2 : One md hi w' a1 ((List.range d.waits.length).map (mkPend (1 + (d.sectors.length : Int))))) => (show Rw2 w' (mkDisk d) a0 a1 from ⟨r1.rows.weak (Nat.zero_le _) (fun e => by cases e), r2.rows.weak (Nat.zero_le _) (fun e => by cases e)⟩))
  have YH := Lib.hid YN
  have L := Lib.hid LY
  have O2 := Lib.hid o2
  have E3 : (1 : Int) + (d.sectors.length : Int) + ((2 * d.waits.length : Nat) : Int) = mm := by rw [hmm]; omega
  have E3 := Lib.hid E3
  clear YN LY h o1 o2 hs E q1 q2 hmm
  generalize d.sectors.length = n at *
  generalize d.waits.length = k at *
  go_enter Try.func18, Try.ntmps18
  go_wp2_with fail
  refine M1.out.mono ?_
  rintro e w1 ⟨rfl, r1, x1⟩
  have X1 := Lib.hid x1
  have z1 : w1.cell? ⟨w.heap.size, 1, none⟩ = some (.slice a1 k c1) := (World.cell?_of_block (a := ⟨w.heap.size, 1, none⟩) (x1.block _ (.inr (Nat.le_trans hm2 hz)) YH.out.lt)).trans (YH.out.cells 1 _ rfl)
  have P2 := Lib.hid (O2.out.keep (fun q a b => x1.block q (.inr a) (by omega)) x1.size)
  have R1 := Lib.hid r1
  clear r1 x1 y0 y1
  go_wp2_with fail
  refine (M2.out _ P2.out).mono ?_
  rintro e w2 ⟨rfl, r2, x2⟩
  have F := Lib.hid (FIN.out w2 (R1.out.keep (fun q a b => x2.block q (.inl b) (by have := X1.out.size; omega)) x2.size) r2)
  have C := Lib.hid ((((Chg.of (lo := lo) (hi := hi) L.out).trans (X1.out.widen (Nat.le_refl _) hm2)).trans (x2.widen hm1 (Nat.le_refl _))))
  have T := E3.out
  clear r2 x2
  rw [T]
  clear T
  go_wp2
  go_ret
  exact ⟨rfl, F.out, C.out⟩
set_option maxRecDepth 100000 in
set_option maxHeartbeats 2000000 in
theorem heldK (d : DDisk) (a0 : Option Addr) (c0 : Nat) (a1 : Option Addr) (c1 : Nat) (mm : Int) (hmm : mm = 1 + (d.sectors.length : Int) + 2 * (d.waits.length : Int)) (w : World) (hs : Rdb.sz d ≤ 2097152) (h : Rw2 w (mkDisk d) a0 a1) :
    Calls Try.prog 20 #[.agg #[.slice a0 d.sectors.length c0, .slice a1 d.waits.length c1], .int .i64 1] w (RetW (.int .i64 mm) w) := by
  have E : Rdb.sz d = Rdb.sz d.sectors + Rdb.sz d.waits := rfl
  have q1 := sz_len d.sectors
  have q2 := sz_len d.waits
  have hl1 : d.sectors.length ≤ 2097152 := by omega
  have hl2 : d.waits.length ≤ 2097152 := by omega
  have LY := lay w (.cells #[.slice a0 d.sectors.length c0, .slice a1 d.waits.length c1] 36)
  have YN := BxN.new w #[.slice a0 d.sectors.length c0, .slice a1 d.waits.length c1] 36
  have y0 := YN.cells 0 _ rfl
  have y1 := YN.cells 1 _ rfl
  have H1 := Lib.hid (fun w' (b : Below w.heap.size w w') => heldStringS a0 c0 d.sectors.length 1 false 0 w' hl1 (by omega) (by omega) (h.1.below b))
  have H2 := Lib.hid (fun w' (b : Below w.heap.size w w') => heldPendingS a1 c1 d.waits.length (1 + (d.sectors.length : Int)) false 0 w' hl2 (by omega) (by omega) (h.2.below b))
  have YH := Lib.hid YN
  have L := Lib.hid LY
  have g0 : decide ((1 : Int) + (d.sectors.length : Int) < 0) = false := decide_eq_false (by omega)
  have g1 : decide (mm < 0) = false := decide_eq_false (by omega)
  have E3 := Lib.hid hmm.symm
  clear YN LY h E q1 q2 hs hmm
  generalize d.sectors.length = n at *
  generalize d.waits.length = k at *
  go_enter Try.func20, Try.ntmps20
  go_wp2_with fail
  refine (H1.out _ L.out).mono ?_
  rintro e w1 ⟨rfl, b1⟩
  have B1 := Lib.hid (chainX w L.out b1)
  have Q := YH.out.later b1
  have z1 := Q.cells 1 _ rfl
  clear b1 Q
  go_wp2_with fail
  refine (H2.out _ B1.out).mono ?_
  rintro e w2 ⟨rfl, b2⟩
  have B2 := Lib.hid (chainX w B1.out b2)
  clear b2
  have T := E3.out
  rw [T]
  clear T
  go_wp2
  go_ret
  exact ⟨rfl, B2.out⟩
end Go.Proofs.Ytdieekgihdikdaa.Rd
