/-
  The bytes of a string, each multiplied by one field element: what the program's and the model's functions return.
-/
import Derived.Test.YtgnllkkkkkcoaaaFill
import Derived.Test.YtgnllkkkkkcoaaaGfSpec
import Derived.StillTailTactics
import Derived.Deep.RegionLaw
import Derived.Deep.RegionWith
import Derived.Deep.AppendLies
import Derived.Deep.DeepCutAuto
import Derived.Deep.OwnRows
namespace Go.Proofs.Ytgnllkkkkkcoaaa.Sc
open Go.RowKit Go.Proofs.Ytgnllkkkkkcoaaa.Bf Go.Proofs.Ytgnllkkkkkcoaaa.GfI Go.Proofs.Ytgnllkkkkkcoaaa.GfS
set_option linter.unusedVariables false

def sc (a : Int) (s : ByteArray) (i : Nat) : Int := mulZ a (byteAt s i)
def scaleText (a : Int) (s : ByteArray) : ByteArray := strOfNums ((List.range s.size).map (sc a s))
def Text (W0 : World) (s : ByteArray) (e : Ending) (w : World) : Prop := e = .returned (.string s) ∧ Below W0.heap.size W0 w

theorem snoc {W0 w' : World} {v' : Value} {acc : List Int} {c : Int} (h : Lib.OwnBuf W0.heap.size 5 v' (acc.length + 1) (acc.map (Value.int .u8) ++ [.int .u8 c]) W0 w') : Buf W0 w' v' (acc ++ [c]) := by
  unfold Buf; rw [List.length_append, List.map_append]; exact h
/-- The model's buffer after k rounds. -/
def Got (W0 wr : World) (v : Value) (f : Nat → Int) (k : Nat) : Prop := Buf W0 wr v ((List.range k).map f)

set_option maxRecDepth 100000 in
set_option maxHeartbeats 1000000 in
theorem l02Scale (a : Int) (a0 : 0 ≤ a) (a1 : a ≤ 255) (s : ByteArray) (hs : s.size ≤ 2097152) (w : World) :
    Calls Try.prog 56 #[.int .i64 a, .string s] w (Text w (scaleText a s)) := by
  obtain ⟨i0, hi, hz0, hz1, hz2⟩ := info_parts info1
  have B0 : Got w (w.alloc (.cells #[] 5)) (.slice (some ⟨w.heap.size, 0, none⟩) 0 0) (sc a s) 0 := Buf.made w 0 #[] rfl (by omega)
  go_enter Try.func56, Try.ntmps56
  go_wp2
  go_loopw [5, 6] (fun v i wr => ∃ k : Nat, k ≤ s.size ∧ i = .int .i64 k ∧ Got w wr v (sc a s) k) (fun _ i _ => s.size - (intOf i).toNat)
  case atStart => exact ⟨0, by omega, rfl, B0⟩
  case round =>
    obtain ⟨k, hk, rfl, hb⟩ := hrel
    clear B0
    by_cases hlt : k < s.size
    · have L := byteAt_lt s k
      have X := byteAt_at hlt
      rw [X] at L
      have S : mulZ a ((s[k]'hlt).toNat : Int) = sc a s k := by unfold sc; rw [X]
      have Q := mulZ_lt a0 a1 ((s[k]'hlt).toNat : Int)
      have S := Lib.hid S
      have b0 : (0 : Int) ≤ (k : Int) := by omega
      have b1 : (k : Int) < (s.size : Int) := by omega
      have HX := Lib.hid (range_snoc k (sc a s))
      have HL : ((List.range k).map (sc a s)).length = k := by simp
      unfold Got at hb
      generalize (List.range k).map (sc a s) = acc at hb HX HL
      have HL := Lib.hid HL
      clear X
      go_wp2_with fail
      refine (l02Times a _ a0 a1 (by omega) _).mono ?_
      rintro e w' ⟨rfl, rfl⟩
      generalize mulZ a ((s[k]'hlt).toNat : Int) = y at S Q ⊢
      have Y : IntKind.u8.wrap y = y := by rw [IntKind.wrap_u8]; omega
      go_wp2_with (at_builtin; refine Lib.wpList_append_byte rfl _ _ 67 rfl w.heap.size 5 i0 Try.underlying67 hi hz0 hz1 hz2 u5 acc.length (acc.map (Value.int .u8)) rfl w wr y hb rfl (by have := HL.out; omega) ?_; intro v' w' hb'; replace hb' := snoc hb')
      go_roundw
      case rel => exact ⟨k + 1, by omega, by go_num, by unfold Got; rw [HX.out, ← S.out]; exact hb'⟩
      case measure => simp [intOf]; omega
    · obtain rfl : k = s.size := by omega
      have hcv := hb.conv
      have F : Text w (scaleText a s) (.returned (.string (strOfNums ((List.range s.size).map (sc a s))))) wr := ⟨rfl, hb.below⟩
      have F := Lib.hid F
      clear hb
      go_wp2
      go_ret
      exact F.out

def pws (a : Int) : List Value := [.int .i64 (pwZ a 0), .int .i64 (pwZ a 1), .int .i64 (pwZ a 2), .int .i64 (pwZ a 3), .int .i64 (pwZ a 4), .int .i64 (pwZ a 5), .int .i64 (pwZ a 6), .int .i64 (pwZ a 7)]
abbrev nul8 : Obj := .cells #[.int .i64 0, .int .i64 0, .int .i64 0, .int .i64 0, .int .i64 0, .int .i64 0, .int .i64 0, .int .i64 0] 72
theorem cells_nul (V : World) : ∀ i, i < 8 → (V.alloc nul8).cell? ⟨V.heap.size, i, none⟩ = some (.int .i64 0) := by
  intro i hi
  rw [World.cell?_alloc_new]
  have h8 : i = 0 ∨ i = 1 ∨ i = 2 ∨ i = 3 ∨ i = 4 ∨ i = 5 ∨ i = 6 ∨ i = 7 := by omega
  rcases h8 with rfl | rfl | rfl | rfl | rfl | rfl | rfl | rfl <;> rfl
theorem undrew {V w1 : World} (h : Below V.drew.heap.size V.drew w1) : Below V.heap.size V w1 := ⟨h.os, h.tape, h.output, h.size, h.block⟩
theorem st1 {V w1 : World} (hb : Below (V.alloc nul8).heap.size (V.alloc nul8) w1) : w1.cell? ⟨V.heap.size, 0, none⟩ = some (.int .i64 0) ∧ w1.cell? ⟨V.heap.size, 1, none⟩ = some (.int .i64 0) ∧ w1.cell? ⟨V.heap.size, 2, none⟩ = some (.int .i64 0) ∧ w1.cell? ⟨V.heap.size, 3, none⟩ = some (.int .i64 0) ∧ w1.cell? ⟨V.heap.size, 4, none⟩ = some (.int .i64 0) ∧ w1.cell? ⟨V.heap.size, 5, none⟩ = some (.int .i64 0) ∧ w1.cell? ⟨V.heap.size, 6, none⟩ = some (.int .i64 0) ∧ w1.cell? ⟨V.heap.size, 7, none⟩ = some (.int .i64 0) ∧ w1.frozen? ⟨V.heap.size, 0, none⟩ = false ∧ w1.frozen? ⟨V.heap.size, 1, none⟩ = false ∧ w1.frozen? ⟨V.heap.size, 2, none⟩ = false ∧ w1.frozen? ⟨V.heap.size, 3, none⟩ = false ∧ w1.frozen? ⟨V.heap.size, 4, none⟩ = false ∧ w1.frozen? ⟨V.heap.size, 5, none⟩ = false ∧ w1.frozen? ⟨V.heap.size, 6, none⟩ = false ∧ w1.frozen? ⟨V.heap.size, 7, none⟩ = false := by
  have c : ∀ i, i < 8 → w1.cell? ⟨V.heap.size, i, none⟩ = some (.int .i64 0) := fun i hi => (hb.cell (by simp)).trans (cells_nul V i hi)
  have f : ∀ i, w1.frozen? ⟨V.heap.size, i, none⟩ = false := fun i => (hb.frozen (by simp)).trans (World.frozen?_alloc_at _ _ _ _ rfl)
  exact ⟨c 0 (by omega), c 1 (by omega), c 2 (by omega), c 3 (by omega), c 4 (by omega), c 5 (by omega), c 6 (by omega), c 7 (by omega), f 0, f 1, f 2, f 3, f 4, f 5, f 6, f 7⟩
theorem st2 {V w1 : World} {O : Obj} (hb : Below ((V.alloc nul8).alloc O).heap.size ((V.alloc nul8).alloc O) w1) : w1.cell? ⟨V.heap.size, 0, none⟩ = some (.int .i64 0) ∧ w1.cell? ⟨V.heap.size, 1, none⟩ = some (.int .i64 0) ∧ w1.cell? ⟨V.heap.size, 2, none⟩ = some (.int .i64 0) ∧ w1.cell? ⟨V.heap.size, 3, none⟩ = some (.int .i64 0) ∧ w1.cell? ⟨V.heap.size, 4, none⟩ = some (.int .i64 0) ∧ w1.cell? ⟨V.heap.size, 5, none⟩ = some (.int .i64 0) ∧ w1.cell? ⟨V.heap.size, 6, none⟩ = some (.int .i64 0) ∧ w1.cell? ⟨V.heap.size, 7, none⟩ = some (.int .i64 0) ∧ w1.frozen? ⟨V.heap.size, 0, none⟩ = false ∧ w1.frozen? ⟨V.heap.size, 1, none⟩ = false ∧ w1.frozen? ⟨V.heap.size, 2, none⟩ = false ∧ w1.frozen? ⟨V.heap.size, 3, none⟩ = false ∧ w1.frozen? ⟨V.heap.size, 4, none⟩ = false ∧ w1.frozen? ⟨V.heap.size, 5, none⟩ = false ∧ w1.frozen? ⟨V.heap.size, 6, none⟩ = false ∧ w1.frozen? ⟨V.heap.size, 7, none⟩ = false := by
  have c : ∀ i, i < 8 → w1.cell? ⟨V.heap.size, i, none⟩ = some (.int .i64 0) := fun i hi => (hb.cell (by simp; omega)).trans ((World.cell?_alloc_lt _ _ _ (by simp)).trans (cells_nul V i hi))
  have f : ∀ i, w1.frozen? ⟨V.heap.size, i, none⟩ = false := fun i => (hb.frozen (by simp; omega)).trans ((World.frozen?_alloc_past (w := V.alloc nul8) _ _ _ (by simp)).trans (World.frozen?_alloc_at _ _ _ _ rfl))
  exact ⟨c 0 (by omega), c 1 (by omega), c 2 (by omega), c 3 (by omega), c 4 (by omega), c 5 (by omega), c 6 (by omega), c 7 (by omega), f 0, f 1, f 2, f 3, f 4, f 5, f 6, f 7⟩
abbrev box8 (a : Int) : Obj := .cells #[.int .i64 (pwZ a 0), .int .i64 (pwZ a 1), .int .i64 (pwZ a 2), .int .i64 (pwZ a 3), .int .i64 (pwZ a 4), .int .i64 (pwZ a 5), .int .i64 (pwZ a 6), .int .i64 (pwZ a 7)] 72
abbrev nulS (n : Nat) : Obj := .cells (madeCells #[.int .u8 0] n) 5
def Pw (wx : World) (a : Int) (p : Nat) : Prop := p < wx.heap.size ∧ ∀ i, i < 8 → wx.cell? ⟨p, i, none⟩ = some (.int .i64 (pwZ a i))
theorem Pw.ofAlloc (V : World) (a : Int) : Pw (V.alloc (box8 a)) a V.heap.size := ⟨by simp, cells8 V _⟩
theorem Pw.later {V V' : World} {a : Int} {p : Nat} (h : Pw V a p) (b : Below V.heap.size V V') : Pw V' a p :=
  ⟨Nat.lt_of_lt_of_le h.1 b.size, fun i hi => (b.cell h.1).trans (h.2 i hi)⟩
theorem Pw.alloc {V : World} {a : Int} {p : Nat} (h : Pw V a p) (O : Obj) : Pw (V.alloc O) a p := h.later ((Below.refl _ _).alloc (Nat.le_refl _) _)
theorem size_setCells (b : Nat) : ∀ (vs : List Value) (o : Nat) (w : World), (w.setCells b o vs).heap.size = w.heap.size
  | [], _, _ => rfl
  | v :: r, o, w => by rw [World.setCells, size_setCells b r]; simp
theorem block_setCells (b : Nat) : ∀ (vs : List Value) (o : Nat) (w : World) (c : Nat), c ≠ b → (w.setCells b o vs).heap[c]? = w.heap[c]?
  | [], _, _, _, _ => rfl
  | v :: r, o, w, c, h => by rw [World.setCells, block_setCells b r _ _ _ h]; exact Below.heap_setCell _ _ _ _ h
theorem tape_setCells (b : Nat) : ∀ (vs : List Value) (o : Nat) (w : World), (w.setCells b o vs).tape = w.tape
  | [], _, _ => rfl
  | v :: r, o, w => by rw [World.setCells, tape_setCells b r]; rfl
theorem Pw.ofSet {V : World} {a : Int} {p : Nat} (hp : p < V.heap.size) (hc : ∀ i, i < 8 → V.cell? ⟨p, i, none⟩ = some (.int .i64 0)) : Pw (V.setCells p 0 (pws a)) a p := by
  refine ⟨by rw [size_setCells]; exact hp, fun i hi => ?_⟩
  have := World.cell?_setCells_in p (pws a) 0 V (fun j hj => by simp [pws] at hj; simp [hc j hj]) i (by simpa [pws] using hi)
  rw [Nat.zero_add] at this
  rw [this]
  have h8 : i = 0 ∨ i = 1 ∨ i = 2 ∨ i = 3 ∨ i = 4 ∨ i = 5 ∨ i = 6 ∨ i = 7 := by omega
  rcases h8 with rfl | rfl | rfl | rfl | rfl | rfl | rfl | rfl <;> rfl
/-- A slice of n noughts, the call's own. -/
def Sl (W0 wx : World) (g n : Nat) : Prop := Fill W0 wx g n (fun _ => 0) 0
theorem Sl.ofAlloc {W0 V : World} (b : Below W0.heap.size W0 V) (n : Nat) (hn : n ≤ 2097152) : Sl W0 (V.alloc (nulS n)) V.heap.size n :=
  ⟨_, World.ownsRow_lit V (madeCells #[.int .u8 0] n) n b.size (by unfold maxLen; omega) (by simp [madeCells]), fun j hj => absurd hj (Nat.not_lt_zero _), b.alloc b.size _, b.size⟩
theorem Sl.later {W0 V V' : World} {g n : Nat} (h : Sl W0 V g n) (b : Below V.heap.size V V') : Sl W0 V' g n := by
  obtain ⟨xs, ho, hx, hb, hg⟩ := h
  exact ⟨xs, ho.kept (row := none) ⟨b.os, b.tape, b.output, b.size, fun k hk _ => b.block k hk⟩ (.inr (by simp [Value.ownBlock])), hx, hb.trans (b.mono hb.size), hg⟩
theorem Sl.alloc {W0 V : World} {g n : Nat} (h : Sl W0 V g n) (O : Obj) : Sl W0 (V.alloc O) g n := h.later ((Below.refl _ _).alloc (Nat.le_refl _) _)
theorem below_setCells {W0 V : World} (hb : Below W0.heap.size W0 V) {p : Nat} (h0 : W0.heap.size ≤ p) (vs : List Value) : Below W0.heap.size W0 (V.setCells p 0 vs) :=
  have K := World.keptBut_setCells p (may := fun _ => True) vs 0 V (fun _ _ => trivial)
  ⟨K.1.trans hb.os, (tape_setCells _ _ _ _).trans hb.tape, K.2.1.trans hb.output, by rw [size_setCells]; exact hb.size, fun k hk => (block_setCells _ _ _ _ _ (by omega)).trans (hb.block k hk)⟩
theorem Sl.set {W0 V : World} {g n p : Nat} (h : Sl W0 V g n) (hne : p ≠ g) (h0 : W0.heap.size ≤ p) (vs : List Value) : Sl W0 (V.setCells p 0 vs) g n := by
  obtain ⟨xs, ho, hx, hb, hg⟩ := h
  have K := World.keptBut_setCells p (may := fun _ => True) vs 0 V (fun _ _ => trivial)
  exact ⟨xs, ho.kept (row := some p) ⟨K.1, tape_setCells _ _ _ _, K.2.1, by rw [size_setCells]; exact Nat.le_refl _, fun k _ hk => block_setCells _ _ _ _ _ (fun e => hk (by rw [e]))⟩ (.inr (by simp [Value.ownBlock]; omega)), hx, below_setCells hb h0 vs, hg⟩
/-- The powers of a in a box, a slice of n noughts: in whichever order they were laid. -/
def Laid (w : World) (a : Int) (n : Nat) (s6 s7 : Value) (wx : World) : Prop :=
  ∃ p g, s6 = .pointer (some ⟨p, 0, none⟩) ∧ s7 = .slice (some ⟨g, 0, none⟩) n n ∧ p ≠ g ∧ Pw wx a p ∧ Sl w wx g n
theorem Laid.mk' {w wx : World} {a : Int} {n p g : Nat} (hne : p ≠ g) (h1 : Pw wx a p) (h2 : Sl w wx g n) : Laid w a n (.pointer (some ⟨p, 0, none⟩)) (.slice (some ⟨g, 0, none⟩) n n) wx :=
  ⟨p, g, rfl, rfl, hne, h1, h2⟩
/-- The box of the powers, beside block g. -/
structure Pk (w wx : World) (a : Int) (p g : Nat) : Prop where
  lt : p < wx.heap.size
  cells : ∀ i, i < 8 → wx.cell? ⟨p, i, none⟩ = some (.int .i64 (pwZ a i))
  ne : p ≠ g
theorem Pk.put {w wx : World} {a : Int} {p g q : Nat} (h : Pk w wx a p g) (k : Nat) (v : Value) : Pk w ((wx.drewN q).setCell ⟨g, k, none⟩ v) a p g :=
  ⟨by simpa using h.lt, fun i hi => (World.cell?_setCell_other _ _ _ _ (fun e => h.ne (congrArg Addr.block e).symm)).trans (h.cells i hi), h.ne⟩
theorem lay0 (w : World) (O : Obj) : Below w.heap.size w (w.alloc O) := (Below.refl _ _).alloc (Nat.le_refl _) _

theorem nest8 (V : World) (a : Int) (p : Nat) : V.setCells p 0 (pws a) = ((((((((V.setCell ⟨p, 0, none⟩ (.int .i64 (pwZ a 0))).setCell ⟨p, 1, none⟩ (.int .i64 (pwZ a 1))).setCell ⟨p, 2, none⟩ (.int .i64 (pwZ a 2))).setCell ⟨p, 3, none⟩ (.int .i64 (pwZ a 3))).setCell ⟨p, 4, none⟩ (.int .i64 (pwZ a 4))).setCell ⟨p, 5, none⟩ (.int .i64 (pwZ a 5))).setCell ⟨p, 6, none⟩ (.int .i64 (pwZ a 6))).setCell ⟨p, 7, none⟩ (.int .i64 (pwZ a 7))) := rfl
section
variable {w w1 : World} {a : Int} {n : Nat}
theorem fin1 (hn : n ≤ 2097152) (b : Below w.heap.size w w1) : Laid w a n (.pointer (some ⟨w1.heap.size + 1, 0, none⟩)) (.slice (some ⟨w1.heap.size, 0, none⟩) n n) ((w1.alloc (nulS n)).alloc (box8 a)) :=
  Laid.mk' (by omega) (by have := Pw.ofAlloc (w1.alloc (nulS n)) a; rwa [World.size_alloc] at this) ((Sl.ofAlloc b _ hn).alloc _)
theorem fin2 (hn : n ≤ 2097152) (b : Below w.heap.size w w1) : Laid w a n (.pointer (some ⟨w1.heap.size, 0, none⟩)) (.slice (some ⟨w1.heap.size + 1, 0, none⟩) n n) ((w1.alloc (box8 a)).alloc (nulS n)) :=
  Laid.mk' (by omega) ((Pw.ofAlloc w1 a).alloc _) (by have := Sl.ofAlloc (b.alloc b.size (box8 a)) n hn; rwa [World.size_alloc] at this)
theorem fin4 (hn : n ≤ 2097152) (b : Below (w.alloc (nulS n)).heap.size (w.alloc (nulS n)) w1) : Laid w a n (.pointer (some ⟨w1.heap.size, 0, none⟩)) (.slice (some ⟨w.heap.size, 0, none⟩) n n) (w1.alloc (box8 a)) :=
  Laid.mk' (by have := b.size; rw [World.size_alloc] at this; omega) (Pw.ofAlloc w1 a) (((Sl.ofAlloc (Below.refl _ _) _ hn).later b).alloc _)
theorem fin5 (hn : n ≤ 2097152) (b : Below ((w.alloc (nulS n)).alloc nul8).heap.size ((w.alloc (nulS n)).alloc nul8) w1) : Laid w a n (.pointer (some ⟨w.heap.size + 1, 0, none⟩)) (.slice (some ⟨w.heap.size, 0, none⟩) n n)
    ((((((((w1.setCell ⟨w.heap.size + 1, 0, none⟩ (.int .i64 (pwZ a 0))).setCell ⟨w.heap.size + 1, 1, none⟩ (.int .i64 (pwZ a 1))).setCell ⟨w.heap.size + 1, 2, none⟩ (.int .i64 (pwZ a 2))).setCell ⟨w.heap.size + 1, 3, none⟩ (.int .i64 (pwZ a 3))).setCell ⟨w.heap.size + 1, 4, none⟩ (.int .i64 (pwZ a 4))).setCell ⟨w.heap.size + 1, 5, none⟩ (.int .i64 (pwZ a 5))).setCell ⟨w.heap.size + 1, 6, none⟩ (.int .i64 (pwZ a 6))).setCell ⟨w.heap.size + 1, 7, none⟩ (.int .i64 (pwZ a 7))) := by
  have hz := b.size; rw [World.size_alloc, World.size_alloc] at hz
  have hc : ∀ i, i < 8 → w1.cell? ⟨w.heap.size + 1, i, none⟩ = some (.int .i64 0) := fun i hi => by
    have := (b.cell (p := ⟨(w.alloc (nulS n)).heap.size, i, none⟩) (by rw [World.size_alloc (w.alloc (nulS n))]; exact Nat.lt_succ_self _)).trans (cells_nul (w.alloc (nulS n)) i hi)
    rwa [World.size_alloc] at this
  rw [← nest8]
  exact Laid.mk' (by omega) (Pw.ofSet (by omega) hc) ((((Sl.ofAlloc (Below.refl _ _) _ hn).alloc _).later b).set (by omega) (by omega) _)
theorem fin6 (hn : n ≤ 2097152) (b : Below (w.alloc nul8).heap.size (w.alloc nul8) w1) : Laid w a n (.pointer (some ⟨w.heap.size, 0, none⟩)) (.slice (some ⟨w1.heap.size, 0, none⟩) n n)
    (((((((((w1.setCell ⟨w.heap.size, 0, none⟩ (.int .i64 (pwZ a 0))).setCell ⟨w.heap.size, 1, none⟩ (.int .i64 (pwZ a 1))).setCell ⟨w.heap.size, 2, none⟩ (.int .i64 (pwZ a 2))).setCell ⟨w.heap.size, 3, none⟩ (.int .i64 (pwZ a 3))).setCell ⟨w.heap.size, 4, none⟩ (.int .i64 (pwZ a 4))).setCell ⟨w.heap.size, 5, none⟩ (.int .i64 (pwZ a 5))).setCell ⟨w.heap.size, 6, none⟩ (.int .i64 (pwZ a 6))).setCell ⟨w.heap.size, 7, none⟩ (.int .i64 (pwZ a 7))).alloc (nulS n)) := by
  have hz := b.size; rw [World.size_alloc] at hz
  have hc : ∀ i, i < 8 → w1.cell? ⟨w.heap.size, i, none⟩ = some (.int .i64 0) := fun i hi => (b.cell (p := ⟨w.heap.size, i, none⟩) (by rw [World.size_alloc]; exact Nat.lt_succ_self _)).trans (cells_nul w i hi)
  have hs : (w1.setCells w.heap.size 0 (pws a)).heap.size = w1.heap.size := size_setCells _ _ _ _
  have S := Sl.ofAlloc (below_setCells (p := w.heap.size) ((lay0 w nul8).trans (b.mono (by rw [World.size_alloc]; omega))) (Nat.le_refl _) (pws a)) n hn
  rw [hs] at S
  rw [← nest8]
  exact Laid.mk' (by omega) ((Pw.ofSet (by omega) hc).alloc _) S
theorem fin8 (hn : n ≤ 2097152) (b : Below ((w.alloc nul8).alloc (nulS n)).heap.size ((w.alloc nul8).alloc (nulS n)) w1) : Laid w a n (.pointer (some ⟨w.heap.size, 0, none⟩)) (.slice (some ⟨w.heap.size + 1, 0, none⟩) n n)
    ((((((((w1.setCell ⟨w.heap.size, 0, none⟩ (.int .i64 (pwZ a 0))).setCell ⟨w.heap.size, 1, none⟩ (.int .i64 (pwZ a 1))).setCell ⟨w.heap.size, 2, none⟩ (.int .i64 (pwZ a 2))).setCell ⟨w.heap.size, 3, none⟩ (.int .i64 (pwZ a 3))).setCell ⟨w.heap.size, 4, none⟩ (.int .i64 (pwZ a 4))).setCell ⟨w.heap.size, 5, none⟩ (.int .i64 (pwZ a 5))).setCell ⟨w.heap.size, 6, none⟩ (.int .i64 (pwZ a 6))).setCell ⟨w.heap.size, 7, none⟩ (.int .i64 (pwZ a 7))) := by
  have hz := b.size; rw [World.size_alloc, World.size_alloc] at hz
  have hc : ∀ i, i < 8 → w1.cell? ⟨w.heap.size, i, none⟩ = some (.int .i64 0) := fun i hi =>
    (b.cell (p := ⟨w.heap.size, i, none⟩) (by rw [World.size_alloc, World.size_alloc]; show w.heap.size < _; omega)).trans ((World.cell?_alloc_lt _ _ _ (by rw [World.size_alloc]; exact Nat.lt_succ_self _)).trans (cells_nul w i hi))
  have S := Sl.ofAlloc (lay0 w nul8) n hn
  rw [World.size_alloc] at S
  rw [← nest8]
  exact Laid.mk' (by omega) (Pw.ofSet (by omega) hc) ((S.later b).set (by omega) (Nat.le_refl _) _)
end

set_option maxRecDepth 100000 in
set_option maxHeartbeats 4000000 in
theorem implGfScale (a : Int) (a0 : 0 ≤ a) (a1 : a ≤ 255) (s : ByteArray) (hs : s.size ≤ 2097152) (w : World) :
    Calls Try.prog 18 #[.int .i64 a, .string s] w fun e w' => e = .returned (.tuple #[.string (scaleText a s), .int .i64 0]) ∧ Below w.heap.size w w' := by
  have hmk := fun w => run_make_row' (P := Try.prog) 67 5 (.int .u8 0) 1 Try.underlying67 info1 rfl .i64 .i64 s.size (by omega) (by omega) w
  have E := elt_yes a0 a1
  go_enter Try.func18, Try.ntmps18
  go_wp2_with fail
  refine (isElement a _).mono ?_
  rintro e w1 ⟨rfl, rfl⟩
  go_upto_region 3 with fail
  go_cut [6, 7] (fun s6 s7 wx => Laid w a s.size s6 s7 wx)
  case first =>
    go_region_with ((refine (powersOf a a0 a1 _).mono ?_; rintro e w1 ⟨rfl, hb1⟩; rw [row8]; replace hb1 := undrew hb1; have hz1 := hb1.size; (try simp only [World.size_alloc] at hz1); (try have hz2 : w.heap.size < w1.heap.size := by omega); try ((first | have hs1 := st1 hb1 | have hs1 := st2 hb1); (try simp only [World.size_alloc] at hs1); obtain ⟨c0,c1,c2,c3,c4,c5,c6,c7,f0,f1,f2,f3,f4,f5,f6,f7⟩ := hs1)))
    all_goals (go_wp2_with fail; go_meet)
    case rel => exact fin1 hs hb1
    case rel => exact fin2 hs hb1
    case rel => exact fin2 hs hb1
    case rel => exact fin4 hs hb1
    case rel => exact fin5 hs hb1
    case rel => exact fin6 hs hb1
    case rel => exact fin6 hs hb1
    case rel => exact fin8 hs hb1
  case rest =>
    obtain ⟨p, g, rfl, rfl, hne, hP, R1⟩ := hcut
    have R1 : Fill w wc g s.size (sc a s) 0 := by obtain ⟨xs, h1, _, h3, h4⟩ := R1; exact ⟨xs, h1, fun j hj => absurd hj (Nat.not_lt_zero _), h3, h4⟩
    have HP : Pk w wc a p g := ⟨hP.1, hP.2, hne⟩
    clear hP hmk
    go_wp2
    go_loopw [19] (fun i wr => ∃ k : Nat, k ≤ s.size ∧ i = .int .i64 k ∧ Fill w wr g s.size (sc a s) k ∧ Pk w wr a p g) (fun i _ => s.size - (intOf i).toNat)
    case atStart => exact ⟨0, by omega, rfl, R1, HP⟩
    case round =>
      obtain ⟨k, hk, rfl, R, hP⟩ := hrel
      clear R1 HP
      by_cases hlt : k < s.size
      · have L := byteAt_lt s k
        have X := byteAt_at hlt
        rw [X] at L
        have S : mulZ a ((s[k]'hlt).toNat : Int) = sc a s k := by unfold sc; rw [X]
        have Q := mulZ_lt a0 a1 ((s[k]'hlt).toNat : Int)
        have S := Lib.hid S
        have b0 : (0 : Int) ≤ (k : Int) := by omega
        have b1 : (k : Int) < (s.size : Int) := by omega
        clear X
        go_wp2_with fail
        refine (times a _ a0 a1 (by omega) p _ hP.cells).mono ?_
        rintro e w' ⟨rfl, q, rfl⟩
        have R' : Fill w (wr.drewN q) g s.size (sc a s) k := by obtain ⟨xs, h1, h2, h3, h4⟩ := R; exact ⟨xs, h1, h2, below_drewN h3 q, h4⟩
        obtain ⟨u, d⟩ := R'.cell hlt
        have f := R'.free k
        have R2 := R'.put hlt
        have P2 := hP.put (q := q) k (.int .u8 (sc a s k))
        rw [← S.out] at R2 P2
        generalize mulZ a ((s[k]'hlt).toNat : Int) = y at S Q R2 P2 ⊢
        have Y : IntKind.u8.wrap y = y := by rw [IntKind.wrap_u8]; omega
        clear R R' hP
        go_wp2
        go_roundw
        case rel => exact ⟨k + 1, by omega, by go_num, R2, P2⟩
        case measure => simp [intOf]; omega
      · obtain rfl : k = s.size := by omega
        have hd := R.done
        have hcv := hd.conv
        have F := Lib.hid hd.below
        have E := Lib.hid (show scaleText a s = strOfNums ((List.range s.size).map (sc a s)) from rfl)
        clear hd R hP
        go_wp2
        go_ret2
        exact ⟨by rw [E.out]; rfl, F.out⟩
end Go.Proofs.Ytgnllkkkkkcoaaa.Sc
