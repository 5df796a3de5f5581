/-
  The laws' own helpers on striped objects.
-/
import Derived.Test.YtmndkmkknkodhaaStrS
import Derived.Test.YtmndkmkknkodhaaCode
import Derived.Deep.RegionWith
namespace Go.Proofs.Ytmndkmkknkodhaa.Sg
open Go.RowKit Go.Proofs.Ytmndkmkknkodhaa.GfI Go.Proofs.Ytmndkmkknkodhaa.GfS
set_option linter.unusedVariables false

abbrev wval (k m u s : Int) (c : Value) : Value := .agg #[.int .i64 k, .int .i64 m, .int .i64 u, .int .i64 s, c]
def IntB (n : Int) (w : World) (e : Ending) (w' : World) : Prop := e = .returned (.int .i64 n) ∧ Below w.heap.size w w'

set_option maxRecDepth 100000 in
theorem szWide (k m u s : Int) (a : Option Addr) (n cap : Nat) (S : Nat → ByteArray) (left : Int) (l0 : 0 ≤ left) (l1 : left ≤ 2097152) (w : World) (h : StrArg w a n S) :
    Calls Try.prog 46 #[wval k m u s (.slice a n cap), .int .i64 left] w (IntB (if (tot n S n : Int) ≤ left then left - tot n S n else -1) w) := by
  have L := Lib.hid (lay w)
  have C := Lib.hid (fun x => szStringS a n cap S left l0 l1 (w.alloc x) ⟨h.1, h.2.1.below (lay w x), h.2.2⟩)
  clear h
  by_cases q : (tot n S n : Int) ≤ left
  · simp only [if_pos q] at C ⊢
    generalize tot n S n = t at *
    go_enter Try.func46, Try.ntmps46
    go_wp2_with fail
    refine (C.out _).mono ?_
    rintro e w1 ⟨rfl, rfl⟩
    go_wp2
    go_ret
    exact ⟨rfl, L.out _⟩
  · simp only [if_neg q] at C ⊢
    go_enter Try.func46, Try.ntmps46
    go_wp2_with fail
    refine (C.out _).mono ?_
    rintro e w1 ⟨rfl, rfl⟩
    go_wp2
    go_ret
    exact ⟨rfl, L.out _⟩

theorem CopyS.from {w W w1 : World} {g n : Nat} {S : Nat → ByteArray} (K : CopyS W w1 g n S) (b : Below w.heap.size w W) : CopyS w w1 g n S :=
  ⟨Nat.le_trans b.size K.new, K.lt, K.cells, K.free, b.trans (K.below.mono b.size)⟩
theorem CopyS.set {w w1 : World} {g n : Nat} {S : Nat → ByteArray} (K : CopyS w w1 g n S) {p : Addr} (hp : p.block ≠ g) (h0 : w.heap.size ≤ p.block) (v : Value) : CopyS w (w1.setCell p v) g n S :=
  ⟨K.new, by simpa using K.lt, fun i hi => (World.cell?_setCell_other _ _ _ _ (fun e => hp (congrArg Addr.block e))).trans (K.cells i hi), fun i => (World.frozen?_setCell _ _ _ _).trans (K.free i), K.below.setCell h0 v⟩
/-- A copy of a striped object, its columns a new slice. -/
def WideCopy (k m u s : Int) (n : Nat) (S : Nat → ByteArray) (w : World) (e : Ending) (w' : World) : Prop :=
  ∃ g, e = .returned (wval k m u s (.slice (some ⟨g, 0, none⟩) n n)) ∧ CopyS w w' g n S

set_option maxRecDepth 100000 in
set_option maxHeartbeats 1000000 in
theorem toWide (k m u s : Int) (a : Option Addr) (cap n : Nat) (S : Nat → ByteArray) (w : World) (hl : n ≤ 2097152) (hc : Strs w a n S) :
    Calls Try.prog 48 #[wval k m u s (.slice a n cap)] w (WideCopy k m u s n S w) := by
  have C := Lib.hid (fun w' (b : Below w.heap.size w w') => toStringS a cap n S w' hl (hc.below b))
  clear hc
  have s1 : ∀ V : World, ∀ O, (V.alloc O).heap.size = V.heap.size + 1 := fun V O => World.size_alloc _ _
  have X0 := BxN.new w #[.int .i64 k, .int .i64 m, .int .i64 u, .int .i64 s, .slice a n cap] 73
  have Y0 := BxN.new (w.alloc (.cells #[.int .i64 k, .int .i64 m, .int .i64 u, .int .i64 s, .slice a n cap] 73)) #[.int .i64 0, .int .i64 0, .int .i64 0, .int .i64 0, .slice none 0 0] 77
  have Z0 := BxN.new ((w.alloc (.cells #[.int .i64 k, .int .i64 m, .int .i64 u, .int .i64 s, .slice a n cap] 73)).alloc (.cells #[.int .i64 0, .int .i64 0, .int .i64 0, .int .i64 0, .slice none 0 0] 77)) #[.int .i64 0, .int .i64 0, .int .i64 0, .int .i64 0, .slice none 0 0] 77
  have Y0 := Y0.later (lay _ (.cells #[.int .i64 0, .int .i64 0, .int .i64 0, .int .i64 0, .slice none 0 0] 77))
  have X0 := (X0.later (lay _ (.cells #[.int .i64 0, .int .i64 0, .int .i64 0, .int .i64 0, .slice none 0 0] 77))).later (lay _ (.cells #[.int .i64 0, .int .i64 0, .int .i64 0, .int .i64 0, .slice none 0 0] 77))
  simp only [s1] at X0 Y0 Z0
  have B0 := chain (chain (lay w (.cells #[.int .i64 k, .int .i64 m, .int .i64 u, .int .i64 s, .slice a n cap] 73)) (lay _ (.cells #[.int .i64 0, .int .i64 0, .int .i64 0, .int .i64 0, .slice none 0 0] 77))) (lay _ (.cells #[.int .i64 0, .int .i64 0, .int .i64 0, .int .i64 0, .slice none 0 0] 77))
  have XH := Lib.hid X0
  have YH := Lib.hid Y0
  have ZH := Lib.hid Z0
  have BH := Lib.hid B0
  clear s1 X0 Y0 Z0 B0
  go_enter Try.func48, Try.ntmps48
  go_wp2_with fail
  refine (Cd.toCode _ _ _).mono ?_
  rintro e w1 ⟨rfl, b1⟩
  have X1 := XH.out.later b1
  have Y1 := Lib.hid (YH.out.later b1)
  have Z1 := ZH.out.later b1
  have B1 := Lib.hid (chain BH.out b1)
  have x1 := X1.cells 1 _ rfl
  have x2 := X1.cells 2 _ rfl
  have x3 := X1.cells 3 _ rfl
  have x4 := X1.cells 4 _ rfl
  have z0 := Z1.cells 0 _ rfl
  have z1 := Z1.cells 1 _ rfl
  have z2 := Z1.cells 2 _ rfl
  have z3 := Z1.cells 3 _ rfl
  have z4 := Z1.cells 4 _ rfl
  have f0 := Z1.free 0
  have f1 := Z1.free 1
  have f2 := Z1.free 2
  have f3 := Z1.free 3
  have f4 := Z1.free 4
  clear b1 XH YH ZH BH
  have X1H := Lib.hid X1
  have Z1H := Lib.hid Z1
  clear X1 Z1
  go_wp2_with fail
  have b4 := (((((B1.out.setCell (p := ⟨w.heap.size + 1 + 1, 0, none⟩) (by show _ ≤ w.heap.size + 1 + 1; omega) (.int .i64 k)).setCell (p := ⟨w.heap.size + 1 + 1, 1, none⟩) (by show _ ≤ w.heap.size + 1 + 1; omega) (.int .i64 m)).setCell (p := ⟨w.heap.size + 1 + 1, 1 + 1, none⟩) (by show _ ≤ w.heap.size + 1 + 1; omega) (.int .i64 u)).setCell (p := ⟨w.heap.size + 1 + 1, 1 + 1 + 1, none⟩) (by show _ ≤ w.heap.size + 1 + 1; omega) (.int .i64 s)))
  have Z4 := (((Z1H.out.put 0 (by simp) (.int .i64 k)).put 1 (by simp) (.int .i64 m)).put (1 + 1) (by simp) (.int .i64 u)).put (1 + 1 + 1) (by simp) (.int .i64 s)
  have Y4 := (((Y1.out.far (p := ⟨w.heap.size + 1 + 1, 0, none⟩) (by show w.heap.size + 1 + 1 ≠ w.heap.size + 1; omega) (.int .i64 k)).far (p := ⟨w.heap.size + 1 + 1, 1, none⟩) (by show w.heap.size + 1 + 1 ≠ w.heap.size + 1; omega) (.int .i64 m)).far (p := ⟨w.heap.size + 1 + 1, 1 + 1, none⟩) (by show w.heap.size + 1 + 1 ≠ w.heap.size + 1; omega) (.int .i64 u)).far (p := ⟨w.heap.size + 1 + 1, 1 + 1 + 1, none⟩) (by show w.heap.size + 1 + 1 ≠ w.heap.size + 1; omega) (.int .i64 s)
  have b4H := Lib.hid b4
  have ZH := Lib.hid Z4
  have YH := Lib.hid Y4
  clear b4 Z4 Y4 z0 z1 z2 z3 z4 f0 f1 f2 f3 f4 x1 x2 x3 x4
  refine (C.out _ b4H.out).mono ?_
  rintro e w5 ⟨g, rfl, K⟩
  have Z5 := ZH.out.later K.below
  have Y5 := YH.out.later K.below
  have KN := Lib.hid (K.from b4H.out)
  have gn : w.heap.size + 1 + 1 < g := Nat.lt_of_lt_of_le ZH.out.lt K.new
  have z0 := Z5.cells 0 _ rfl
  have z1 := Z5.cells 1 _ rfl
  have z2 := Z5.cells 2 _ rfl
  have z3 := Z5.cells 3 _ rfl
  have z4 := Z5.cells 4 _ rfl
  have f4 := Z5.free 4
  have y0 := Y5.cells 0 _ rfl
  have y1 := Y5.cells 1 _ rfl
  have y2 := Y5.cells 2 _ rfl
  have y3 := Y5.cells 3 _ rfl
  have y4 := Y5.cells 4 _ rfl
  have g0 := Y5.free 0
  have g1 := Y5.free 1
  have g2 := Y5.free 2
  have g3 := Y5.free 3
  have g4 := Y5.free 4
  have NE1 : w.heap.size + 1 + 1 ≠ g := by omega
  have NE2 : w.heap.size + 1 ≠ g := by omega
  have NH := Lib.hid (And.intro NE1 NE2)
  clear K Z5 Y5 NE1 NE2 gn ZH YH b4H X1H Z1H Y1 B1
  go_wp2
  refine bodyPost_ret (v := wval k m u s (.slice (some ⟨g, 0, none⟩) n n)) (by simp [results, Try.results48, go_sem, *]) rfl ⟨g, rfl, ?_⟩
  have h1 : ∀ (K : World), CopyS w K g n S → ∀ o v, CopyS w (K.setCell ⟨w.heap.size + 1, o, none⟩ v) g n S := fun K h o v => h.set (by exact NH.out.2) (by show _ ≤ w.heap.size + 1; omega) v
  have h2 : ∀ (K : World), CopyS w K g n S → ∀ o v, CopyS w (K.setCell ⟨w.heap.size + 1 + 1, o, none⟩ v) g n S := fun K h o v => h.set (by exact NH.out.1) (by show _ ≤ w.heap.size + 1 + 1; omega) v
  exact h1 _ (h1 _ (h1 _ (h1 _ (h1 _ (h2 _ KN.out _ _) _ _) _ _) _ _) _ _) _ _

set_option maxRecDepth 100000 in
theorem eqCode (k m : Int) (w : World) : Calls Try.prog 104 #[Cd.cval k m, Cd.cval k m] w (TrueB w) := by
  go_enter Try.func104, Try.ntmps104
  go_wp2
  go_ret
  exact ⟨rfl, chain (lay _ _) (lay _ _)⟩

set_option maxRecDepth 100000 in
theorem eqWide (k m u s : Int) (a b : Option Addr) (cap1 cap2 n : Nat) (S : Nat → ByteArray) (w : World) (hl : n ≤ 2097152) (ha : Strs w a n S) (hb : Strs w b n S) :
    Calls Try.prog 50 #[wval k m u s (.slice a n cap1), wval k m u s (.slice b n cap2)] w (TrueB w) := by
  have C := Lib.hid (fun w' (x : Below w.heap.size w w') => eqStringS a b cap1 cap2 n S w' hl (ha.below x) (hb.below x))
  have s1 : ∀ V : World, ∀ O, (V.alloc O).heap.size = V.heap.size + 1 := fun V O => World.size_alloc _ _
  have X0 := (BxN.new w #[.int .i64 k, .int .i64 m, .int .i64 u, .int .i64 s, .slice a n cap1] 77).later (lay _ (.cells #[.int .i64 k, .int .i64 m, .int .i64 u, .int .i64 s, .slice b n cap2] 77))
  have Y0 := BxN.new (w.alloc (.cells #[.int .i64 k, .int .i64 m, .int .i64 u, .int .i64 s, .slice a n cap1] 77)) #[.int .i64 k, .int .i64 m, .int .i64 u, .int .i64 s, .slice b n cap2] 77
  have B0 := chain (lay w (.cells #[.int .i64 k, .int .i64 m, .int .i64 u, .int .i64 s, .slice a n cap1] 77)) (lay _ (.cells #[.int .i64 k, .int .i64 m, .int .i64 u, .int .i64 s, .slice b n cap2] 77))
  simp only [s1] at Y0
  have XH := Lib.hid X0
  have YH := Lib.hid Y0
  have BH := Lib.hid B0
  clear ha hb s1 X0 Y0 B0
  go_enter Try.func50, Try.ntmps50
  go_wp2_with fail
  refine (eqCode _ _ _).mono ?_
  rintro e w1 ⟨rfl, b1⟩
  have X1 := XH.out.later b1
  have Y1 := YH.out.later b1
  have B1 := Lib.hid (chain BH.out b1)
  have x1 := X1.cells 1 _ rfl
  have x2 := X1.cells 2 _ rfl
  have x3 := X1.cells 3 _ rfl
  have x4 := X1.cells 4 _ rfl
  have y1 := Y1.cells 1 _ rfl
  have y2 := Y1.cells 2 _ rfl
  have y3 := Y1.cells 3 _ rfl
  have y4 := Y1.cells 4 _ rfl
  clear b1 X1 Y1 XH YH BH
  go_wp2_with fail
  refine (C.out _ B1.out).mono ?_
  rintro e w2 ⟨rfl, b2⟩
  have B2 := Lib.hid (chain B1.out b2)
  clear b2 x1 x2 x3 x4 y1 y2 y3 y4
  go_wp2
  go_ret
  exact ⟨rfl, B2.out⟩
end Go.Proofs.Ytmndkmkknkodhaa.Sg
