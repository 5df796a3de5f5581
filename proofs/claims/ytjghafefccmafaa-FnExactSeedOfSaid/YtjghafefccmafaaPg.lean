/-
  The seed of a placement group: the hash of two words, in the program and in the model; and the exact law of SeedOf.
-/
import Derived.Test.YtjghafefccmafaaMix
import Derived.Test.YtjghafefccmafaaGfSpec
namespace Go.Proofs.Ytjghafefccmafaa.Pg
open Go.RowKit Go.Proofs.Ytjghafefccmafaa.MixC
set_option linter.unusedVariables false

abbrev gval (x y : Int) : Value := .agg #[.int .i64 x, .int .i64 y]
def IntB (n : Int) (w : World) (e : Ending) (w' : World) : Prop := e = .returned (.int .i64 n) ∧ Below w.heap.size w w'
def ValB (v : Value) (w : World) (e : Ending) (w' : World) : Prop := e = .returned v ∧ Below w.heap.size w w'
theorem lay (w : World) (x : Obj) : Below w.heap.size w (w.alloc x) := (Below.refl _ _).alloc (Nat.le_refl _) _
theorem chain {w a b : World} (h : Below w.heap.size w a) (k : Below a.heap.size a b) : Below w.heap.size w b := h.trans (k.mono h.size)
/-- A box of two cells that lay in V on top. -/
theorem box2 {V w1 : World} {x y : Value} {T : TypeId} (b : Below (V.alloc (.cells #[x, y] T)).heap.size (V.alloc (.cells #[x, y] T)) w1) :
    w1.cell? ⟨V.heap.size, 0, none⟩ = some x ∧ w1.cell? ⟨V.heap.size, 1, none⟩ = some y ∧ w1.frozen? ⟨V.heap.size, 0, none⟩ = false ∧ w1.frozen? ⟨V.heap.size, 1, none⟩ = false := by
  have c : ∀ i, w1.cell? ⟨V.heap.size, i, none⟩ = (V.alloc (.cells #[x, y] T)).cell? ⟨V.heap.size, i, none⟩ := fun i => b.cell (by simp)
  have f : ∀ i, w1.frozen? ⟨V.heap.size, i, none⟩ = false := fun i => (b.frozen (by simp)).trans (World.frozen?_alloc_at _ _ _ _ rfl)
  exact ⟨(c 0).trans (World.cell?_alloc_new _ _ _ _), (c 1).trans (World.cell?_alloc_new _ _ _ _), f 0, f 1⟩
/-- The seed. -/
def sd (x y : Int) : Int := ((Mx.mix [x, y] : Nat) : Int)
theorem sd_lt (x y : Int) : 0 ≤ sd x y ∧ sd x y ≤ 4294967295 := by
  unfold sd; have := Mx.mix_lt [x, y]; omega
theorem nums2 (w : World) (a b : Int) : Nums (w.alloc (.cells #[.int .i64 a, .int .i64 b] 2)) w.heap.size 0 [a, b] := by
  intro i hi
  rw [Nat.zero_add, World.cell?_alloc_new]
  have h4 : i = 0 ∨ i = 1 := by simp at hi; omega
  rcases h4 with rfl | rfl <;> rfl
theorem implMix2 (bl cap : Nat) (a b : Int) (w : World) (hc : Nums w bl 0 [a, b]) :
    Calls Try.prog 46 #[.slice (some ⟨bl, 0, none⟩) 2 cap] w fun e w' => e = .returned (.int .i64 (sd a b)) ∧ w = w' :=
  implMix bl 0 cap [a, b] w (by simp) hc
theorem specMix2 (bl cap : Nat) (a b : Int) (w : World) (hc : Nums w bl 0 [a, b]) :
    Calls Try.prog 82 #[.slice (some ⟨bl, 0, none⟩) 2 cap] w fun e w' => e = .returned (.int .i64 (sd a b)) ∧ w = w' :=
  l01Mix bl 0 cap [a, b] w (by simp) hc
set_option maxRecDepth 100000 in
theorem toPg (x y : Int) (w : World) :
    Calls Try.prog 12 #[gval x y] w (ValB (gval x y) w) := by
  go_enter Try.func12, Try.ntmps12
  go_wp2
  exact bodyPost_ret (v := gval x y) (by simp [results, Try.results12, go_sem]) rfl ⟨rfl, (((Below.refl _ _).alloc (Nat.le_refl _) _).alloc (by simp) _).alloc (by simp; omega) _⟩
set_option maxRecDepth 100000 in
theorem implSeedOf (x y : Int) (w : World) :
    Calls Try.prog 13 #[gval x y] w (IntB (sd x y) w) := by
  have N := nums2 (w.alloc (.cells #[.int .i64 x, .int .i64 y] 25)) x y
  rw [World.size_alloc] at N
  have N := Lib.hid N
  go_enter Try.func13, Try.ntmps13
  go_wp2_with fail
  refine (implMix2 _ _ _ _ _ N.out).mono ?_
  rintro e w1 ⟨rfl, rfl⟩
  go_wp2
  go_ret
  exact ⟨rfl, chain (lay _ _) (lay _ _)⟩
set_option maxRecDepth 100000 in
theorem l09Seed (x y : Int) (w : World) :
    Calls Try.prog 45 #[gval x y] w (IntB (sd x y) w) := by
  have N := nums2 (w.alloc (.cells #[.int .i64 x, .int .i64 y] 25)) x y
  rw [World.size_alloc] at N
  have N := Lib.hid N
  go_enter Try.func45, Try.ntmps45
  go_wp2_with fail
  refine (specMix2 _ _ _ _ _ N.out).mono ?_
  rintro e w1 ⟨rfl, rfl⟩
  go_wp2
  go_ret
  exact ⟨rfl, chain (lay _ _) (lay _ _)⟩
set_option maxRecDepth 100000 in
theorem specSeedOf (x y : Int) (w : World) :
    Calls Try.prog 11 #[gval x y] w (IntB (sd x y) w) := by
  have L := Lib.hid (lay w)
  go_enter Try.func11, Try.ntmps11
  go_wp2_with fail
  refine (l09Seed _ _ _).mono ?_
  rintro e w1 ⟨rfl, b1⟩
  go_wp2
  go_ret
  exact ⟨rfl, chain (L.out _) b1⟩
set_option maxRecDepth 100000 in
theorem fnSeedOf (x y : Int) (w : World) (w1 : (Lit.int .i64 x).wf = true) (w2 : (Lit.int .i64 y).wf = true) :
    Calls Try.prog 3 #[gval x y] w fun e w' => e = .returned (.bool true) ∧ Below w.heap.size w w' := by
  clear w1 w2
  have L := Lib.hid (lay w)
  have T := Lib.hid (toPg x y)
  have S := Lib.hid (specSeedOf x y)
  have I := Lib.hid (implSeedOf x y)
  generalize sd x y = n at *
  go_enter Try.func3, Try.ntmps3
  go_wp2_with fail
  refine (T.out _).mono ?_
  rintro e w1 ⟨rfl, b1⟩
  go_wp2_with fail
  refine (S.out _).mono ?_
  rintro e w2 ⟨rfl, b2⟩
  obtain ⟨c0, c1, -, -⟩ := box2 (chain b1 b2)
  go_wp2_with fail
  refine (T.out _).mono ?_
  rintro e w3 ⟨rfl, b3⟩
  go_wp2_with fail
  refine (I.out _).mono ?_
  rintro e w4 ⟨rfl, b4⟩
  go_wp2
  go_ret
  exact ⟨rfl, chain (chain (chain (chain (L.out _) b1) b2) b3) b4⟩
end Go.Proofs.Ytjghafefccmafaa.Pg
