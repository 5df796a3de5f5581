/-
  Marks laid into a matrix that a call handed back: only its own cells turn.
-/
import Derived.Test.YtbnjgehgaellmaaMatRes
namespace Go.Proofs.Ytbnjgehgaellmaa.Gf2
open Go.RowKit Go.Proofs.Ytbnjgehgaellmaa.At Go.Proofs.Ytbnjgehgaellmaa.MixC Go.Proofs.Ytbnjgehgaellmaa.Ml Go.Proofs.Ytbnjgehgaellmaa.Gr Go.Proofs.Ytbnjgehgaellmaa.Gj
set_option linter.unusedVariables false

/-- The n cells of the slice a of the call's own hold the numbers from k on; none below C has turned. -/
def MarkO (C D : Nat) (w : World) (a : Option Addr) (n : Nat) (k : Int) (e : Ending) (w' : World) : Prop :=
  e = .returned (.int .i64 (k + n)) ∧ Marks w' a n k ∧ ∃ r, w.grownBy w' r ∧ ∀ b, r = some b → C ≤ b ∧ b < D
set_option maxRecDepth 100000 in
theorem mark0 (a : Option Addr) (cap : Nat) (k : Int) (k0 : 0 ≤ k) (k1 : k ≤ 10000000) (w : World) :
    Calls Try.prog 17 #[.slice a 0 cap, .int .i64 k] w fun e w' => e = .returned (.int .i64 k) ∧ w = w' := by
  go_enter Try.func17, Try.ntmps17
  go_wp2
  refine wp_loop_rounds 1 ?_
  rw [rounds_succ]
  go_wp2
  go_ret
  exact ⟨rfl, rfl⟩
set_option maxRecDepth 100000 in
theorem markO (W : World) (D : Nat) (h wd : Int) (a : Option Addr) (cap : Nat) (zs : List Int) (k : Int) (k0 : 0 ≤ k) (k1 : k ≤ 10000000) (hn : zs.length ≤ 2097152) (w : World) (O : OwnS W w a zs) (hD : zs ≠ [] → ∀ b o, a = some ⟨b, o, none⟩ → b < D) :
    Calls Try.prog 16 #[mval h wd (.slice a zs.length cap), .int .i64 k] w (MarkO W.heap.size D w a zs.length k) := by
  by_cases h0 : zs.length = 0
  · have C := Lib.hid (mark0 a cap k k0 (by omega))
    rw [h0]
    clear O h0 hn hD
    have G := Lib.hid (fun x => grown_of_below (lay w x) none)
    go_enter Try.func16, Try.ntmps16
    go_wp2_with fail
    refine (C.out _).mono ?_
    rintro e w1 ⟨rfl, rfl⟩
    go_wp2
    go_ret
    exact ⟨by show Ending.returned (.int .i64 k) = _; simp, .inl rfl, none, G.out _, fun b hb => by cases hb⟩
  · refine (markMatrix h wd a zs.length cap k k0 (by omega) hn w O.mine).mono ?_
    rintro e w1 ⟨rfl, M, g1⟩
    rcases O with rfl | ⟨g, rfl, hg, hlt, _, _⟩
    · exact absurd rfl h0
    · exact ⟨rfl, M, _, g1, fun b hb => by
        have : g = b := by simpa [rowOf] using hb
        subst this; exact ⟨hg, hD (fun e => h0 (by rw [e]; rfl)) _ _ rfl⟩⟩
theorem Bx.grown {w w1 : World} {b : Nat} {x y z : Value} {r : Option Nat} (h : Bx w b x y z) (g : w.grownBy w1 r) (hr : ∀ c, r = some c → b ≠ c) : Bx w1 b x y z := by
  have e : w1.heap[b]? = w.heap[b]? := g.block b h.lt (fun q => hr b q.symm rfl)
  have c : ∀ i, w1.cell? ⟨b, i, none⟩ = w.cell? ⟨b, i, none⟩ := fun i => World.cell?_of_block e
  have f : ∀ i, w1.frozen? ⟨b, i, none⟩ = w.frozen? ⟨b, i, none⟩ := fun i => World.frozen?_of_block e
  exact ⟨Nat.lt_of_lt_of_le h.lt g.size, (c 0).trans h.c0, (c 1).trans h.c1, (c 2).trans h.c2, (f 0).trans h.f0, (f 1).trans h.f1, (f 2).trans h.f2⟩
theorem OwnS.grown {W w w1 : World} {a : Option Addr} {zs : List Int} {r : Option Nat} {C : Nat} (O : OwnS W w a zs) (g : w.grownBy w1 r) (hC : zs ≠ [] → ∀ b o, a = some ⟨b, o, none⟩ → b < C) (hr : ∀ c, r = some c → C ≤ c) : OwnS W w1 a zs := by
  by_cases hz : zs = []
  · exact .inl hz
  · obtain ⟨b, ha, h0, h1, hn, hf⟩ := O.resolve_left hz
    have hbC : b < C := hC hz b 0 ha
    have e : w1.heap[b]? = w.heap[b]? := g.block b h1 (fun q => by have := hr b q.symm; omega)
    exact .inr ⟨b, ha, h0, Nat.lt_of_lt_of_le h1 g.size, fun i hi => (World.cell?_of_block e).trans (hn i hi), fun i => (World.frozen?_of_block e).trans (hf i)⟩
/-- Where the cells of a matrix that a call handed back lie: not where what came later lies. -/
theorem OwnS.lt {W w : World} {a : Option Addr} {zs : List Int} (O : OwnS W w a zs) (hz : zs ≠ []) (b : Nat) (o : Nat) (hb : a = some ⟨b, o, none⟩) : b < w.heap.size := by
  rcases O with h | ⟨c, ha, h0, h1, _, _⟩
  · exact absurd h hz
  · rw [hb] at ha
    simp only [Option.some.injEq, Addr.mk.injEq] at ha
    omega
theorem below_of_grownBy {W w w1 : World} {r : Option Nat} (b : Below W.heap.size W w) (g : w.grownBy w1 r) (hr : ∀ c, r = some c → W.heap.size ≤ c) : Below W.heap.size W w1 := b.grown g b.size hr
end Go.Proofs.Ytbnjgehgaellmaa.Gf2
