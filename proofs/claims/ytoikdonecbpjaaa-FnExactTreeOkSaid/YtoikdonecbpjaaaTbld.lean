/-
  The parts of a tree are made: first the devices' boxes, then the buckets'. No program runs.
-/
import Derived.Test.YtoikdonecbpjaaaTprt
namespace Go.Proofs.Ytoikdonecbpjaaa.Tm
open Go.RowKit Go.Proofs.Ytoikdonecbpjaaa.GfI Go.Proofs.Ytoikdonecbpjaaa.GfS Go.Proofs.Ytoikdonecbpjaaa.MixC
open Go.Proofs.Ytoikdonecbpjaaa.It (lay chain)
open Go.Proofs.Ytoikdonecbpjaaa.Sg (BxN)
set_option linter.unusedVariables false
set_option linter.unusedSimpArgs false

/-- The first i devices have their boxes. -/
structure Ph1 (T : TD) (w0 : World) (mb p i : Nat) (vs : List Value) (wr : World) : Prop where
  map : Pm.Fun Try.prog 2 wr mb i (thg T p 0 i 0)
  lf : ∀ j, j < i → BxN wr (p + 2 * j) [.pointer none, .int .i64 (T.df j), .int .i64 (T.dg j)]
  hs : wr.heap.size + 1 = p + 2 * i
  mp : mb + 2 = p
  m0 : w0.heap.size < mb
  box : BxN wr w0.heap.size vs
  below : Below w0.heap.size w0 wr
theorem thg_zero (T : TD) (p q q' d : Nat) : thg T p q d 0 = thg T p q' d 0 := by
  funext x; unfold thg; cases ix T.df x d <;> rfl
theorem Ph1.start {T : TD} {w0 w2 : World} {vs : List Value} (b : BxN w2 w0.heap.size vs) (h : Below w0.heap.size w0 w2) : Ph1 T w0 w2.heap.size (w2.heap.size + 2) 0 vs (w2.alloc (.map #[] 0)) := by
  refine ⟨?_, fun j hj => by omega, by simp, rfl, b.lt, b.later (lay _ _), h.trans ((lay _ _).mono h.size)⟩
  have := Pm.Fun.made Try.prog 2 w2
  exact this
theorem Ph1.step {T : TD} {w0 : World} {mb p i : Nat} {vs : List Value} {wr : World} (h : Ph1 T w0 mb p i vs wr) (D : T.DevOk) (hi : i < T.dn) {o1 : Obj} {E : TypeId} {w3 : World}
    (F3 : Pm.Fun Try.prog 2 w3 mb (i + 1) (Pm.upd (thg T p 0 i 0) (T.df i) (.iface 120 (.pointer (some ⟨wr.heap.size + 1, 0, none⟩)))))
    (g3 : ((wr.alloc o1).alloc (.cells #[.pointer none, .int .i64 (T.df i), .int .i64 (T.dg i)] E)).grownBy w3 (some mb)) (s3 : w3.heap.size = ((wr.alloc o1).alloc (.cells #[.pointer none, .int .i64 (T.df i), .int .i64 (T.dg i)] E)).heap.size) :
    Ph1 T w0 mb p (i + 1) vs w3 := by
  have e := h.hs
  have mp := h.mp
  have m0 := h.m0
  have NEW := BxN.new (wr.alloc o1) #[.pointer none, .int .i64 (T.df i), .int .i64 (T.dg i)] E
  have G : ∀ {b : Nat} {vs : List Value}, BxN wr b vs → b ≠ mb → BxN w3 b vs := fun hb hne => ((hb.later (lay _ o1)).later (lay _ _)).grown g3 (fun c hc e => hne (by rw [e]; exact (Option.some.inj hc).symm))
  have e1 : wr.heap.size + 1 = p + 2 * i := e
  rw [e1, thg_dev D p 0 hi] at F3
  refine ⟨F3, fun j hj => ?_, ?_, mp, m0, G h.box (by omega), ?_⟩
  · by_cases q : j = i
    · subst q
      have := NEW.grown g3 (fun c hc e2 => by have e3 : mb = c := Option.some.inj hc; rw [World.size_alloc] at e2; omega)
      rw [World.size_alloc, e1] at this
      exact this
    · exact G (h.lf j (by omega)) (by omega)
  · rw [s3, World.size_alloc, World.size_alloc]; omega
  · have hsz := h.below.size
    exact ((h.below.alloc hsz o1).alloc (by rw [World.size_alloc]; omega) _).grown g3 (by rw [World.size_alloc, World.size_alloc]; omega) (fun c hc => by have e3 : mb = c := Option.some.inj hc; omega)

/-- The first j buckets have their boxes; sb lists them. -/
structure Ph2 (T : TD) (I : Nat → Option Addr) (C : Nat → Nat) (w0 : World) (mb p q sb j : Nat) (vs : List Value) (wr : World) : Prop where
  map : Pm.Fun Try.prog 2 wr mb (T.dn + j) (thg T p q T.dn j)
  lf : ∀ i, i < T.dn → BxN wr (p + 2 * i) [.pointer none, .int .i64 (T.df i), .int .i64 (T.dg i)]
  br : ∀ i, i < j → BxN wr (q + 2 * i) [.pointer none, .int .i64 (T.bf i), .int .i64 (T.bg i), .slice (I i) (T.L i).length (C i), .slice none 0 0]
  bs : ∀ i, i < j → wr.cell? ⟨sb, i, none⟩ = some (.pointer (some ⟨q + 2 * i, 0, none⟩))
  bt : ∀ i, i < T.bn → ∃ u, wr.cell? ⟨sb, i, none⟩ = some u
  bz : ∀ i, wr.frozen? ⟨sb, i, none⟩ = false
  hs : wr.heap.size + 1 = q + 2 * j
  pq : sb + 2 ≤ q
  sp : sb + 1 = p + 2 * T.dn
  mp : mb + 2 = p
  m0 : w0.heap.size < mb
  box : BxN wr w0.heap.size vs
  below : Below w0.heap.size w0 wr
theorem Ph2.start {T : TD} {I : Nat → Option Addr} {C : Nat → Nat} {w0 : World} {mb p : Nat} {vs : List Value} {wr w1 : World} {E : TypeId} {xs : List Value} (h : Ph1 T w0 mb p T.dn vs wr)
    (ho : w1.ownsRow wr.heap.size E 1 (.slice (some ⟨wr.heap.size, 0, none⟩) T.bn T.bn) T.bn xs) (g : wr.grownBy w1 none) : Ph2 T I C w0 mb p (w1.heap.size + 1) wr.heap.size 0 vs w1 := by
  have e := h.hs
  have mp := h.mp
  have lt := (ho.lt wr.heap.size rfl).2
  have G : ∀ {b : Nat} {vs : List Value}, BxN wr b vs → BxN w1 b vs := fun hb => hb.grown g (fun c hc => by cases hc)
  have hl := ho.1
  refine ⟨?_, fun i hi => G (h.lf i hi), fun i hi => by omega, fun i hi => by omega, fun i hi => ⟨xs[i]'(by omega), (ho.cellAt i (by omega)).trans (List.getElem?_eq_getElem (by omega))⟩, fun i => ho.frozenAt i, by omega, by omega, by omega, mp, h.m0, G h.box, h.below.grown g h.below.size (fun c hc => by cases hc)⟩
  rw [thg_zero T p _ 0]
  exact h.map.kept g (fun e => by cases e)
theorem Ph2.step {T : TD} {I : Nat → Option Addr} {C : Nat → Nat} {w0 : World} {mb p q sb j : Nat} {vs : List Value} {wr W2 w3 : World} (h : Ph2 T I C w0 mb p q sb j vs wr) (D : T.DevOk) (B : T.BktOk) (hj : j < T.bn) {o1 : Obj} {E : TypeId}
    (hW : W2 = ((wr.setCell ⟨sb, j, none⟩ (.pointer (some ⟨wr.heap.size + 1, 0, none⟩))).alloc o1).alloc (.cells #[.pointer none, .int .i64 (T.bf j), .int .i64 (T.bg j), .slice (I j) (T.L j).length (C j), .slice none 0 0] E))
    (F3 : Pm.Fun Try.prog 2 w3 mb (T.dn + j + 1) (Pm.upd (thg T p q T.dn j) (T.bf j) (.iface 121 (.pointer (some ⟨wr.heap.size + 1, 0, none⟩)))))
    (g3 : W2.drew.grownBy w3 (some mb)) (s3 : w3.heap.size = W2.drew.heap.size) :
    Ph2 T I C w0 mb p q sb (j + 1) vs w3 := by
  have e := h.hs
  have mp := h.mp
  have m0 := h.m0
  have sp := h.sp
  have pq := h.pq
  have hsb : sb < wr.heap.size := by omega
  obtain ⟨Ws, hWs⟩ : ∃ Ws, Ws = wr.setCell ⟨sb, j, none⟩ (.pointer (some ⟨wr.heap.size + 1, 0, none⟩)) := ⟨_, rfl⟩
  have zs : Ws.heap.size = wr.heap.size := by rw [hWs]; simp
  have FAR : ∀ {b : Nat} {vs : List Value}, BxN wr b vs → b ≠ sb → BxN Ws b vs := fun hb h1 => by rw [hWs]; exact hb.far (p := ⟨sb, j, none⟩) (fun e => h1 e.symm) _
  have CS : ∀ {i u}, i ≠ j → wr.cell? ⟨sb, i, none⟩ = some u → Ws.cell? ⟨sb, i, none⟩ = some u := fun {i u} hi hu => by rw [hWs]; exact (World.cell?_setCell_other _ _ _ _ (fun e => hi (congrArg Addr.off e).symm)).trans hu
  have CSJ : Ws.cell? ⟨sb, j, none⟩ = some (.pointer (some ⟨q + 2 * j, 0, none⟩)) := by
    obtain ⟨u, hu⟩ := h.bt j hj
    rw [← e, hWs]; exact World.cell?_setCell_same _ _ _ hu
  have ZS : ∀ i, Ws.frozen? ⟨sb, i, none⟩ = false := fun i => by rw [hWs]; exact (World.frozen?_setCell _ _ _ _).trans (h.bz i)
  have BS : Below w0.heap.size w0 Ws := by rw [hWs]; exact h.below.setCell (p := ⟨sb, j, none⟩) (by dsimp only; omega) _
  rw [← hWs] at hW
  clear hWs
  have NEW := BxN.new (Ws.alloc o1) #[.pointer none, .int .i64 (T.bf j), .int .i64 (T.bg j), .slice (I j) (T.L j).length (C j), .slice none 0 0] E
  have b0 : Below Ws.heap.size Ws ((Ws.alloc o1).alloc (.cells #[.pointer none, .int .i64 (T.bf j), .int .i64 (T.bg j), .slice (I j) (T.L j).length (C j), .slice none 0 0] E)) := (lay _ o1).trans ((lay _ _).mono (by rw [World.size_alloc]; omega))
  have z0 : ((Ws.alloc o1).alloc (.cells #[.pointer none, .int .i64 (T.bf j), .int .i64 (T.bg j), .slice (I j) (T.L j).length (C j), .slice none 0 0] E)).heap.size = wr.heap.size + 2 := by rw [World.size_alloc, World.size_alloc, zs]
  rw [World.size_alloc, zs, e] at NEW
  rw [← hW] at NEW b0 z0
  have z2 : W2.drew.heap.size = wr.heap.size + 2 := z0
  have GW : ∀ {b : Nat} {vs : List Value}, BxN W2 b vs → b ≠ mb → BxN w3 b vs := fun {b vs} hb h2 => hb.drew.grown g3 (fun c hc e => h2 (by rw [e]; exact (Option.some.inj hc).symm))
  have G : ∀ {b : Nat} {vs : List Value}, BxN wr b vs → b ≠ sb → b ≠ mb → BxN w3 b vs := fun hb h1 h2 => GW ((FAR hb h1).later b0) h2
  rw [e, thg_bkt D B p q hj] at F3
  have C3 : ∀ {i u}, Ws.cell? ⟨sb, i, none⟩ = some u → w3.cell? ⟨sb, i, none⟩ = some u := fun {i u} hu => g3.cell (a := ⟨sb, i, none⟩) (show W2.drew.cell? _ = _ from (b0.cell (p := ⟨sb, i, none⟩) (by dsimp only; omega)).trans hu) (fun e => by have e2 := Option.some.inj e; dsimp only at e2; omega)
  have CB : ∀ {i u}, i ≠ j → wr.cell? ⟨sb, i, none⟩ = some u → w3.cell? ⟨sb, i, none⟩ = some u := fun {i u} hi hu => C3 (CS hi hu)
  have CJ : w3.cell? ⟨sb, j, none⟩ = some (.pointer (some ⟨q + 2 * j, 0, none⟩)) := C3 CSJ
  have hsz := h.below.size
  have hsb2 : sb < W2.drew.heap.size := by omega
  refine ⟨F3, fun i hi => G (h.lf i hi) (by omega) (by omega), fun i hi => ?_, fun i hi => ?_, fun i hi => ?_, fun i => ?_, by omega, pq, sp, mp, m0, G h.box (by omega) (by omega), ?_⟩
  · by_cases q : i = j
    · subst q
      exact GW NEW (by omega)
    · exact G (h.br i (by omega)) (by omega) (by omega)
  · by_cases q : i = j
    · subst q; exact CJ
    · exact CB q (h.bs i (by omega))
  · by_cases q : i = j
    · subst q; exact ⟨_, CJ⟩
    · obtain ⟨u, hu⟩ := h.bt i hi
      exact ⟨u, CB q hu⟩
  · have b3 := g3.block sb hsb2 (fun e => by have e2 := Option.some.inj e; omega)
    refine (World.frozen?_of_block (a := ⟨sb, i, none⟩) b3).trans ?_
    show W2.frozen? _ = false
    exact (b0.frozen (p := ⟨sb, i, none⟩) (by dsimp only; omega)).trans (ZS i)
  · exact (BS.trans (b0.mono (by omega))).drew.grown g3 (by omega) (fun c hc => by have e3 : mb = c := Option.some.inj hc; omega)
/-- All boxes are there: nothing hangs yet. -/
theorem Ph2.parts {T : TD} {I : Nat → Option Addr} {C : Nat → Nat} {w0 : World} {mb p q sb : Nat} {vs : List Value} {wr : World} (h : Ph2 T I C w0 mb p q sb T.bn vs wr) :
    Prt T I C w0.heap.size mb p q 0 0 wr.heap.size (fun _ => none) (fun _ => .slice none 0 0) wr := by
  have e := h.hs
  have mp := h.mp
  have m0 := h.m0
  have sp := h.sp
  have pq := h.pq
  refine ⟨h.map, fun i hi => h.lf i hi, fun j hj => h.br j hj, fun j hj => by omega, fun _ => World.ownsRow_nil _ _ _ _, fun _ _ _ => rfl, by omega, by omega, by omega, by omega, Nat.le_refl _, fun j hj => ?_⟩
  rw [show p + 2 * T.dn - 1 = sb from by omega]; exact h.bs j hj
end Go.Proofs.Ytoikdonecbpjaaa.Tm
