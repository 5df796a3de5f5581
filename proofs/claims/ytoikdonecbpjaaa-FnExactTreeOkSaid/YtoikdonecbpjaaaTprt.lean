/-
  The state of a tree's parts while items are hung; what one step does to it. No program runs.
-/
import Derived.Test.YtoikdonecbpjaaaTpart
namespace Go.Proofs.Ytoikdonecbpjaaa.Tm
open Go.RowKit Go.Proofs.Ytoikdonecbpjaaa.GfI Go.Proofs.Ytoikdonecbpjaaa.GfS Go.Proofs.Ytoikdonecbpjaaa.MixC
open Go.Proofs.Ytoikdonecbpjaaa.It (lay chain)
open Go.Proofs.Ytoikdonecbpjaaa.Sg (BxN)
set_option linter.unusedVariables false
set_option linter.unusedSimpArgs false

/-- A row of values that is read only; its block lies from lo on, below hi. -/
def Rw (w : World) (lo hi : Nat) (v : Value) (L : List Value) : Prop :=
  ∃ a cap, v = .slice a L.length cap ∧ (L = [] ∨ ∃ b off, a = some ⟨b, off, none⟩ ∧ lo ≤ b ∧ b < hi ∧ b < w.heap.size ∧ ∀ i x, L[i]? = some x → w.cell? ⟨b, off + i, none⟩ = some x)
theorem Rw.grown {w w' : World} {lo hi : Nat} {v : Value} {L : List Value} {r : Option Nat} (h : Rw w lo hi v L) (g : w.grownBy w' r) (hr : ∀ c, r = some c → c < lo ∨ hi ≤ c) : Rw w' lo hi v L := by
  obtain ⟨a, cap, hv, h⟩ := h
  refine ⟨a, cap, hv, ?_⟩
  rcases h with h | ⟨b, off, ha, h1, h2, h3, hc⟩
  · exact .inl h
  · refine .inr ⟨b, off, ha, h1, h2, Nat.lt_of_lt_of_le h3 g.size, fun i x hx => ?_⟩
    have e : w'.heap[b]? = w.heap[b]? := g.block b h3 (fun q => by rcases hr b q.symm with k | k <;> omega)
    exact (World.cell?_of_block e).trans (hc i x hx)
theorem Rw.mono {w : World} {lo hi hi' : Nat} {v : Value} {L : List Value} (h : Rw w lo hi v L) (k : hi ≤ hi') : Rw w lo hi' v L := by
  obtain ⟨a, cap, hv, h⟩ := h
  refine ⟨a, cap, hv, ?_⟩
  rcases h with h | ⟨b, off, ha, h1, h2, h3, hc⟩
  · exact .inl h
  · exact .inr ⟨b, off, ha, h1, by omega, h3, hc⟩
theorem grown_set (w : World) (p : Addr) (v : Value) : w.grownBy (w.setCell p v) (some p.block) :=
  ⟨rfl, rfl, rfl, by simp, fun c hc hne => Below.heap_setCell _ _ _ _ (fun e => hne (by rw [e]))⟩
theorem Rw.of {w : World} {lo base n : Nat} {v : Value} {L : List Value} (h : w.ownsRow base 92 1 v n L) (hn : n = L.length) (hlo : lo ≤ base) : Rw w lo w.heap.size v L := by
  have h' := h
  rcases h with ⟨hl, ⟨rfl, h0⟩ | ⟨g, cap, cur, rfl, hb, hg, hn2, hcm, hcs, htake⟩⟩
  · exact ⟨none, 0, by rw [← hn, h0], .inl (List.length_eq_zero_iff.1 (by omega))⟩
  · refine ⟨some ⟨g, 0, none⟩, cap, by rw [hn], .inr ⟨g, 0, rfl, by omega, (h'.lt g rfl).2, (h'.lt g rfl).2, fun i x hx => ?_⟩⟩
    have := h'.cells (g := g) rfl i x hx
    rwa [Addr.add_lit] at this

/-- The things of a list of numbers. -/
def things (T : TD) (p q : Nat) (l : List Int) : List Value := l.map (thg T p q T.dn T.bn)
/-- Where the parts lie: the map at mb, device i at p + 2 i, bucket j at q + 2 j; rows from q + 2 bn on. -/
structure Prt (T : TD) (I : Nat → Option Addr) (C : Nat → Nat) (N0 mb p q k i base : Nat) (U : Int → Option Nat) (S : Nat → Value) (w : World) : Prop where
  map : Pm.Fun Try.prog 2 w mb (T.dn + T.bn) (thg T p q T.dn T.bn)
  lf : ∀ i, i < T.dn → BxN w (p + 2 * i) [upv q (U (T.df i)), .int .i64 (T.df i), .int .i64 (T.dg i)]
  br : ∀ j, j < T.bn → BxN w (q + 2 * j) [upv q (U (T.bf j)), .int .i64 (T.bf j), .int .i64 (T.bg j), .slice (I j) (T.L j).length (C j), S j]
  row : ∀ j, j < k → Rw w (q + 2 * T.bn - 1) base (S j) (things T p q (T.L j))
  cur : k < T.bn → w.ownsRow base 92 1 (S k) i (things T p q ((T.L k).take i))
  new : ∀ j, k < j → j < T.bn → S j = .slice none 0 0
  m0 : N0 ≤ mb
  mp : mb < p
  pq : p + 2 * T.dn ≤ q
  qb : q + 2 * T.bn ≤ base + 1
  hs : base ≤ w.heap.size
  bs : ∀ j, j < T.bn → w.cell? ⟨p + 2 * T.dn - 1, j, none⟩ = some (.pointer (some ⟨q + 2 * j, 0, none⟩))
variable {T : TD} {I : Nat → Option Addr} {C : Nat → Nat} {N0 mb p q k i base : Nat} {U : Int → Option Nat} {S : Nat → Value} {w : World}
theorem ownsRow_set {e : TypeId} {n : Nat} {v : Value} {xs : List Value} (h : w.ownsRow base e 1 v n xs) {a : Addr} (ha : a.block < base) (u : Value) : (w.setCell a u).ownsRow base e 1 v n xs :=
  h.kept (grown_set w a u) (by
    cases q : v.ownBlock with
    | none => exact .inl rfl
    | some b => right; intro e; have := (h.lt b q).1; have : b = a.block := by simpa using e
                omega)
/-- The part that is hung is a device: its cell turns. -/
theorem Prt.hangL (h : Prt T I C N0 mb p q k i base U S w) (D : T.DevOk) (B : T.BktOk) {x : Int} {d : Nat} (hd : d < T.dn) (hx : T.df d = x) :
    Prt T I C N0 mb p q k i base (upU U x k) S (w.setCell ⟨p + 2 * d, 0, none⟩ (.pointer (some ⟨q + 2 * k, 0, none⟩))) := by
  have h1 := h.mp
  have h2 := h.pq
  have h3 := h.qb
  refine ⟨h.map.set (by dsimp only; omega) _, fun i hi => ?_, fun j hj => ?_, fun j hj => ?_, fun hk => ownsRow_set (h.cur hk) (by dsimp only; omega) _, h.new, h.m0, h1, h2, h3, by simpa using h.hs, fun j hj => (World.cell?_setCell_other _ _ _ _ (fun e => by have := congrArg Addr.block e; dsimp only at this; omega)).trans (h.bs j hj)⟩
  · by_cases e : i = d
    · subst e
      have := (h.lf i hi).put 0 (by simp) (.pointer (some ⟨q + 2 * k, 0, none⟩))
      unfold upU; rw [if_pos hx]; exact this
    · have n : T.df i ≠ x := fun e2 => by
        rcases Nat.lt_or_gt_of_ne e with k | k
        · have := D.lt k hd; omega
        · have := D.lt k hi; omega
      unfold upU; rw [if_neg n]
      exact (h.lf i hi).far (by dsimp only; omega) _
  · have n : T.bf j ≠ x := fun e2 => by have := (D.each d hd).1; have := (B.each j hj).2.1; omega
    unfold upU; rw [if_neg n]
    exact (h.br j hj).far (by dsimp only; omega) _
  · exact (h.row j hj).grown (grown_set w _ _) (fun c hc => .inl (by have e : p + 2 * d = c := (by simpa using hc); omega))
/-- .. a bucket. -/
theorem Prt.hangB (h : Prt T I C N0 mb p q k i base U S w) (D : T.DevOk) (B : T.BktOk) {x : Int} {d : Nat} (hd : d < T.bn) (hx : T.bf d = x) :
    Prt T I C N0 mb p q k i base (upU U x k) S (w.setCell ⟨q + 2 * d, 0, none⟩ (.pointer (some ⟨q + 2 * k, 0, none⟩))) := by
  have h1 := h.mp
  have h2 := h.pq
  have h3 := h.qb
  refine ⟨h.map.set (by dsimp only; omega) _, fun i hi => ?_, fun j hj => ?_, fun j hj => ?_, fun hk => ownsRow_set (h.cur hk) (by dsimp only; omega) _, h.new, h.m0, h1, h2, h3, by simpa using h.hs, fun j hj => (World.cell?_setCell_other _ _ _ _ (fun e => by have := congrArg Addr.block e; dsimp only at this; omega)).trans (h.bs j hj)⟩
  · have n : T.df i ≠ x := fun e2 => by have := (D.each i hi).1; have := (B.each d hd).2.1; omega
    unfold upU; rw [if_neg n]
    exact (h.lf i hi).far (by dsimp only; omega) _
  · by_cases e : j = d
    · subst e
      have := (h.br j hj).put 0 (by simp) (.pointer (some ⟨q + 2 * k, 0, none⟩))
      unfold upU; rw [if_pos hx]; exact this
    · have n : T.bf j ≠ x := fun e2 => by
        rcases Nat.lt_or_gt_of_ne e with k | k
        · have := B.lt k hd; omega
        · have := B.lt k hj; omega
      unfold upU; rw [if_neg n]
      exact (h.br j hj).far (by dsimp only; omega) _
  · exact (h.row j hj).grown (grown_set w _ _) (fun c hc => .inl (by have e : q + 2 * d = c := (by simpa using hc); omega))
theorem Prt.later (h : Prt T I C N0 mb p q k i base U S w) {w' : World} (b : Below w.heap.size w w') : Prt T I C N0 mb p q k i base U S w' := by
  have g : w.grownBy w' none := ⟨b.os, b.tape, b.output, b.size, fun c hc _ => b.block c hc⟩
  exact ⟨h.map.later b, fun i hi => (h.lf i hi).later b, fun j hj => (h.br j hj).later b, fun j hj => (h.row j hj).grown g (fun c hc => by cases hc), fun hk => (h.cur hk).kept g (by
    cases q : (S k).ownBlock with
    | none => exact .inl rfl
    | some b => right; simp), h.new, h.m0, h.mp, h.pq, h.qb, by have := h.hs; have := b.size; omega, fun j hj => (b.cell (p := ⟨p + 2 * T.dn - 1, j, none⟩) (by have := h.mp; have := h.pq; have := h.qb; have := h.hs; dsimp only; omega)).trans (h.bs j hj)⟩
theorem infoP : (Try.prog.info? 92).map (fun i => (i.zero, i.size, i.bytes)) = some (some .nilIface, 1, 16) := by kernel_rfl
/-- A part is appended to a row. -/
theorem wpList_append_part {w0 : World} {ops : Array Oper} {rest : List Oper} {o : Oper} {a : Act} {Q : Exit → Act → World → Prop} (hgd : o.guard = none) (s x : Operand)
    (ho : o.op = .call { callee := .builtin .append, args := #[s, x], argTypes := #[127, 127] }) (B : Nat) (v : Value) (n : Nat) (zs : List Value) (hs : a.eval s = v) (c : Value) (hc : c.oneCell' = true) (hb : w0.ownsRow B 92 1 v n zs)
    (hx : a.eval x = .slice (some ⟨w0.heap.size, 0, none⟩) 1 1) (hlen : n ≤ 1000000) (hB : B ≤ w0.heap.size)
    (h : ∀ v' w', w'.ownsRow B 92 1 v' (n + 1) (zs ++ [c]) → (w0.alloc (.cells #[c] 92)).grownBy w' v.ownBlock → wpList Try.prog ops Q rest (a.put o.dst v') w') : wpList Try.prog ops Q (o :: rest) a (w0.alloc (.cells #[c] 92)) := by
  obtain ⟨i0, hi, hz0, hz1, hz2⟩ := info_parts infoP
  exact wpList_append_own _ hgd s x 127 ho B 92 i0 .nilIface 1 16 Try.underlying127 hi hz0 hz1 hz2 rfl (by decide) v n zs hs (World.ownsRow.alloc hb _) ⟨w0.heap.size, 0, none⟩ 1 1 [c] hx rfl (cell_one_new _ _ _) (by intro u hu; simp at hu; subst hu; exact hc) (by unfold maxLen; omega) (by omega) (by simp; omega) (fun v' w' ho' hg' _ => h v' w' ho' hg')
def upS (S : Nat → Value) (k : Nat) (v : Value) : Nat → Value := fun j => if j = k then v else S j
/-- The row of the bucket at hand has grown (w1), and is stored. -/
theorem Prt.push (h : Prt T I C N0 mb p q k i base U S w) (hk : k < T.bn) (hi : i < (T.L k).length) {o : Obj} {w2 : World} {v' : Value} (g : (w.alloc o).grownBy w2 (S k).ownBlock)
    (ho : w2.ownsRow base 92 1 v' (i + 1) (things T p q ((T.L k).take i) ++ [thg T p q T.dn T.bn ((T.L k).getD i 0)])) :
    Prt T I C N0 mb p q k (i + 1) base U (upS S k v') (w2.setCell ⟨q + 2 * k, 4, none⟩ v') := by
  have h1 := h.mp
  have h2 := h.pq
  have h3 := h.qb
  have g0 := lay w o
  have R := (h.cur hk).lt
  have BX : ∀ {b : Nat} {vs : List Value}, BxN w b vs → b < base → BxN w2 b vs := fun hb hlt => (hb.later g0).grown g (fun c hc e => by have := (R c hc).1; omega)
  refine ⟨?_, fun i hi => ?_, fun j hj => ?_, fun j hj => ?_, fun hk => ?_, fun j hkj hj => ?_, h.m0, h1, h2, h3, ?_, fun j hj => ?_⟩
  · refine Pm.Fun.set ?_ (by dsimp only; omega) _
    exact (h.map.later g0).kept g (fun e => by have := (R mb e.symm).1; omega)
  · exact (BX (h.lf i hi) (by omega)).far (by dsimp only; omega) _
  · by_cases e : j = k
    · subst e
      have := (BX (h.br j hj) (by omega)).put 4 (by simp) v'
      unfold upS; rw [if_pos rfl]; exact this
    · unfold upS; rw [if_neg e]
      exact (BX (h.br j hj) (by omega)).far (by dsimp only; omega) _
  · unfold upS; rw [if_neg (by omega)]
    refine Rw.grown ?_ (grown_set w2 _ _) (fun c hc => .inl (by have e : q + 2 * k = c := (by simpa using hc); omega))
    refine Rw.grown ?_ g (fun c hc => by have := (R c hc).1; right; omega)
    exact (h.row j hj).grown (World.grownBy_alloc w o none) (fun c hc => by cases hc)
  · unfold upS; rw [if_pos rfl]
    refine ownsRow_set ?_ (by dsimp only; omega) _
    rw [take_snoc _ _ hi]
    unfold things at ho ⊢
    rw [List.map_append]
    exact ho
  · unfold upS; rw [if_neg (by omega)]; exact h.new j hkj hj
  · have := g.size; have := h.hs; simp at *; omega
  · refine (World.cell?_setCell_other _ _ _ _ (fun e => by have := congrArg Addr.block e; dsimp only at this; omega)).trans ?_
    exact g.cell ((g0.cell (p := ⟨p + 2 * T.dn - 1, j, none⟩) (by have := h.hs; dsimp only; omega)).trans (h.bs j hj)) (fun e => by have := (R _ e.symm).1; dsimp only at this; omega)
/-- All items of a bucket are hung: on to the next. -/
theorem Prt.next (h : Prt T I C N0 mb p q k (T.L k).length base U S w) (hk : k < T.bn) : Prt T I C N0 mb p q (k + 1) 0 w.heap.size U S w := by
  have h3 := h.qb
  refine ⟨h.map, h.lf, h.br, fun j hj => ?_, fun hk2 => ?_, fun j hkj hj => h.new j (by omega) hj, h.m0, h.mp, h.pq, by have := h.hs; omega, Nat.le_refl _, h.bs⟩
  · by_cases e : j = k
    · subst e
      have := h.cur hk
      rw [List.take_length] at this
      exact Rw.of this (by unfold things; rw [List.length_map]) (by omega)
    · exact (h.row j (by omega)).mono h.hs
  · rw [h.new (k + 1) (by omega) hk2]
    exact World.ownsRow_nil _ _ _ _
end Go.Proofs.Ytoikdonecbpjaaa.Tm
