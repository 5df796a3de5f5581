/-
  The choice of an item by its ticket: the greatest of a list of tickets, the program's and the model's choice.
-/
import Derived.Test.YtgfpngjfhmiphaaItemsOk
import Derived.Test.YtgfpngjfhmiphaaBest
namespace Go.Proofs.Ytgfpngjfhmiphaa.Ch
open Go.RowKit Go.Proofs.Ytgfpngjfhmiphaa.It Go.Proofs.Ytgfpngjfhmiphaa.Tk Go.Proofs.Ytgfpngjfhmiphaa.Rc
set_option linter.unusedVariables false

theorem own_later {w w' : World} {base e size n : Nat} {v : Value} {xs : List Value} (h : w.ownsRow base e size v n xs) (hb : Below w.heap.size w w') : w'.ownsRow base e size v n xs :=
  h.kept (row := none) ⟨hb.os, hb.tape, hb.output, hb.size, fun k hk _ => hb.block k hk⟩ (by cases v.ownBlock <;> simp)
theorem own_shape {w : World} {base e size n : Nat} {v : Value} {xs : List Value} (h : w.ownsRow base e size v n xs) : ∃ a c, v = .slice a n c := by
  rcases h.2 with ⟨rfl, rfl⟩ | ⟨g, cap, cur, rfl, _⟩
  · exact ⟨_, _, rfl⟩
  · exact ⟨_, _, rfl⟩

/-- The better of two. -/
def pickT (m p : Int × Int) : Int × Int := if m.2 < p.2 then p else m
def sel (l : List (Int × Int)) : Int × Int := l.foldl pickT (0, -1)
theorem sel_snoc (l : List (Int × Int)) (p : Int × Int) : sel (l ++ [p]) = pickT (sel l) p := by unfold sel; rw [List.foldl_append]; rfl
theorem pick_ge (m p : Int × Int) : m.2 ≤ (pickT m p).2 ∧ p.2 ≤ (pickT m p).2 := by unfold pickT; split <;> constructor <;> omega
theorem fold_ge : ∀ (l : List (Int × Int)) (m : Int × Int), m.2 ≤ (l.foldl pickT m).2
  | [], m => Int.le_refl _
  | p :: l, m => Int.le_trans (pick_ge m p).1 (fold_ge l (pickT m p))
theorem sel_ge (l : List (Int × Int)) (h : ∀ p ∈ l, 0 ≤ p.2) : l = [] ∧ sel l = (0, -1) ∨ l ≠ [] ∧ 0 ≤ (sel l).2 := by
  cases l with
  | nil => exact .inl ⟨rfl, rfl⟩
  | cons p l => exact .inr ⟨by simp, Int.le_trans (h p (by simp)) (Int.le_trans (pick_ge (0, -1) p).2 (fold_ge l (pickT (0, -1) p)))⟩
/-- The tickets of the first k items. -/
def tsN (f g : Nat → Int) (seed try' : Int) : Nat → List (Int × Int)
  | 0 => []
  | k + 1 => if 0 < g k then tsN f g seed try' k ++ [(f k, bn (f k) seed try' (g k).toNat)] else tsN f g seed try' k
theorem tsN_pos (f g : Nat → Int) (seed try' : Int) : ∀ k, ∀ p ∈ tsN f g seed try' k, 0 ≤ p.2
  | 0 => by simp [tsN]
  | k + 1 => by
    unfold tsN
    intro p hp
    split at hp
    · rcases List.mem_append.1 hp with h | h
      · exact tsN_pos f g seed try' k p h
      · simp at h; rw [h]; exact (bn_lt _ _ _ _).1
    · exact tsN_pos f g seed try' k p hp
theorem tsN_len (f g : Nat → Int) (seed try' : Int) : ∀ k, (tsN f g seed try' k).length ≤ k
  | 0 => by simp [tsN]
  | k + 1 => by
    unfold tsN
    have := tsN_len f g seed try' k
    split
    · simp; omega
    · omega
/-- The greatest of the first k + 1 of a row. -/
def mxF (F G : Nat → Int) : Nat → Int × Int
  | 0 => (F 0, G 0)
  | k + 1 => pickT (mxF F G k) (F (k + 1), G (k + 1))
theorem sel_mx (l : List (Int × Int)) (h : ∀ p ∈ l, 0 ≤ p.2) : ∀ k, k < l.length → sel (l.take (k + 1)) = mxF (fun i => (l.getD i (0, 0)).1) (fun i => (l.getD i (0, 0)).2) k
  | 0, hk => by
    cases l with
    | nil => simp at hk
    | cons p r =>
      have hp := h p (by simp)
      simp only [List.take_succ_cons, List.take_zero, mxF, List.getD_cons_zero]
      show pickT (0, -1) p = _
      unfold pickT; rw [if_pos (by show (-1 : Int) < p.2; omega)]
  | k + 1, hk => by
    rw [List.take_succ_eq_append_getElem hk, sel_snoc, sel_mx l h k (by omega), mxF]
    congr 1
    simp [List.getD_eq_getElem?_getD, List.getElem?_eq_getElem hk]
theorem sel_end (l : List (Int × Int)) (h : ∀ p ∈ l, 0 ≤ p.2) (hne : 0 < l.length) : mxF (fun i => (l.getD i (0, 0)).1) (fun i => (l.getD i (0, 0)).2) (l.length - 1) = sel l := by
  rw [← sel_mx l h (l.length - 1) (by omega), List.take_of_length_le (by omega)]
/-- The cells of a list of pairs. -/
def cellsT (l : List (Int × Int)) : List Value := l.flatMap fun p => [.int .i64 p.1, .int .i64 p.2]
theorem cellsT_snoc (l : List (Int × Int)) (p : Int × Int) : cellsT (l ++ [p]) = cellsT l ++ [.int .i64 p.1, .int .i64 p.2] := by simp [cellsT]
theorem cellsT_len (l : List (Int × Int)) : (cellsT l).length = l.length * 2 := by
  induction l with
  | nil => rfl
  | cons p l ih => simp only [cellsT, List.flatMap_cons, List.length_append, List.length_cons, List.length_nil] at ih ⊢; omega
theorem cellsT_at : ∀ (l : List (Int × Int)) (i : Nat), i < l.length → (cellsT l)[i * 2]? = some (.int .i64 (l.getD i (0, 0)).1) ∧ (cellsT l)[i * 2 + 1]? = some (.int .i64 (l.getD i (0, 0)).2)
  | [], i, h => by simp at h
  | p :: l, 0, _ => by simp [cellsT]
  | p :: l, i + 1, h => by
    have ih := cellsT_at l i (by simpa using h)
    have e : cellsT (p :: l) = .int .i64 p.1 :: .int .i64 p.2 :: cellsT l := rfl
    rw [e, show (i + 1) * 2 = i * 2 + 1 + 1 from by omega]
    simpa using ih
theorem recs_own {w : World} {base e c : Nat} {a : Option Addr} {l : List (Int × Int)} (h : w.ownsRow base e 2 (.slice a l.length c) l.length (cellsT l)) :
    Recs w a l.length (fun i => (l.getD i (0, 0)).1) (fun i => (l.getD i (0, 0)).2) := by
  by_cases h0 : l.length = 0
  · exact .inl h0
  · rcases h.2 with ⟨_, h'⟩ | ⟨g, cap, cur, hv, _⟩
    · exact absurd h' h0
    · simp only [Value.slice.injEq] at hv
      obtain ⟨rfl, -, rfl⟩ := hv
      refine .inr ⟨g, 0, rfl, (h.lt _ rfl).2, fun i hi => ?_⟩
      have hc := cellsT_at l i hi
      rw [Nat.zero_add]
      exact ⟨(h.cellAt (i * 2) (by omega)).trans hc.1, (h.cellAt (i * 2 + 1) (by omega)).trans hc.2⟩

theorem isNaN (x : Int) (w : World) : Calls Try.prog 156 #[.int .i64 x] w fun e w' => e = .returned (.bool false) ∧ w = w' := by
  go_enter Try.func156, Try.ntmps156
  go_wp2
  go_ret
  exact ⟨rfl, rfl⟩
theorem cmpLess (x y c : Int) (hc : x < y ∧ c = -1 ∨ x = y ∧ c = 0 ∨ y < x ∧ c = 1) (w : World) : Calls Try.prog 160 #[.int .i64 x, .int .i64 y] w fun e w' => e = .returned (.int .i64 c) ∧ w = w' := by
  rcases hc with ⟨h, rfl⟩ | ⟨rfl, rfl⟩ | ⟨h, rfl⟩
  all_goals
    go_enter Try.func160, Try.ntmps160
    go_wp2_with fail
    refine (isNaN _ _).mono ?_
    rintro e w1 ⟨rfl, rfl⟩
    go_wp2_with fail
    refine (isNaN _ _).mono ?_
    rintro e w1 ⟨rfl, rfl⟩
    go_wp2
    go_ret
    exact ⟨rfl, rfl⟩
theorem compare (a x b y c : Int) (hc : x < y ∧ c = -1 ∨ x = y ∧ c = 0 ∨ y < x ∧ c = 1) (w : World) :
    Calls Try.prog 145 #[ival a x, ival b y] w (IntB c w) := by
  have C := Lib.hid (fun w' => cmpLess x y c hc w')
  clear hc
  go_enter Try.func145, Try.ntmps145
  go_wp2_with fail
  refine (C.out _).mono ?_
  rintro e w1 ⟨rfl, rfl⟩
  go_wp2
  go_ret
  exact ⟨rfl, ((Below.refl _ _).alloc (Nat.le_refl _) _).alloc (by simp) _⟩

/-- The boxes of the search: the result, the greatest so far. -/
structure Mw (w wr : World) (m : Int × Int) : Prop where
  r0 : wr.cell? ⟨w.heap.size, 0, none⟩ = some (.int .i64 0)
  r1 : wr.cell? ⟨w.heap.size, 1, none⟩ = some (.int .i64 0)
  d0 : wr.cell? ⟨w.heap.size + 1, 0, none⟩ = some (.int .i64 m.1)
  d1 : wr.cell? ⟨w.heap.size + 1, 1, none⟩ = some (.int .i64 m.2)
  g0 : wr.frozen? ⟨w.heap.size, 0, none⟩ = false
  g1 : wr.frozen? ⟨w.heap.size, 1, none⟩ = false
  f0 : wr.frozen? ⟨w.heap.size + 1, 0, none⟩ = false
  f1 : wr.frozen? ⟨w.heap.size + 1, 1, none⟩ = false
  lt : w.heap.size + 1 < wr.heap.size
  below : Below w.heap.size w wr
theorem Mw.later {w wr w' : World} {m : Int × Int} (h : Mw w wr m) (k : Below wr.heap.size wr w') : Mw w w' m := by
  have lt := h.lt
  have c : ∀ b o, b ≤ w.heap.size + 1 → w'.cell? ⟨b, o, none⟩ = wr.cell? ⟨b, o, none⟩ := fun b o hb => k.cell (p := ⟨b, o, none⟩) (by show b < _; omega)
  have f : ∀ b o, b ≤ w.heap.size + 1 → w'.frozen? ⟨b, o, none⟩ = wr.frozen? ⟨b, o, none⟩ := fun b o hb => k.frozen (p := ⟨b, o, none⟩) (by show b < _; omega)
  exact ⟨(c _ _ (by omega)).trans h.r0, (c _ _ (by omega)).trans h.r1, (c _ _ (by omega)).trans h.d0, (c _ _ (by omega)).trans h.d1,
    (f _ _ (by omega)).trans h.g0, (f _ _ (by omega)).trans h.g1, (f _ _ (by omega)).trans h.f0, (f _ _ (by omega)).trans h.f1, Nat.lt_of_lt_of_le lt k.size, h.below.trans (k.mono (by omega))⟩
theorem Mw.put {w wr : World} {m : Int × Int} (h : Mw w wr m) (p : Int × Int) : Mw w ((wr.setCell ⟨w.heap.size + 1, 0, none⟩ (.int .i64 p.1)).setCell ⟨w.heap.size + 1, 1, none⟩ (.int .i64 p.2)) p := by
  have c : ∀ o, ((wr.setCell ⟨w.heap.size + 1, 0, none⟩ (.int .i64 p.1)).setCell ⟨w.heap.size + 1, 1, none⟩ (.int .i64 p.2)).cell? ⟨w.heap.size, o, none⟩ = wr.cell? ⟨w.heap.size, o, none⟩ := fun o =>
    (World.cell?_setCell_other _ _ _ _ (fun e => by have := congrArg Addr.block e; simp at this)).trans (World.cell?_setCell_other _ _ _ _ (fun e => by have := congrArg Addr.block e; simp at this))
  have f : ∀ b o, ((wr.setCell ⟨w.heap.size + 1, 0, none⟩ (.int .i64 p.1)).setCell ⟨w.heap.size + 1, 1, none⟩ (.int .i64 p.2)).frozen? ⟨b, o, none⟩ = wr.frozen? ⟨b, o, none⟩ := fun b o => (World.frozen?_setCell _ _ _ _).trans (World.frozen?_setCell _ _ _ _)
  exact ⟨(c _).trans h.r0, (c _).trans h.r1, (World.cell?_setCell_other _ _ _ _ (by simp)).trans (World.cell?_setCell_same _ _ _ h.d0), World.cell?_setCell_same _ _ _ ((World.cell?_setCell_other _ _ _ _ (by simp)).trans h.d1),
    (f _ _).trans h.g0, (f _ _).trans h.g1, (f _ _).trans h.f0, (f _ _).trans h.f1, by simpa using h.lt, (h.below.setCell (by show _ ≤ w.heap.size + 1; omega) _).setCell (by show _ ≤ w.heap.size + 1; omega) _⟩
theorem Mw.new (w : World) (x y : Int) (T U : TypeId) : Mw w ((w.alloc (.cells #[.int .i64 0, .int .i64 0] T)).alloc (.cells #[.int .i64 x, .int .i64 y] U)) (x, y) := by
  have s1 : ∀ V : World, ∀ O, (V.alloc O).heap.size = V.heap.size + 1 := fun V O => World.size_alloc _ _
  have q0 := at_alloc (lay (w.alloc (.cells #[.int .i64 0, .int .i64 0] T)) (.cells #[.int .i64 x, .int .i64 y] U))
  have q1 := at_alloc (Below.refl ((w.alloc (.cells #[.int .i64 0, .int .i64 0] T)).alloc (.cells #[.int .i64 x, .int .i64 y] U)).heap.size _)
  simp only [s1] at q1
  exact ⟨(q0 0).1, (q0 1).1, (q1 0).1, (q1 1).1, (q0 0).2, (q0 1).2, (q1 0).2, (q1 1).2, by simp only [s1]; omega, chain (lay _ _) (lay _ _)⟩

def PairB (m : Int × Int) (w : World) (e : Ending) (w' : World) : Prop := e = .returned (ival m.1 m.2) ∧ Below w.heap.size w w'

set_option maxRecDepth 100000 in
set_option maxHeartbeats 1000000 in
theorem maxFunc (a : Option Addr) (cap n : Nat) (F G : Nat → Int) (w : World) (hl : n + 1 ≤ 2097152) (ha : Recs w a (n + 1) F G) :
    Calls Try.prog 144 #[.slice a (n + 1) cap, .func (.func 145) #[] #[]] w (PairB (mxF F G n) w) := by
  obtain ⟨b1, o1, rfl, hB, c1⟩ := ha.resolve_left (by omega)
  obtain ⟨i0, i1⟩ := c1 0 (by omega)
  simp only [Nat.zero_mul, Nat.add_zero] at i0 i1
  have M0 := Mw.new w (F 0) (G 0) 189 189
  have HA := Lib.hid ha
  clear c1
  go_enter Try.func144, Try.ntmps144
  go_wp2
  go_loopw [6] (fun i wr => ∃ k : Nat, k ≤ n ∧ i = .int .i64 (k + 1 : Nat) ∧ Mw w wr (mxF F G k)) (fun i _ => n + 1 - (intOf i).toNat)
  case atStart => exact ⟨0, by omega, rfl, M0⟩
  case round =>
    obtain ⟨k, hk, rfl, X⟩ := hrel
    clear M0 i0 i1
    have S : mxF F G (k + 1) = pickT (mxF F G k) (F (k + 1), G (k + 1)) := rfl
    have S := Lib.hid S
    have XH := Lib.hid X
    by_cases hlt : k < n
    · have ha1 := HA.out.below X.below
      obtain ⟨b1', o1', hae, hB', c1⟩ := ha1.resolve_left (by omega)
      simp only [Option.some.injEq, Addr.mk.injEq, and_true] at hae
      obtain ⟨rfl, rfl⟩ := hae
      obtain ⟨i0, i1⟩ := c1 (k + 1) (by omega)
      have HC := Lib.hid (fun w' (b : Below wr.heap.size wr w') => And.intro ((b.cell (p := ⟨b1, o1 + (k + 1) * 2, none⟩) hB').trans (c1 (k + 1) (by omega)).1) ((b.cell (p := ⟨b1, o1 + (k + 1) * 2 + 1, none⟩) hB').trans (c1 (k + 1) (by omega)).2))
      have LT := X.lt
      obtain ⟨-, -, d0, d1, -, -, f0, f1, -, -⟩ := X
      clear c1 hB' ha1 ha hB
      generalize mxF F G k = m at d0 d1 XH S
      obtain ⟨m1, m2⟩ := m
      generalize F (k + 1) = x at *
      generalize G (k + 1) = y at *
      by_cases q : m2 < y
      · have S2 : mxF F G (k + 1) = (x, y) := by rw [S.out]; unfold pickT; rw [if_pos q]
        have S2 := Lib.hid S2
        clear S
        have C := Lib.hid (fun w' => compare x y m1 m2 1 (.inr (.inr ⟨q, rfl⟩)) w')
        clear q
        go_wp2
        go_region_with (go_at_call 145; refine (C.out _).mono ?_; rintro e w2 ⟨rfl, b2⟩; have X2 := Lib.hid (XH.out.later (It.undrew b2)); have HC2 := HC.out _ (It.undrew b2); obtain ⟨j0, j1⟩ := HC2; obtain ⟨-, -, e0, e1, -, -, k0, k1, lt2, -⟩ := X2.out)
        all_goals
          go_wp2
          go_roundw
          case rel => exact ⟨k + 1, by omega, by go_num, by rw [S2.out]; exact X2.out.put (x, y)⟩
          case measure => simp [intOf]; omega
      · have S2 : mxF F G (k + 1) = (m1, m2) := by rw [S.out]; unfold pickT; rw [if_neg q]
        have S2 := Lib.hid S2
        clear S
        obtain ⟨c, hc, hc0⟩ : ∃ c : Int, (y < m2 ∧ c = -1 ∨ y = m2 ∧ c = 0 ∨ m2 < y ∧ c = 1) ∧ ¬ 0 < c := by
          by_cases e : y < m2
          · exact ⟨-1, .inl ⟨e, rfl⟩, by omega⟩
          · exact ⟨0, .inr (.inl ⟨by omega, rfl⟩), by omega⟩
        have C := Lib.hid (fun w' => compare x y m1 m2 c hc w')
        clear q hc
        go_wp2
        go_region_with (go_at_call 145; refine (C.out _).mono ?_; rintro e w2 ⟨rfl, b2⟩; have X2 := Lib.hid (XH.out.later (It.undrew b2)))
        all_goals
          go_wp2
          go_roundw
          case rel => exact ⟨k + 1, by omega, by go_num, by rw [S2.out]; exact X2.out⟩
          case measure => simp [intOf]; omega
    · obtain rfl : k = n := by omega
      obtain ⟨r0, r1, d0, d1, g0, g1, f0, f1, lt, hb⟩ := X
      go_wp2
      refine bodyPost_ret (v := ival (mxF F G k).1 (mxF F G k).2) (by simp [results, Try.results144, go_sem, *]) rfl ⟨rfl, ?_⟩
      exact (hb.setCell (by show _ ≤ w.heap.size; omega) _).setCell (by show _ ≤ w.heap.size; omega) _
end Go.Proofs.Ytgfpngjfhmiphaa.Ch
