/-
  The product of two grids of numbers.
-/
import Derived.Test.YtgnllkkkkkcoaaaMul
namespace Go.Proofs.Ytgnllkkkkkcoaaa.Gf2
open Go.RowKit Go.Proofs.Ytgnllkkkkkcoaaa.At Go.Proofs.Ytgnllkkkkkcoaaa.MixC Go.Proofs.Ytgnllkkkkkcoaaa.Ml Go.Proofs.Ytgnllkkkkkcoaaa.Gr Go.Proofs.Ytgnllkkkkkcoaaa.Gj Go.Proofs.Ytgnllkkkkkcoaaa.GfI
set_option linter.unusedVariables false

/-- What stays while the product is filled. -/
structure MulI (w wr : World) (s5 ga gb g h n k N1 N2 N : Nat) (A Bm P : Mx) : Prop where
  a : Mat .i64 0 wr ga h n A
  b : Mat .i64 0 wr gb n k Bm
  p : Mat .i64 (w.heap.size + 3) wr g h k P
  na : g ≠ ga
  nb : g ≠ gb
  g5 : g ≠ s5
  t2 : Bx wr w.heap.size (.int .i64 h) (.int .i64 n) (.slice (some ⟨ga, 0, none⟩) N1 N1)
  t3 : Bx wr (w.heap.size + 1) (.int .i64 n) (.int .i64 k) (.slice (some ⟨gb, 0, none⟩) N2 N2)
  t4 : Bx wr (w.heap.size + 2) (.int .i64 0) (.int .i64 0) (.slice none 0 0)
  t5 : Bx wr s5 (.int .i64 h) (.int .i64 k) (.slice (some ⟨g, 0, none⟩) N N)
  bl : Below w.heap.size w wr
variable {w wr w1 : World} {s5 ga gb g h n k N1 N2 N : Nat} {A Bm P P' : Mx}
theorem MulI.below (m : MulI w wr s5 ga gb g h n k N1 N2 N A Bm P) (b : Below wr.heap.size wr w1) : MulI w w1 s5 ga gb g h n k N1 N2 N A Bm P :=
  ⟨m.a.below b, m.b.below b, m.p.below b, m.na, m.nb, m.g5, m.t2.below b, m.t3.below b, m.t4.below b, m.t5.below b, chain m.bl b⟩
theorem MulI.ext (m : MulI w wr s5 ga gb g h n k N1 N2 N A Bm P) (e : ∀ i j, i < h → j < k → P i j = P' i j) : MulI w wr s5 ga gb g h n k N1 N2 N A Bm P' := { m with p := m.p.ext e }
theorem MulI.row (m : MulI w wr s5 ga gb g h n k N1 N2 N A Bm P) {i : Nat} (hi : i < h) {F : Nat → Int} (r : Wrote .i64 wr w1 g (i * k) k F) : MulI w w1 s5 ga gb g h n k N1 N2 N A Bm (fun a b => if a = i then F b else P a b) := by
  have h0 := m.p.old
  exact ⟨m.a.aside r (fun e => m.na e.symm), m.b.aside r (fun e => m.nb e.symm), m.p.row hi r, m.na, m.nb, m.g5, m.t2.wrote r (by omega), m.t3.wrote r (by omega), m.t4.wrote r (by omega), m.t5.wrote r (fun e => m.g5 e.symm), r.below m.bl (by omega)⟩
/-- The product with i rows whole and j terms of the next. -/
def mulTo (A Bm : Mx) (n i j : Nat) : Mx := fun a b => if a < i then dotZ A Bm a b n else if a = i then dotZ A Bm a b j else 0
theorem mulTo_step {A Bm : Mx} {n i j a b : Nat} : (if a = i then xorZ (mulTo A Bm n i j i b) (mulZ (A i j) (Bm j b)) else mulTo A Bm n i j a b) = mulTo A Bm n i (j + 1) a b := by
  unfold mulTo
  by_cases e : a = i
  · subst e
    rw [if_pos rfl, if_neg (Nat.lt_irrefl _), if_pos rfl, if_neg (Nat.lt_irrefl _), if_pos rfl]; rfl
  · rw [if_neg e]
    by_cases q : a < i
    · rw [if_pos q, if_pos q]
    · rw [if_neg q, if_neg e, if_neg q, if_neg e]
theorem mulTo_next {A Bm : Mx} {n i a b : Nat} : mulTo A Bm n i n a b = mulTo A Bm n (i + 1) 0 a b := by
  unfold mulTo
  by_cases q : a < i
  · rw [if_pos q, if_pos (by omega)]
  · rw [if_neg q]
    by_cases e : a = i
    · rw [if_pos e, if_pos (by omega)]
    · rw [if_neg e, if_neg (by omega)]
      split <;> rfl
theorem mulTo_el {A Bm : Mx} {n i j : Nat} (hA : Els h n A) (hj : j ≤ n) {a b : Nat} (ha : a < h) : El (mulTo A Bm n i j a b) := by
  unfold mulTo
  split
  · exact dotZ_el (fun t ht => hA a t ha ht)
  · split
    · exact dotZ_el (fun t ht => hA a t ha (by omega))
    · exact El.zero

set_option maxRecDepth 100000 in
set_option maxHeartbeats 4000000 in
theorem multiply (h n k ga gb N1 N2 : Nat) (A Bm : Mx) (h8 : h ≤ 16) (n8 : n ≤ 16) (k8 : k ≤ 100) (hN1 : N1 = h * n) (hN2 : N2 = n * k) (hA : Els h n A) (hB : Els n k Bm) (w : World) (mA : Mat .i64 0 w ga h n A) (mB : Mat .i64 0 w gb n k Bm) :
    Calls Try.prog 68 #[gval h n ga N1, gval n k gb N2] w (NewG h k (fun i j => dotZ A Bm i j n) w) := by
  have q1 : h * n ≤ 16 * 16 := Nat.mul_le_mul h8 n8
  have q2 : n * k ≤ 16 * 100 := Nat.mul_le_mul n8 k8
  have q3 : h * k ≤ 16 * 100 := Nat.mul_le_mul h8 k8
  have C := Lib.hid (newGrid h k (by omega))
  obtain ⟨N, hN⟩ : ∃ N, N = h * k := ⟨_, rfl⟩
  have FIN : ∀ g e w', e = Ending.returned (gval h k g N) → Mat .i64 w.heap.size w' g h k (fun i j => dotZ A Bm i j n) → Below w.heap.size w w' → NewG h k (fun i j => dotZ A Bm i j n) w e w' := fun g e w' x y z => ⟨g, by rw [← hN]; exact x, y, z⟩
  have FIN := Lib.hid FIN
  have NN := Lib.hid (And.intro hN1 (And.intro hN2 hN))
  have HA := Lib.hid hA
  have HB := Lib.hid hB
  have l3 := chain (chain (lay w (.cells #[.int .i64 h, .int .i64 n, .slice (some ⟨ga, 0, none⟩) N1 N1] 79)) (lay _ (.cells #[.int .i64 n, .int .i64 k, .slice (some ⟨gb, 0, none⟩) N2 N2] 79))) (lay _ (.cells #[.int .i64 0, .int .i64 0, .slice none 0 0] 79))
  have t2 := ((Bx.top w (.int .i64 h) (.int .i64 n) (.slice (some ⟨ga, 0, none⟩) N1 N1) 79).alloc (.cells #[.int .i64 n, .int .i64 k, .slice (some ⟨gb, 0, none⟩) N2 N2] 79)).alloc (.cells #[.int .i64 0, .int .i64 0, .slice none 0 0] 79)
  have t3 := (Bx.top (w.alloc (.cells #[.int .i64 h, .int .i64 n, .slice (some ⟨ga, 0, none⟩) N1 N1] 79)) (.int .i64 n) (.int .i64 k) (.slice (some ⟨gb, 0, none⟩) N2 N2) 79).alloc (.cells #[.int .i64 0, .int .i64 0, .slice none 0 0] 79)
  have t4 := Bx.top ((w.alloc (.cells #[.int .i64 h, .int .i64 n, .slice (some ⟨ga, 0, none⟩) N1 N1] 79)).alloc (.cells #[.int .i64 n, .int .i64 k, .slice (some ⟨gb, 0, none⟩) N2 N2] 79)) (.int .i64 0) (.int .i64 0) (.slice none 0 0) 79
  have a3 := mA.below l3
  have b3 := mB.below l3
  simp only [World.size_alloc] at t3 t4
  have ha0 := mA.lt
  have hb0 := mB.lt
  clear hA hB hN hN1 hN2 mA mB q1 q2
  go_enter Try.func68, Try.ntmps68
  go_wp2_with fail
  refine (C.out _).mono ?_
  rintro e w1 ⟨g, rfl, G0, b1⟩
  rw [← NN.out.2.2]
  have hg0 := G0.old
  have hg1 := G0.lt
  have hz1 := b1.size
  simp only [World.size_alloc] at hg0 hz1
  have l1 := lay w1 (.cells #[.int .i64 h, .int .i64 k, .slice (some ⟨g, 0, none⟩) N N] 79)
  have b1' := chain b1 l1
  have I0 : MulI w (w1.alloc (.cells #[.int .i64 h, .int .i64 k, .slice (some ⟨g, 0, none⟩) N N] 79)) w1.heap.size ga gb g h n k N1 N2 N A Bm (mulTo A Bm n 0 0) :=
    ⟨a3.below b1', b3.below b1', by have := G0.below l1; simp only [World.size_alloc] at this; exact this.ext (fun i j _ _ => by unfold mulTo; rw [if_neg (by omega)]; split <;> rfl), by omega, by omega, by omega, t2.below b1', t3.below b1', t4.below b1', Bx.top w1 _ _ _ _, chain l3 b1'⟩
  clear t2 t3 t4 a3 b3 l3 b1 l1 b1' G0
  obtain ⟨-, c0, c1, c2, -⟩ := I0.t2
  go_wp2_with fail
  clear c0 c1 c2
  go_loopw [16] (fun s wr => ∃ i : Nat, i ≤ h ∧ s = .int .i64 i ∧ MulI w wr w1.heap.size ga gb g h n k N1 N2 N A Bm (mulTo A Bm n i 0)) (fun s _ => h - (intOf s).toNat)
  case atStart => exact ⟨0, by omega, rfl, I0⟩
  case round =>
    obtain ⟨i, hi, rfl, I⟩ := hrel
    clear I0
    by_cases hlt : i < h
    · have HI := Lib.hid I
      obtain ⟨-, c0, c1, c2, -⟩ := I.t2
      clear I
      go_wp2_with fail
      refine (row h n ga i N1 NN.out.1 hlt (by omega) (by have := NN.out.1; have : h * n ≤ 16 * 16 := Nat.mul_le_mul h8 n8; omega) _).mono ?_
      rintro e w2 ⟨rfl, b2⟩
      have I2 := HI.out.below b2
      clear c0 c1 c2 b2 HI
      go_wp2_with fail
      go_loopw [23] (fun s wr => ∃ j : Nat, j ≤ n ∧ s = .int .i64 j ∧ MulI w wr w1.heap.size ga gb g h n k N1 N2 N A Bm (mulTo A Bm n i j)) (fun s _ => n - (intOf s).toNat)
      case atStart => exact ⟨0, by omega, rfl, I2⟩
      case round =>
        obtain ⟨j, hj, rfl, I⟩ := hrel
        clear I2
        by_cases hl2 : j < n
        · have HI := Lib.hid I
          have cA := I.a.cell i j hlt hl2
          have eA := HA.out i j hlt hl2
          obtain ⟨-, c0, c1, c2, -⟩ := I.t5
          obtain ⟨-, d0, d1, d2, -⟩ := I.t3
          have RP := Lib.hid (fun v => row h k g i N NN.out.2.2 hlt (by omega) (by have := NN.out.2.2; omega) v)
          have RB := Lib.hid (fun v => row n k gb j N2 NN.out.2.1 hl2 (by omega) (by have := NN.out.2.1; have : n * k ≤ 16 * 100 := Nat.mul_le_mul n8 k8; omega) v)
          have hg9 := I.p.lt
          have hb9 := I.b.lt
          have AT := Lib.hid (fun v (m : MulI w v w1.heap.size ga gb g h n k N1 N2 N A Bm (mulTo A Bm n i j)) => addTimes (A i j) eA g (i * k) gb (j * k) k k k (fun t => mulTo A Bm n i j i t) (fun t => Bm j t) v
            (fun t ht => mulTo_el HA.out (by omega) hlt) (fun t ht => HB.out j t hl2 ht) m.p.lt m.b.lt (fun t ht => m.p.cell i t hlt ht) (fun t ht => m.b.cell j t hl2 ht) m.p.free (.inl (fun e => m.nb e.symm)) (by omega))
          have STP := Lib.hid (fun a b => mulTo_step (A := A) (Bm := Bm) (n := n) (i := i) (j := j) (a := a) (b := b))
          generalize hf : A i j = f at cA eA AT STP
          have Xd := I.below (Below.refl _ _).drew
          clear I hf
          go_wp2_with fail
          go_region_with (first
            | ((with_reducible refine (RP.out _).mono ?_); rintro e v1 ⟨rfl, bq⟩; have XP : MulI w v1 w1.heap.size ga gb g h n k N1 N2 N A Bm (mulTo A Bm n i j) := MulI.below (by assumption) bq; obtain ⟨-, m0, m1, m2, -⟩ := XP.t3)
            | ((with_reducible refine (RB.out _).mono ?_); rintro e v2 ⟨rfl, bq⟩; have XB : MulI w v2 w1.heap.size ga gb g h n k N1 N2 N A Bm (mulTo A Bm n i j) := MulI.below (by assumption) bq; obtain ⟨-, l0, l1, l2, -⟩ := XB.t5)
            | ((with_reducible refine (AT.out _ ?_).mono ?_); assumption; rintro e v3 ⟨rfl, W3⟩; have XF := (MulI.row (by assumption) hlt W3).ext (P' := mulTo A Bm n i (j + 1)) (fun a b _ _ => STP.out a b)))
          all_goals
            clear c0 c1 c2 d0 d1 d2 AT RP RB Xd
            go_wp2
            go_roundw
            case rel => exact ⟨j + 1, by omega, by go_num, XF⟩
            case measure => simp [intOf]; omega
        · obtain rfl : j = n := by omega
          have I5 := I.ext (P' := mulTo A Bm j (i + 1) 0) (fun a b _ _ => mulTo_next)
          clear I
          go_wp2
          go_roundw
          case rel => exact ⟨i + 1, by omega, by go_num, I5⟩
          case measure => simp [intOf]; omega
    · obtain rfl : i = h := by omega
      have M5 := Lib.hid (I.p.ext (N := fun a b => dotZ A Bm a b n) (fun a b ha _ => by unfold mulTo; rw [if_pos ha]))
      have hgg := I.p.old
      obtain ⟨-, c0, c1, c2, -⟩ := I.t5
      obtain ⟨-, d0, d1, d2, f0, f1, f2⟩ := I.t4
      have BB := Lib.hid I.bl
      clear I
      go_wp2
      refine bodyPost_ret (v := gval i k g N) (by simp [results, Try.results68, go_sem, *]) rfl (FIN.out g _ _ rfl ?_ ?_)
      · exact matMono (((M5.out.far (by show w.heap.size + 2 ≠ g; omega) _).far (by show w.heap.size + 2 ≠ g; omega) _).far (by show w.heap.size + 2 ≠ g; omega) _) (by omega)
      · exact ((BB.out.setCell (by show w.heap.size ≤ w.heap.size + 2; omega) _).setCell (by show w.heap.size ≤ w.heap.size + 2; omega) _).setCell (by show w.heap.size ≤ w.heap.size + 2; omega) _
end Go.Proofs.Ytgnllkkkkkcoaaa.Gf2
