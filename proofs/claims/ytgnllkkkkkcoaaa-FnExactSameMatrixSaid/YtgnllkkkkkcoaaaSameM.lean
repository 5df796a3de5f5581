/-
  Whether two matrices are valid and the same: what the program's and the model's functions return.
-/
import Derived.Test.YtgnllkkkkkcoaaaSame
import Derived.Deep.RegionWith
import Derived.Deep.DeepCutAuto
namespace Go.Proofs.Ytgnllkkkkkcoaaa.Sa
open Go.RowKit Go.Proofs.Ytgnllkkkkkcoaaa.At Go.Proofs.Ytgnllkkkkkcoaaa.MixC Go.Proofs.Ytgnllkkkkkcoaaa.Ml Go.Proofs.Ytgnllkkkkkcoaaa.Mo
set_option linter.unusedVariables false

theorem chain {w a b : World} (h : Below w.heap.size w a) (k : Below a.heap.size a b) : Below w.heap.size w b := h.trans (k.mono h.size)
theorem lay (w : World) (x : Obj) : Below w.heap.size w (w.alloc x) := (Below.refl _ _).alloc (Nat.le_refl _) _
theorem lay2 (w : World) (x y : Obj) : Below w.heap.size w ((w.alloc x).alloc y) := chain (lay w x) (lay _ y)
def sameC (h1 wd1 : Int) (xs : List Int) (h2 wd2 : Int) (ys : List Int) : Bool := (h1 == h2) && ((wd1 == wd2) && same xs ys)
def sameM (h1 wd1 : Int) (xs : List Int) (h2 wd2 : Int) (ys : List Int) : Bool := okM h1 wd1 xs && (okM h2 wd2 ys && sameC h1 wd1 xs h2 wd2 ys)

set_option maxRecDepth 100000 in
theorem implSame (h1 wd1 h2 wd2 : Int) (a b : Option Addr) (cap1 cap2 : Nat) (xs ys : List Int) (w : World) (hl : xs.length ≤ 2097152) (hl2 : ys.length ≤ 2097152) (ha : Words w a xs) (hb : Words w b ys) :
    Calls Try.prog 38 #[mval h1 wd1 (.slice a xs.length cap1), mval h2 wd2 (.slice b ys.length cap2)] w (BoolB (sameM h1 wd1 xs h2 wd2 ys) w) := by
  have O1 := Lib.hid (fun w' (x : Below w.heap.size w w') => implOk h1 wd1 a cap1 xs w' hl (ha.below x))
  have O2 := Lib.hid (fun w' (x : Below w.heap.size w w') => implOk h2 wd2 b cap2 ys w' hl2 (hb.below x))
  have Q := Lib.hid (fun w' (x : Below w.heap.size w w') => slicesEqual a b cap1 cap2 xs ys w' hl hl2 (ha.below x) (hb.below x))
  have L := Lib.hid (lay2 w)
  unfold sameM
  clear ha hb
  by_cases o1 : okM h1 wd1 xs = true
  · rw [o1] at O1 ⊢
    by_cases o2 : okM h2 wd2 ys = true
    · rw [o2] at O2 ⊢
      unfold sameC
      clear o1 o2
      by_cases e1 : h1 = h2
      · subst e1
        by_cases e2 : wd1 = wd2
        · subst e2
          simp only [beq_self_eq_true, Bool.true_and]
          generalize same xs ys = ok at Q ⊢
          go_enter Try.func38, Try.ntmps38
          go_wp2_with fail
          refine (O1.out _ (L.out _ _)).mono ?_
          rintro e w1 ⟨rfl, b1⟩
          have r1 := box3 b1
          have r2 := box3' b1
          simp only [World.size_alloc] at r1 r2
          obtain ⟨c0, c1, c2, -, -, -⟩ := r1
          obtain ⟨d0, d1, d2, -, -, -⟩ := r2
          go_wp2_with fail
          refine (O2.out _ (chain (L.out _ _) b1)).mono ?_
          rintro e w2 ⟨rfl, b2⟩
          have b12 := chain b1 b2
          clear c0 c1 c2 d0 d1 d2
          have r1 := box3 b12
          have r2 := box3' b12
          simp only [World.size_alloc] at r1 r2
          obtain ⟨c0, c1, c2, -, -, -⟩ := r1
          obtain ⟨d0, d1, d2, -, -, -⟩ := r2
          go_wp2_with fail
          refine (Q.out _ (chain (L.out _ _) b12)).mono ?_
          rintro e w3 ⟨rfl, q, rfl⟩
          go_wp2
          go_ret
          exact ⟨rfl, below_drewN (chain (L.out _ _) b12) q⟩
        · have t : (wd1 == wd2) = false := by rw [beq_eq_false_iff_ne]; exact e2
          simp only [beq_self_eq_true, Bool.true_and, t, Bool.false_and]
          clear e2
          go_enter Try.func38, Try.ntmps38
          go_wp2_with fail
          refine (O1.out _ (L.out _ _)).mono ?_
          rintro e w1 ⟨rfl, b1⟩
          have r1 := box3 b1
          have r2 := box3' b1
          simp only [World.size_alloc] at r1 r2
          obtain ⟨c0, c1, c2, -, -, -⟩ := r1
          obtain ⟨d0, d1, d2, -, -, -⟩ := r2
          go_wp2_with fail
          refine (O2.out _ (chain (L.out _ _) b1)).mono ?_
          rintro e w2 ⟨rfl, b2⟩
          have b12 := chain b1 b2
          clear c0 c1 c2 d0 d1 d2
          have r1 := box3 b12
          have r2 := box3' b12
          simp only [World.size_alloc] at r1 r2
          obtain ⟨c0, c1, c2, -, -, -⟩ := r1
          obtain ⟨d0, d1, d2, -, -, -⟩ := r2
          go_wp2
          go_ret
          exact ⟨rfl, chain (L.out _ _) b12⟩
      · have t : (h1 == h2) = false := by rw [beq_eq_false_iff_ne]; exact e1
        simp only [Bool.true_and, t, Bool.false_and]
        clear e1
        go_enter Try.func38, Try.ntmps38
        go_wp2_with fail
        refine (O1.out _ (L.out _ _)).mono ?_
        rintro e w1 ⟨rfl, b1⟩
        have r1 := box3 b1
        have r2 := box3' b1
        simp only [World.size_alloc] at r1 r2
        obtain ⟨c0, c1, c2, -, -, -⟩ := r1
        obtain ⟨d0, d1, d2, -, -, -⟩ := r2
        go_wp2_with fail
        refine (O2.out _ (chain (L.out _ _) b1)).mono ?_
        rintro e w2 ⟨rfl, b2⟩
        have b12 := chain b1 b2
        clear c0 c1 c2 d0 d1 d2
        have r1 := box3 b12
        have r2 := box3' b12
        simp only [World.size_alloc] at r1 r2
        obtain ⟨c0, c1, c2, -, -, -⟩ := r1
        obtain ⟨d0, d1, d2, -, -, -⟩ := r2
        go_wp2
        go_ret
        exact ⟨rfl, chain (L.out _ _) b12⟩
    · have o2 : okM h2 wd2 ys = false := by simpa using o2
      rw [o2] at O2 ⊢
      simp only [Bool.true_and, Bool.false_and]
      clear o1 o2
      go_enter Try.func38, Try.ntmps38
      go_wp2_with fail
      refine (O1.out _ (L.out _ _)).mono ?_
      rintro e w1 ⟨rfl, b1⟩
      have r1 := box3 b1
      have r2 := box3' b1
      simp only [World.size_alloc] at r1 r2
      obtain ⟨c0, c1, c2, -, -, -⟩ := r1
      obtain ⟨d0, d1, d2, -, -, -⟩ := r2
      go_wp2_with fail
      refine (O2.out _ (chain (L.out _ _) b1)).mono ?_
      rintro e w2 ⟨rfl, b2⟩
      have b12 := chain b1 b2
      go_wp2
      go_ret
      exact ⟨rfl, chain (L.out _ _) b12⟩
  · have o1 : okM h1 wd1 xs = false := by simpa using o1
    rw [o1] at O1 ⊢
    simp only [Bool.false_and]
    clear o1
    go_enter Try.func38, Try.ntmps38
    go_wp2_with fail
    refine (O1.out _ (L.out _ _)).mono ?_
    rintro e w1 ⟨rfl, b1⟩
    go_wp2
    go_ret
    exact ⟨rfl, chain (L.out _ _) b1⟩

set_option maxRecDepth 100000 in
theorem l03Same (h1 wd1 h2 wd2 : Int) (a b : Option Addr) (cap1 cap2 : Nat) (xs ys : List Int) (w : World) (hl : xs.length ≤ 2097152) (hl2 : ys.length ≤ 2097152) (ha : Words w a xs) (hb : Words w b ys) :
    Calls Try.prog 76 #[mval h1 wd1 (.slice a xs.length cap1), mval h2 wd2 (.slice b ys.length cap2)] w (BoolB (sameC h1 wd1 xs h2 wd2 ys) w) := by
  have Q := Lib.hid (fun w' (x : Below w.heap.size w w') => l00Same a b cap1 cap2 xs ys w' hl hl2 (ha.below x) (hb.below x))
  have L := Lib.hid (lay2 w)
  unfold sameC
  clear ha hb
  by_cases e1 : h1 = h2
  · subst e1
    by_cases e2 : wd1 = wd2
    · subst e2
      simp only [beq_self_eq_true, Bool.true_and]
      generalize same xs ys = ok at Q ⊢
      go_enter Try.func76, Try.ntmps76
      go_wp2_with fail
      refine (Q.out _ (L.out _ _)).mono ?_
      rintro e w3 ⟨rfl, q, rfl⟩
      go_wp2
      go_ret
      exact ⟨rfl, below_drewN (L.out _ _) q⟩
    · have t : (wd1 == wd2) = false := by rw [beq_eq_false_iff_ne]; exact e2
      simp only [beq_self_eq_true, Bool.true_and, t, Bool.false_and]
      clear e2
      go_enter Try.func76, Try.ntmps76
      go_wp2
      go_ret
      exact ⟨rfl, L.out _ _⟩
  · have t : (h1 == h2) = false := by rw [beq_eq_false_iff_ne]; exact e1
    simp only [t, Bool.false_and]
    clear e1
    go_enter Try.func76, Try.ntmps76
    go_wp2
    go_ret
    exact ⟨rfl, L.out _ _⟩

set_option maxRecDepth 100000 in
theorem specSame (h1 wd1 h2 wd2 : Int) (a b : Option Addr) (cap1 cap2 : Nat) (xs ys : List Int) (w : World) (hl : xs.length ≤ 2097152) (hl2 : ys.length ≤ 2097152) (ha : Words w a xs) (hb : Words w b ys) :
    Calls Try.prog 37 #[mval h1 wd1 (.slice a xs.length cap1), mval h2 wd2 (.slice b ys.length cap2)] w (BoolB (sameM h1 wd1 xs h2 wd2 ys) w) := by
  have O1 := Lib.hid (fun w' (x : Below w.heap.size w w') => l03OK h1 wd1 a cap1 xs w' hl (ha.below x))
  have O2 := Lib.hid (fun w' (x : Below w.heap.size w w') => l03OK h2 wd2 b cap2 ys w' hl2 (hb.below x))
  have Q := Lib.hid (fun w' (x : Below w.heap.size w w') => l03Same h1 wd1 h2 wd2 a b cap1 cap2 xs ys w' hl hl2 (ha.below x) (hb.below x))
  have L := Lib.hid (lay2 w)
  unfold sameM
  clear ha hb
  generalize sameC h1 wd1 xs h2 wd2 ys = ok at Q ⊢
  by_cases o1 : okM h1 wd1 xs = true
  · rw [o1] at O1 ⊢
    by_cases o2 : okM h2 wd2 ys = true
    · rw [o2] at O2 ⊢
      simp only [Bool.true_and]
      clear o1 o2
      go_enter Try.func37, Try.ntmps37
      go_wp2_with fail
      refine (O1.out _ (L.out _ _)).mono ?_
      rintro e w1 ⟨rfl, b1⟩
      have r1 := box3 b1
      have r2 := box3' b1
      simp only [World.size_alloc] at r1 r2
      obtain ⟨c0, c1, c2, -, -, -⟩ := r1
      obtain ⟨d0, d1, d2, -, -, -⟩ := r2
      go_wp2_with fail
      refine (O2.out _ (chain (L.out _ _) b1)).mono ?_
      rintro e w2 ⟨rfl, b2⟩
      have b12 := chain b1 b2
      clear c0 c1 c2 d0 d1 d2
      have r1 := box3 b12
      have r2 := box3' b12
      simp only [World.size_alloc] at r1 r2
      obtain ⟨c0, c1, c2, -, -, -⟩ := r1
      obtain ⟨d0, d1, d2, -, -, -⟩ := r2
      go_wp2_with fail
      refine (Q.out _ (chain (L.out _ _) b12)).mono ?_
      rintro e w3 ⟨rfl, b3⟩
      go_wp2
      go_ret
      exact ⟨rfl, chain (chain (L.out _ _) b12) b3⟩
    · have o2 : okM h2 wd2 ys = false := by simpa using o2
      rw [o2] at O2 ⊢
      simp only [Bool.true_and, Bool.false_and]
      clear o1 o2
      go_enter Try.func37, Try.ntmps37
      go_wp2_with fail
      refine (O1.out _ (L.out _ _)).mono ?_
      rintro e w1 ⟨rfl, b1⟩
      have r1 := box3 b1
      have r2 := box3' b1
      simp only [World.size_alloc] at r1 r2
      obtain ⟨c0, c1, c2, -, -, -⟩ := r1
      obtain ⟨d0, d1, d2, -, -, -⟩ := r2
      go_wp2_with fail
      refine (O2.out _ (chain (L.out _ _) b1)).mono ?_
      rintro e w2 ⟨rfl, b2⟩
      have b12 := chain b1 b2
      go_wp2
      go_ret
      exact ⟨rfl, chain (L.out _ _) b12⟩
  · have o1 : okM h1 wd1 xs = false := by simpa using o1
    rw [o1] at O1 ⊢
    simp only [Bool.false_and]
    clear o1
    go_enter Try.func37, Try.ntmps37
    go_wp2_with fail
    refine (O1.out _ (L.out _ _)).mono ?_
    rintro e w1 ⟨rfl, b1⟩
    go_wp2
    go_ret
    exact ⟨rfl, chain (L.out _ _) b1⟩
end Go.Proofs.Ytgnllkkkkkcoaaa.Sa
