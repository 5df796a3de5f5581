/-
  The items that the laws draw: at most five, of numbers 1 to 5, no two alike, of weights 0 to 8.
-/
import Derived.Test.YtfdekhhlkieekaaSrc
import Derived.Test.YtfdekhhlkieekaaLawChoose
namespace Go.Proofs.Ytfdekhhlkieekaa.Ch
open Go.RowKit Go.Proofs.Ytfdekhhlkieekaa.It Go.Proofs.Ytfdekhhlkieekaa.Rc Go.Proofs.Ytfdekhhlkieekaa.Sr Go.Proofs.Ytfdekhhlkieekaa.At
set_option linter.unusedVariables false

abbrev fstN (l : List (Int × Int)) (i : Nat) : Int := (l.getD i (0, 0)).1
abbrev sndN (l : List (Int × Int)) (i : Nat) : Int := (l.getD i (0, 0)).2
/-- What the list holds while numbers from i down are still to come. -/
structure Fall (l : List (Int × Int)) (i : Nat) : Prop where
  len : l.length + i ≤ 5
  all : ∀ p ∈ l, (i : Int) < p.1 ∧ p.1 ≤ 5 ∧ 0 ≤ p.2 ∧ p.2 ≤ 8
  ne : l.Pairwise fun p q => p.1 ≠ q.1
theorem Fall.step {l : List (Int × Int)} {i : Nat} (h : Fall l (i + 1)) {x : Int} (x0 : 0 ≤ x) (x1 : x ≤ 8) : Fall (l ++ [((i : Int) + 1, x)]) i := by
  have hl := h.len
  refine ⟨by simp; omega, fun p hp => ?_, ?_⟩
  · rcases List.mem_append.1 hp with h' | h'
    · have := h.all p h'; omega
    · simp at h'; subst h'; simp; omega
  · rw [List.pairwise_append]
    refine ⟨h.ne, by simp, fun p hp q hq => ?_⟩
    simp at hq; subst hq
    have := h.all p hp
    show p.1 ≠ (i : Int) + 1
    omega
theorem getD_mem {l : List (Int × Int)} {i : Nat} (h : i < l.length) : l.getD i (0, 0) ∈ l := by rw [List.getD_eq_getElem?_getD, List.getElem?_eq_getElem h]; exact List.getElem_mem h
theorem Fall.ok {l : List (Int × Int)} {i : Nat} (h : Fall l i) : okL l.length (fstN l) (sndN l) = true := by
  have hl := h.len
  refine decide_eq_true ⟨by omega, fun k hk => ?_, fun k hk j hj => ?_⟩
  · have := h.all _ (getD_mem hk)
    exact okI_yes (by unfold fstN sndN; omega)
  · have hn := List.pairwise_iff_getElem.1 h.ne j k (by omega) hk hj
    unfold fstN
    rw [List.getD_eq_getElem?_getD, List.getD_eq_getElem?_getD, List.getElem?_eq_getElem hk, List.getElem?_eq_getElem (by omega : j < l.length)]
    exact hn
theorem Fall.weights {l : List (Int × Int)} {i : Nat} (h : Fall l i) : ∀ k, k < l.length → 0 ≤ sndN l k ∧ sndN l k ≤ 8 ∧ 1 ≤ fstN l k ∧ fstN l k ≤ 5 := fun k hk => by have := h.all _ (getD_mem hk); unfold sndN fstN; omega

/-- A list of items that a law draws. -/
def ItemsRes (B : Nat) (w : World) (e : Ending) (w' : World) : Prop := ∃ a c l, e = .returned (.slice a l.length c) ∧ Recs w' a l.length (fstN l) (sndN l) ∧ Fall l 0 ∧ Below B w w'

set_option maxRecDepth 100000 in
set_option maxHeartbeats 1000000 in
theorem l07Draw (B : Nat) (w : World) (h : Src w B 0) :
    Calls Try.prog 41 #[.pointer (some ⟨B, 0, none⟩)] w (ItemsRes B w) := by
  obtain ⟨i0, hi, hz0, hz1, hz2⟩ := info_parts info39
  have LB := h.lt
  have h1 := h.below (lay w (.cells #[] 30))
  have O0 : (w.alloc (.cells #[] 30)).ownsRow w.heap.size 30 2 (.slice (some ⟨w.heap.size, 0, none⟩) 0 0) 0 [] := World.ownsRow_made _ _ _ (Nat.le_refl _) (by unfold maxLen; omega) (by simp)
  have B0 : Below B w (w.alloc (.cells #[] 30)) := (lay _ _).mono (by omega)
  clear h
  go_enter Try.func41, Try.ntmps41
  go_wp2_with fail
  refine (pick B 0 6 (by omega) (by omega) (by omega) _ h1).mono ?_
  rintro e w1 ⟨⟨r, r0, r1, rfl⟩, S1, G1⟩
  obtain ⟨p, rfl⟩ := Int.eq_ofNat_of_zero_le r0
  have O1 := O0.kept G1 (.inr (by simp [Value.ownBlock]; omega))
  have B1 := B0.grown G1 (by simp; omega) (fun k hk => by cases hk; exact Nat.le_refl _)
  have R0 : ∃ (i : Nat) (l : List (Int × Int)), Value.int .i64 (p : Int) = .int .i64 i ∧ Fall l i ∧ w1.ownsRow w.heap.size 30 2 (.slice (some ⟨w.heap.size, 0, none⟩) 0 0) l.length (cellsT l) ∧ Src w1 B (12 - 2 * i) ∧ Below B w w1 ∧ w.heap.size ≤ w1.heap.size :=
    ⟨p, [], rfl, ⟨by simp; omega, by simp, by simp⟩, O1, S1.mono (by omega), B1, B1.size⟩
  have R0 := Lib.hid R0
  clear O0 B0 O1 B1 S1 G1 h1
  go_wp2
  go_loopw [3, 4] (fun v x wr => ∃ (i : Nat) (l : List (Int × Int)), x = .int .i64 i ∧ Fall l i ∧ wr.ownsRow w.heap.size 30 2 v l.length (cellsT l) ∧ Src wr B (12 - 2 * i) ∧ Below B w wr ∧ w.heap.size ≤ wr.heap.size) (fun _ x _ => (intOf x).toNat)
  case atStart => exact R0.out
  case round =>
    obtain ⟨i, l, rfl, FL, ho, S, hw, hsz⟩ := hrel
    clear R0
    have LL := FL.len
    rcases i with _ | i
    · obtain ⟨av, cv, rfl⟩ := own_shape ho
      have R := Lib.hid (show ItemsRes B w (.returned (.slice av l.length cv)) wr from ⟨av, cv, l, rfl, recs_own ho, FL, hw⟩)
      clear ho S hw FL
      go_wp2
      go_ret
      exact R.out
    · have FH := Lib.hid FL
      have OH := Lib.hid ho
      have HW := Lib.hid hw
      clear FL ho hw
      go_wp2_with fail
      refine (pick B _ 9 (by omega) (by omega) (by omega) _ S).mono ?_
      rintro e w2 ⟨⟨x, x0, x1, rfl⟩, S2, G2⟩
      have FS := Lib.hid (FH.out.step x0 (by omega))
      have hb0 := Lib.hid (OH.out.lt)
      have O2 := OH.out.kept G2 (by by_cases q : u3.ownBlock = none; exact .inl q; exact .inr (by rcases hq : u3.ownBlock with _ | k; simp; have := (hb0.out k hq).1; simp; omega))
      have hsz2 : w.heap.size ≤ w2.heap.size := Nat.le_trans hsz G2.size
      have S3 := Lib.hid ((S2.mono (show 12 - 2 * ((i + 1 : Nat) : Int) + 2 ≤ 12 - 2 * (i : Int) by omega)).below (lay w2 (.cells #[.int .i64 ((i : Int) + 1), .int .i64 x] 30)))
      have B2 := Lib.hid ((HW.out.grown G2 (by omega) (fun k hk => by cases hk; exact Nat.le_refl _)).alloc (show B ≤ w2.heap.size by omega) (.cells #[.int .i64 ((i : Int) + 1), .int .i64 x] 30))
      have O3 := Lib.hid (O2.alloc (.cells #[.int .i64 ((i : Int) + 1), .int .i64 x] 30))
      clear S S2 G2 O2
      go_wp2_with (at_builtin; refine wpList_append_own _ rfl (.tmp 12) (.tmp 17) 23 rfl w.heap.size 30 i0 (.agg #[.int .i64 0, .int .i64 0]) 2 16 Try.underlying23 hi hz0 hz1 hz2 rfl (by decide) u3 l.length (cellsT l) rfl O3.out ⟨w2.heap.size, 0, none⟩ 1 1 [.int .i64 ((i : Int) + 1), .int .i64 x] rfl rfl (by intro j u hu; match j, hu with | 0, hu => (simp at hu; subst hu; simp [Addr.add]) | 1, hu => (simp at hu; subst hu; simp [Addr.add]) | (j + 2), hu => simp at hu) (by intro u hu; simp at hu; rcases hu with rfl | rfl <;> rfl) (by unfold maxLen; omega) (by omega) (by simp; omega) ?_; intro v' w3 ho3 hgr3 _)
      have hob := hb0.out
      have B4 := Lib.hid (B2.out.grown hgr3 (by simp; omega) (fun k hk => by have := (hob k hk).1; omega))
      have O4 := Lib.hid ho3
      have S4 := Lib.hid (S3.out.grown hgr3 (fun k hk => by have := (hob k hk).1; omega))
      have hz4 : w.heap.size ≤ w3.heap.size := by have := hgr3.size; simp at this; omega
      clear ho3 hgr3 O3 OH hob
      go_roundw
      case rel => exact ⟨i, l ++ [((i : Int) + 1, x)], by go_num, FS.out, by rw [cellsT_snoc, List.length_append]; exact O4.out, S4.out, B4.out, hz4⟩
      case measure => simp [intOf]

set_option maxRecDepth 100000 in
theorem A8Items (a : Option Addr) (len cap : Nat) (f : Nat → Int) (hl : len ≤ 2000000) (w : World) (h : Byts w a len f) :
    Calls Try.prog 12 #[.slice a len cap] w (ItemsRes w.heap.size w) := by
  go_enter Try.func12, Try.ntmps12
  go_wp2_with fail
  refine (l00From a len cap f hl _ h).mono ?_
  rintro e w1 ⟨rfl, S1, B1⟩
  have B1 := Lib.hid B1
  go_wp2_with fail
  refine (l07Draw w.heap.size _ S1).mono ?_
  rintro e w2 ⟨a2, c2, l, rfl, R, FL, B2⟩
  have F := Lib.hid (show ItemsRes w.heap.size w (.returned (.slice a2 l.length c2)) w2 from ⟨a2, c2, l, rfl, R, FL, B1.out.trans B2⟩)
  clear R FL B2 S1 h
  go_wp2
  go_ret
  exact F.out
end Go.Proofs.Ytfdekhhlkieekaa.Ch
