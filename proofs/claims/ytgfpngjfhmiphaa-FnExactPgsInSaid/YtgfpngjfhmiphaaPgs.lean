/-
  The placement groups of a pool: the program's function and the model's; the exact law of PgsIn.
-/
import Derived.Test.YtgfpngjfhmiphaaLawPool
import Derived.Test.YtgfpngjfhmiphaaChoose
import Derived.Test.YtgfpngjfhmiphaaMarkItem
import Derived.Test.YtgfpngjfhmiphaaTchz
import Derived.Test.YtgfpngjfhmiphaaTchs
namespace Go.Proofs.Ytgfpngjfhmiphaa.Po
open Go.RowKit Go.Proofs.Ytgfpngjfhmiphaa.GfI Go.Proofs.Ytgfpngjfhmiphaa.GfS Go.Proofs.Ytgfpngjfhmiphaa.Cd
open Go.Proofs.Ytgfpngjfhmiphaa.Sg (BxN)
open Go.Proofs.Ytgfpngjfhmiphaa.Rc (Recs Rnd Copied2 There grown_set)
open Go.Proofs.Ytgfpngjfhmiphaa.Ch (cellsT cellsT_snoc cellsT_len recs_own own_shape)
set_option linter.unusedVariables false
set_option linter.unusedSimpArgs false

theorem infoPg : (Try.prog.info? 128).map (fun i => (i.zero, i.size, i.bytes)) = some (some (.agg #[.int .i64 0, .int .i64 0]), 2, 16) := by kernel_rfl
/-- The groups' numbers: all of pool i, from 0 on. -/
def pf (i : Int) (_ : Nat) : Int := i
def pg (k : Nat) : Int := k
def pl (i : Int) (k : Nat) : List (Int × Int) := (List.range k).map fun (t : Nat) => (i, (t : Int))
theorem pl_snoc (i : Int) (k : Nat) : pl i (k + 1) = pl i k ++ [(i, (k : Int))] := by unfold pl; rw [List.range_succ, List.map_append]; rfl
theorem pl_len (i : Int) (k : Nat) : (pl i k).length = k := by simp [pl]
theorem pl_recs {w : World} {a : Option Addr} {i : Int} {k : Nat} (h : Recs w a k (fun t => ((pl i k).getD t (0, 0)).1) (fun t => ((pl i k).getD t (0, 0)).2)) : Recs w a k (pf i) pg := by
  refine Tm.recs_congr h (fun t ht => ?_)
  have e : (pl i k).getD t (0, 0) = (i, (t : Int)) := by
    rw [List.getD_eq_getElem?_getD]; unfold pl; rw [List.getElem?_map, List.getElem?_range ht]; rfl
  exact ⟨congrArg Prod.fst e, congrArg Prod.snd e⟩

def PgsR (i : Int) (n : Nat) (w : World) (e : Ending) (w' : World) : Prop := ∃ q, e = .returned (.slice (some ⟨q, 0, none⟩) n n) ∧ Copied2 w w' q n (pf i) pg
set_option maxRecDepth 100000 in
set_option maxHeartbeats 1000000 in
theorem pgs (i k m n : Int) (g : Nat) (r : Int) (hg : g ≤ 16) (w : World) :
    Calls Try.prog 87 #[pval i k m n g r] w (PgsR i g w) := by
  obtain ⟨i0, hi, hz0, hz1, hz2⟩ := info_parts infoPg
  have X := Lib.hid (BxN.new w #[.int .i64 i, .int .i64 k, .int .i64 m, .int .i64 n, .int .i64 g, .int .i64 r] 70)
  have L := Lib.hid (lay w (.cells #[.int .i64 i, .int .i64 k, .int .i64 m, .int .i64 n, .int .i64 g, .int .i64 r] 70))
  have SZ : (w.alloc (.cells #[.int .i64 i, .int .i64 k, .int .i64 m, .int .i64 n, .int .i64 g, .int .i64 r] 70)).heap.size = w.heap.size + 1 := World.size_alloc _ _
  generalize hW : w.alloc (.cells #[.int .i64 i, .int .i64 k, .int .i64 m, .int .i64 n, .int .i64 g, .int .i64 r] 70) = W at *
  have WH := Lib.hid hW
  clear hW
  have x4 := X.out.cells 4 _ rfl
  have x0 := X.out.cells 0 _ rfl
  go_enter Try.func87, Try.ntmps87
  go_wp2_with (at_make; rw [WH.out]; refine wpList_make_full _ rfl _ _ 65 rfl W.heap.size 128 i0 (.agg #[.int .i64 0, .int .i64 0]) 2 Try.underlying65 hi hz0 hz1 .i64 .i64 g g g rfl rfl rfl rfl (by rw [hz2]; omega) (by unfold maxLen; omega) (Nat.le_refl _) ?_; intro w1 hown1 hgrow1; have R1 := Lib.hid (show Rnd W w1 (w.heap.size + 1) g 0 (pf i) pg from by rw [← SZ]; exact Rnd.made hown1 (pf i) pg ((Below.refl _ _).grown hgrow1 (Nat.le_refl _) (by intro k hk; cases hk))); have X1 := X.out.later R1.out.below; have y4 := X1.cells 4 _ rfl; clear hown1 hgrow1)
  go_loopw [10] (fun x wr => ∃ t : Nat, t ≤ g ∧ x = .int .i64 t ∧ Rnd W wr (w.heap.size + 1) g t (pf i) pg) (fun x _ => g - (intOf x).toNat)
  case atStart => exact ⟨0, by omega, rfl, R1.out⟩
  case round =>
    clear R1 X1 y4 x4 x0
    obtain ⟨t, ht, rfl, R⟩ := hrel
    have RH := Lib.hid R
    have XR := X.out.later R.below
    have x0 := XR.cells 0 _ rfl
    by_cases hlt : t < g
    · obtain ⟨u0, d0⟩ := R.there (t * 2) (by omega)
      obtain ⟨u1, d1⟩ := R.there (t * 2 + 1) (by omega)
      have f0 := R.free (t * 2)
      have f1 := R.free (t * 2 + 1)
      have R3 := Lib.hid (show Rnd W ((wr.setCell ⟨w.heap.size + 1, t * 2, none⟩ (.int .i64 i)).setCell ⟨w.heap.size + 1, t * 2 + 1, none⟩ (.int .i64 t)) (w.heap.size + 1) g (t + 1) (pf i) pg from R.put hlt)
      clear R RH XR
      go_wp2
      go_roundw
      case rel => exact ⟨t + 1, by omega, by go_num, R3.out⟩
      case measure => simp [intOf]; omega
    · obtain rfl : t = g := by omega
      have F := Lib.hid (show PgsR i t w (.returned (.slice (some ⟨w.heap.size + 1, 0, none⟩) t t)) wr from by
        have C := R.done
        exact ⟨_, rfl, ⟨Nat.le_trans L.out.size C.new, C.lt, C.cells, C.free, chain L.out C.below⟩⟩)
      clear R RH
      go_wp2
      go_ret
      exact F.out

def ListP (i : Int) (n : Nat) (w : World) (e : Ending) (w' : World) : Prop := ∃ a c, e = .returned (.slice a n c) ∧ Recs w' a n (pf i) pg ∧ Below w.heap.size w w'
set_option maxRecDepth 100000 in
set_option maxHeartbeats 1000000 in
theorem l09Pgs (i k m n : Int) (g : Nat) (r : Int) (hg : g ≤ 16) (w : World) :
    Calls Try.prog 84 #[pval i k m n g r] w (ListP i g w) := by
  obtain ⟨i0, hi, hz0, hz1, hz2⟩ := info_parts infoPg
  have X := Lib.hid (BxN.new w #[.int .i64 i, .int .i64 k, .int .i64 m, .int .i64 n, .int .i64 g, .int .i64 r] 70)
  have L := Lib.hid (lay w (.cells #[.int .i64 i, .int .i64 k, .int .i64 m, .int .i64 n, .int .i64 g, .int .i64 r] 70))
  have O0 := Lib.hid (show ((w.alloc (.cells #[.int .i64 i, .int .i64 k, .int .i64 m, .int .i64 n, .int .i64 g, .int .i64 r] 70)).alloc (.cells #[] 128)).ownsRow (w.heap.size + 1) 128 2 (.slice (some ⟨w.heap.size + 1, 0, none⟩) 0 0) 0 [] from by
    have := World.ownsRow_made (w.alloc (.cells #[.int .i64 i, .int .i64 k, .int .i64 m, .int .i64 n, .int .i64 g, .int .i64 r] 70)) (e := 128) (size := 2) (base := w.heap.size + 1) #[] 0 (by rw [World.size_alloc]; exact Nat.le_refl _) (by unfold maxLen; omega) (by simp)
    rwa [World.size_alloc] at this)
  have L1 := Lib.hid (chain L.out (lay _ (.cells #[] 128)))
  have X0 := Lib.hid (X.out.later (lay _ (.cells #[] 128)))
  go_enter Try.func84, Try.ntmps84
  go_wp2
  go_loopw [3, 4] (fun v x wr => ∃ t : Nat, t ≤ g ∧ x = .int .i64 t ∧ wr.ownsRow (w.heap.size + 1) 128 2 v (pl i t).length (cellsT (pl i t)) ∧ BxN wr w.heap.size [.int .i64 i, .int .i64 k, .int .i64 m, .int .i64 n, .int .i64 g, .int .i64 r] ∧ Below w.heap.size w wr) (fun _ x _ => g - (intOf x).toNat)
  case atStart => exact ⟨0, by omega, rfl, O0.out, X0.out, L1.out⟩
  case round =>
    clear O0 L1 X0
    obtain ⟨t, ht, rfl, J, XR, hw⟩ := hrel
    have XH := Lib.hid XR
    have XL := XR.lt
    have x0 := XR.cells 0 _ rfl
    have x4 := XR.cells 4 _ rfl
    have JH := Lib.hid J
    have WR := Lib.hid hw
    have PS := Lib.hid (pl_snoc i t)
    have PL := Lib.hid (pl_len i t)
    by_cases hlt : t < g
    · have PL' : (pl i t).length ≤ 16 := by rw [PL.out]; omega
      have LE := hw.size
      have hob := Lib.hid (JH.out.lt)
      have O3 := Lib.hid (J.alloc (.cells #[.int .i64 i, .int .i64 t] 128))
      have B3 := Lib.hid (hw.alloc hw.size (.cells #[.int .i64 i, .int .i64 t] 128))
      clear J hw XR
      generalize pl i t = l at *
      go_wp2_with (at_builtin; refine wpList_append_own _ rfl (.tmp 12) (.tmp 17) 65 rfl (w.heap.size + 1) 128 i0 (.agg #[.int .i64 0, .int .i64 0]) 2 16 Try.underlying65 hi hz0 hz1 hz2 rfl (by decide) _ l.length (cellsT l) rfl O3.out ⟨wr.heap.size, 0, none⟩ 1 1 [.int .i64 i, .int .i64 t] rfl rfl (by intro j u hu; match j, hu with | 0, hu => (simp at hu; subst hu; simp [Addr.add]) | 1, hu => (simp at hu; subst hu; simp [Addr.add]) | (j + 2), hu => simp at hu) (by intro u hu; simp at hu; rcases hu with rfl | rfl <;> rfl) (by unfold maxLen; omega) (by omega) (by simp; omega) ?_; intro v' w3 ho3 hgr3 _)
      have X4 := Lib.hid ((XH.out.later (lay _ _)).grown hgr3 (fun c hc e => by have := (hob.out c hc).1; omega))
      have B4 := Lib.hid (B3.out.grown hgr3 (by simp; omega) (fun k hk => by have := (hob.out k hk).1; omega))
      have O4 := Lib.hid ho3
      clear ho3 hgr3 O3 JH
      go_roundw
      case rel => exact ⟨t + 1, by omega, by go_num, by rw [PS.out, cellsT_snoc, List.length_append]; exact O4.out, X4.out, B4.out⟩
      case measure => simp [intOf]; omega
    · obtain rfl : t = g := by omega
      obtain ⟨av, cv, rfl⟩ := own_shape J
      have F := Lib.hid (show ListP i t w (.returned (.slice av (pl i t).length cv)) wr from by
        have R := recs_own J
        rw [PL.out] at R ⊢
        exact ⟨av, cv, rfl, pl_recs R, WR.out⟩)
      clear J JH hw XR
      go_wp2
      go_ret
      exact F.out

set_option maxRecDepth 100000 in
theorem eqPg (x y : Int) (w : World) :
    Calls Try.prog 88 #[.agg #[.int .i64 x, .int .i64 y], .agg #[.int .i64 x, .int .i64 y]] w (Rc.TrueB w) := by
  go_enter Try.func88, Try.ntmps88
  go_wp2
  go_ret
  exact ⟨rfl, ((Below.refl _ _).alloc (Nat.le_refl _) _).alloc (by simp) _⟩
set_option maxRecDepth 100000 in
set_option maxHeartbeats 1000000 in
theorem eqPgS (a b : Option Addr) (cap1 cap2 n : Nat) (f g : Nat → Int) (w : World) (hl : n ≤ 2097152) (ha : Recs w a n f g) (hb : Recs w b n f g) :
    Calls Try.prog 38 #[.slice a n cap1, .slice b n cap2] w (Rc.TrueB w) := by
  go_enter Try.func38, Try.ntmps38
  go_wp2
  go_loopw [5] (fun i wr => ∃ k : Nat, k ≤ n ∧ i = .int .i64 k ∧ Below w.heap.size w wr) (fun i _ => n - (intOf i).toNat)
  case atStart => exact ⟨0, by omega, rfl, Below.refl _ _⟩
  case round =>
    obtain ⟨k, hk, rfl, hw⟩ := hrel
    by_cases hlt : k < n
    · have ha1 := ha.below hw
      have hb1 := hb.below hw
      obtain ⟨b1, o1, rfl, _, c1⟩ := ha1.resolve_left (by omega)
      obtain ⟨b2, o2, rfl, _, c2⟩ := hb1.resolve_left (by omega)
      obtain ⟨d0, d1⟩ := c1 k hlt
      obtain ⟨e0, e1⟩ := c2 k hlt
      have HW := Lib.hid hw
      generalize f k = x at *
      generalize g k = y at *
      clear hw c1 c2 ha hb ha1 hb1
      go_wp2
      go_region_with (go_at_call 88; refine (eqPg x y _).mono ?_; rintro e w2 ⟨rfl, b2⟩; have B2 := Lib.hid (HW.out.trans ((undrew b2).mono HW.out.size)))
      all_goals
        go_wp2
        go_roundw
        case rel => exact ⟨k + 1, by omega, by go_num, B2.out⟩
        case measure => simp [intOf]; omega
    · obtain rfl : k = n := by omega
      have HW := Lib.hid hw
      clear hw
      go_wp2
      go_ret
      exact ⟨rfl, HW.out⟩

/-- The first k marks. -/
def Mk2 (w : World) (q k : Nat) : Prop := ∀ j : Nat, j < k * 2 → w.cell? ⟨q, j, none⟩ = some (.int .i64 (1 + j))
def MarkP (q n : Nat) (w : World) (e : Ending) (w' : World) : Prop := e = .returned (.int .i64 (1 + 2 * n)) ∧ Mk2 w' q n ∧ q < w'.heap.size ∧ w.grownBy w' (some q)
theorem Mk2.put {w : World} {q n k : Nat} (h : Mk2 w q k) (T : There w q n) (hk : k < n) : Mk2 ((w.setCell ⟨q, k * 2, none⟩ (.int .i64 (1 + 2 * k))).setCell ⟨q, k * 2 + 1, none⟩ (.int .i64 (1 + 2 * k + 1))) q (k + 1) := by
  intro j hj
  obtain ⟨u0, e0⟩ := T.there (k * 2) (by omega)
  obtain ⟨u1, e1⟩ := T.there (k * 2 + 1) (by omega)
  by_cases q1 : j = k * 2 + 1
  · subst q1
    rw [World.cell?_setCell_same _ ⟨q, k * 2 + 1, none⟩ _ ((World.cell?_setCell_other _ _ _ _ (by simp)).trans e1)]
    congr 2; omega
  · rw [World.cell?_setCell_other _ _ _ _ (fun e => q1 (congrArg Addr.off e).symm)]
    by_cases q0 : j = k * 2
    · subst q0
      rw [World.cell?_setCell_same _ ⟨q, k * 2, none⟩ _ e0]
      congr 2; omega
    · rw [World.cell?_setCell_other _ _ _ _ (fun e => q0 (congrArg Addr.off e).symm)]
      exact h j (by omega)
set_option maxRecDepth 100000 in
set_option maxHeartbeats 1000000 in
theorem markPgS (q cap n : Nat) (hn : n ≤ 2097152) (w : World) (h : There w q n) :
    Calls Try.prog 39 #[.slice (some ⟨q, 0, none⟩) n cap, .int .i64 1] w (MarkP q n w) := by
  go_enter Try.func39, Try.ntmps39
  go_wp2
  go_loopw [1, 5] (fun m i wr => ∃ k : Nat, k ≤ n ∧ i = .int .i64 k ∧ m = .int .i64 (1 + 2 * k) ∧ There wr q n ∧ Mk2 wr q k ∧ w.grownBy wr (some q)) (fun _ i _ => n - (intOf i).toNat)
  case atStart => exact ⟨0, by omega, rfl, by simp, h, fun j hj => by omega, ⟨rfl, rfl, rfl, Nat.le_refl _, fun _ _ _ => rfl⟩⟩
  case round =>
    obtain ⟨k, hk, rfl, rfl, T, M, G⟩ := hrel
    by_cases hlt : k < n
    · obtain ⟨u0, c0⟩ := T.there (k * 2) (by omega)
      have f0 := T.free (k * 2)
      have T1 := T.put (k * 2) (by omega) (.int .i64 (1 + 2 * k))
      obtain ⟨u1, c1⟩ := T1.there (k * 2 + 1) (by omega)
      have f1 := T1.free (k * 2 + 1)
      have T2 := Lib.hid (T1.put (k * 2 + 1) (by omega) (.int .i64 (1 + 2 * k + 1)))
      have M2 := Lib.hid (M.put T hlt)
      have G2 := Lib.hid (grown_set (grown_set G (k * 2) (.int .i64 (1 + 2 * k))) (k * 2 + 1) (.int .i64 (1 + 2 * k + 1)))
      clear T T1 G h M
      go_wp2
      go_roundw
      case rel => exact ⟨k + 1, by omega, by go_num, by go_num, T2.out, M2.out, G2.out⟩
      case measure => simp [intOf]; omega
    · obtain rfl : k = n := by omega
      have F := Lib.hid (show MarkP q k w (.returned (.int .i64 (1 + 2 * k))) wr from ⟨rfl, M, T.lt, G⟩)
      clear G T M
      go_wp2
      go_ret
      exact F.out
set_option maxRecDepth 100000 in
set_option maxHeartbeats 1000000 in
theorem heldPgS (q cap n : Nat) (hn : n ≤ 2097152) (w : World) (h : Mk2 w q n) :
    Calls Try.prog 40 #[.slice (some ⟨q, 0, none⟩) n cap, .int .i64 1] w fun e w' => e = .returned (.int .i64 (1 + 2 * n)) ∧ w = w' := by
  have H := Lib.hid h
  clear h
  go_enter Try.func40, Try.ntmps40
  go_wp2
  go_loop [1, 5] (fun m i => ∃ k : Nat, k ≤ n ∧ i = .int .i64 k ∧ m = .int .i64 (1 + 2 * k)) (fun _ i => n - (intOf i).toNat)
  case atStart => exact ⟨0, by omega, rfl, by simp⟩
  case round =>
    obtain ⟨k, hk, rfl, rfl⟩ := hrel
    by_cases hlt : k < n
    · have c0 := H.out (k * 2) (by omega)
      have c1 := H.out (k * 2 + 1) (by omega)
      rw [show (1 : Int) + ((k * 2 : Nat) : Int) = 1 + 2 * k by omega] at c0
      rw [show (1 : Int) + ((k * 2 + 1 : Nat) : Int) = 1 + 2 * k + 1 by omega] at c1
      go_wp2
      go_round
      case rel => exact ⟨k + 1, by omega, by go_num, by go_num⟩
      case measure => simp [intOf]; omega
    · obtain rfl : k = n := by omega
      go_wp2
      go_ret
      exact ⟨rfl, rfl⟩
set_option maxRecDepth 100000 in
theorem markPg0 (a : Option Addr) (cap : Nat) (w : World) :
    Calls Try.prog 39 #[.slice a 0 cap, .int .i64 1] w fun e w' => e = .returned (.int .i64 1) ∧ w = w' := by
  go_enter Try.func39, Try.ntmps39
  go_wp2
  go_loop [1, 5] (fun m i => i = .int .i64 0 ∧ m = .int .i64 1) (fun _ _ => 0)
  case atStart => exact ⟨rfl, rfl⟩
  case round =>
    obtain ⟨rfl, rfl⟩ := hrel
    go_wp2
    go_ret
    exact ⟨rfl, rfl⟩
set_option maxRecDepth 100000 in
theorem heldPg0 (a : Option Addr) (cap : Nat) (w : World) :
    Calls Try.prog 40 #[.slice a 0 cap, .int .i64 1] w fun e w' => e = .returned (.int .i64 1) ∧ w = w' := by
  go_enter Try.func40, Try.ntmps40
  go_wp2
  go_loop [1, 5] (fun m i => i = .int .i64 0 ∧ m = .int .i64 1) (fun _ _ => 0)
  case atStart => exact ⟨rfl, rfl⟩
  case round =>
    obtain ⟨rfl, rfl⟩ := hrel
    go_wp2
    go_ret
    exact ⟨rfl, rfl⟩
end Go.Proofs.Ytgfpngjfhmiphaa.Po
