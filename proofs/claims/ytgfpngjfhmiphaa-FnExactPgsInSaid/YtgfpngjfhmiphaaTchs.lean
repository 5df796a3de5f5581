/-
  A choice among the items of a bucket: the model's functions; ChooseIn in both.
-/
import Derived.Test.YtgfpngjfhmiphaaTchz
namespace Go.Proofs.Ytgfpngjfhmiphaa.Tm
open Go.RowKit Go.Proofs.Ytgfpngjfhmiphaa.GfI Go.Proofs.Ytgfpngjfhmiphaa.GfS Go.Proofs.Ytgfpngjfhmiphaa.MixC
open Go.Proofs.Ytgfpngjfhmiphaa.It (lay chain okI okI_yes Two)
open Go.Proofs.Ytgfpngjfhmiphaa.Ch (chA chB implChoose1 l07Choose IntBoolB tsN sel cellsT cellsT_snoc recs_own own_shape)
open Go.Proofs.Ytgfpngjfhmiphaa.Rc (Recs Rnd)
open Go.Proofs.Ytgfpngjfhmiphaa.Bk (Bks tval bval)
open Go.Proofs.Ytgfpngjfhmiphaa.Sg (BxN)
set_option linter.unusedVariables false
set_option linter.unusedSimpArgs false

theorem recs_congr {w : World} {a : Option Addr} {n : Nat} {f g f' g' : Nat → Int} (h : Recs w a n f g) (e : ∀ i, i < n → f i = f' i ∧ g i = g' i) : Recs w a n f' g' := by
  rcases h with h | ⟨b, off, rfl, hB, hc⟩
  · exact .inl h
  · exact .inr ⟨b, off, rfl, hB, fun i hi => by rw [← (e i hi).1, ← (e i hi).2]; exact hc i hi⟩
def prs (T : TD) (l : List Int) : List (Int × Int) := l.map (fun y => (y, wt T 4 y))
theorem prs_recs {T : TD} {l : List Int} {w : World} {base e c : Nat} {a : Option Addr} (h : w.ownsRow base e 2 (.slice a (prs T l).length c) (prs T l).length (cellsT (prs T l))) : Recs w a l.length (itF l) (itG T l) := by
  have R := recs_own h
  have hl : (prs T l).length = l.length := by unfold prs; rw [List.length_map]
  rw [hl] at R
  refine recs_congr R (fun i hi => ?_)
  have e1 : (prs T l).getD i (0, 0) = (l.getD i 0, wt T 4 (l.getD i 0)) := by
    unfold prs
    rw [List.getD_eq_getElem?_getD, List.getElem?_map, List.getD_eq_getElem?_getD, List.getElem?_eq_getElem hi]; rfl
  first
    | (rw [e1]; exact ⟨rfl, rfl⟩)
    | exact ⟨congrArg Prod.fst e1, congrArg Prod.snd e1⟩

set_option maxRecDepth 100000 in
set_option maxHeartbeats 4000000 in
theorem l07In (T : TD) (Z : T.Sz) (O : T.Ok) (x seed try' : Int) (A : TA) (w : World) (h : TIn w T A) :
    Calls Try.prog 65 #[A.val T, .int .i64 x, .int .i64 seed, .int .i64 try'] w (IntBoolB (ciA T x seed try') (decide (ciB T x seed try' = 0)) w) := by
  have LH := Lib.hid (lay w (.cells #[.slice A.da T.dn A.dc, .slice A.ba T.bn A.bc] 33))
  have X := Lib.hid (BxN.new w #[.slice A.da T.dn A.dc, .slice A.ba T.bn A.bc] 33)
  have BK := Lib.hid (l06Bucket T A x _ Z (h.below LH.out))
  cases hx : ix T.bf x T.bn with
  | none =>
    have e1 : ciA T x seed try' = 0 := by unfold ciA; rw [hx]
    have e2 : ciB T x seed try' = 3 := by unfold ciB; rw [hx]
    rw [e1, e2, show decide ((3 : Int) = 0) = false from rfl]
    have E : ixI T.bf x T.bn = -1 := by unfold ixI; rw [hx]
    rw [E] at BK
    clear h Z hx E e1 e2 O
    obtain ⟨da, dc, ba, bc, I, C⟩ := A
    dsimp only at LH X BK ⊢
    go_enter Try.func65, Try.ntmps65
    go_wp2_with fail
    refine BK.out.mono ?_
    rintro e w1 ⟨rfl, b1⟩
    have B1 := Lib.hid (chain LH.out b1)
    clear b1
    go_wp2
    go_ret2
    exact ⟨rfl, B1.out⟩
  | some j =>
    obtain ⟨i0, hi, hz0, hz1, hz2⟩ := info_parts infoIt
    obtain ⟨hj, hjx, -⟩ := ix_some hx
    have e1 : ciA T x seed try' = chA (T.L j).length (itF (T.L j)) (itG T (T.L j)) seed try' := by unfold ciA; rw [hx]
    have e2 : decide (ciB T x seed try' = 0) = !decide ((tsN (itF (T.L j)) (itG T (T.L j)) seed try' (T.L j).length).length = 0) := by
      unfold ciB chB; rw [hx]; dsimp only; split <;> simp_all
    rw [e1, e2]
    have E : ixI T.bf x T.bn = j := by unfold ixI; rw [hx]
    rw [E] at BK
    have CH := Lib.hid (fun a c w' (R : Recs w' a (T.L j).length (itF (T.L j)) (itG T (T.L j))) => l07Choose a c (T.L j).length (itF (T.L j)) (itG T (T.L j)) seed try' w' (by have := (O.bkt.each j hj).2.2.2.2; omega) R (it_ok O hj))
    have WT := Lib.hid (fun y (hy : y ∈ T.L j) w' (b : Below w.heap.size w w') => l06Weight T Z O y A w' (kd_up O hj hy).1 (h.below b))
    have L8 := (O.bkt.each j hj).2.2.2.2
    have B12 := O.bkt.n
    have HB := Lib.hid h.bkts
    clear h Z hx E e1 e2 hjx O
    generalize chA (T.L j).length (itF (T.L j)) (itG T (T.L j)) seed try' = r0 at *
    generalize (!decide ((tsN (itF (T.L j)) (itG T (T.L j)) seed try' (T.L j).length).length = 0)) = r1 at *
    obtain ⟨da, dc, ba, bc, I, C⟩ := A
    dsimp only at LH X BK HB WT ⊢
    obtain ⟨dn, hdn⟩ : ∃ dn, dn = T.dn := ⟨_, rfl⟩
    obtain ⟨bn, hbn⟩ : ∃ bn, bn = T.bn := ⟨_, rfl⟩
    have EV : ∀ a b c d I C, TA.val ⟨a, b, c, d, I, C⟩ T = tval (.slice a dn b) (.slice c bn d) := fun _ _ _ _ _ _ => by rw [hdn, hbn]
    rw [EV] at BK WT ⊢
    simp only [← hdn, ← hbn] at LH X BK
    rw [← hbn] at hj B12
    have HB2 : Hid (Bks w ba bn T.bf T.bg I T.L C) := by show Bks _ _ _ _ _ _ _ _; rw [hbn]; exact HB.out
    clear HB hdn hbn
    obtain ⟨b, off, rfl, hB, hcc⟩ := HB2.out.resolve_left (by omega)
    have m2 := (hcc j hj).2.2.1
    have WJ := Lib.hid (hcc j hj).2.2.2
    generalize T.L j = l at *
    obtain ⟨n, hn⟩ : ∃ n, n = l.length := ⟨_, rfl⟩
    rw [← hn] at m2 L8 CH
    have HN := Lib.hid hn
    have M2 := Lib.hid (fun w' (bl : Below w.heap.size w w') => (bl.cell (p := ⟨b, off + j * 3 + 2, none⟩) hB).trans m2)
    clear hcc m2 hB hn HB2
    generalize I j = ij at *
    generalize C j = cj at *
    go_enter Try.func65, Try.ntmps65
    go_wp2_with fail
    refine BK.out.mono ?_
    rintro e w1 ⟨rfl, b1⟩
    have B1 := Lib.hid (chain LH.out b1)
    have X1 := Lib.hid (X.out.later b1)
    have sz : w.heap.size + 1 ≤ w1.heap.size := by have := b1.size; rw [World.size_alloc] at this; exact this
    clear b1 BK X
    have N0 := Lib.hid (show BxN (w1.alloc (.cells #[] 160)) w.heap.size _ from X1.out.later (lay _ _))
    have NB := Lib.hid (chain B1.out (lay w1 (.cells #[] 160)))
    have J0 := Lib.hid (show (w1.alloc (.cells #[] 160)).ownsRow (w.heap.size + 1) 160 2 (.slice (some ⟨w1.heap.size, 0, none⟩) 0 0) 0 [] from World.ownsRow_made _ _ _ sz (by unfold maxLen; omega) (by simp))
    go_wp2
    go_loopw [11, 12] (fun v i wr => ∃ k : Nat, k ≤ n ∧ i = .int .i64 k ∧ wr.ownsRow (w.heap.size + 1) 160 2 v (prs T (l.take k)).length (cellsT (prs T (l.take k))) ∧ BxN wr w.heap.size [.slice da dn dc, .slice (some ⟨b, off, none⟩) bn bc] ∧ Below w.heap.size w wr) (fun _ i _ => n - (intOf i).toNat)
    case atStart => exact ⟨0, by omega, rfl, J0.out, N0.out, NB.out⟩
    case round =>
      clear N0 NB X1 B1 J0 sz
      obtain ⟨k, hk, rfl, J, XR, hw⟩ := hrel
      have x0 := XR.cells 0 _ rfl
      have x1 := XR.cells 1 _ rfl
      have c2 := M2.out _ hw
      have XH := Lib.hid XR
      have WH := Lib.hid hw
      have JH := Lib.hid J
      have XLT := XR.lt
      clear XR
      by_cases hlt : k < n
      · have hkl : k < l.length := by rw [← HN.out]; exact hlt
        obtain ⟨bi, oi, rfl, hBi, nums⟩ := WJ.out.resolve_left (by intro e; rw [e] at hkl; simp at hkl)
        have d := (hw.cell (p := ⟨bi, oi + k, none⟩) hBi).trans (nums k hkl)
        have WTC := Lib.hid (WT.out _ (getD_mem hkl))
        have PS := Lib.hid (show prs T (l.take (k + 1)) = prs T (l.take k) ++ [(l.getD k 0, wt T 4 (l.getD k 0))] from by rw [take_snoc _ _ hkl]; unfold prs; rw [List.map_append]; rfl)
        have PL : (prs T (l.take k)).length ≤ 8 := by unfold prs; rw [List.length_map, List.length_take]; omega
        clear nums hw J
        generalize prs T (l.take k) = pl at *
        generalize wt T 4 (l.getD k 0) = wv at *
        generalize l.getD k 0 = y at *
        go_wp2_with fail
        refine (WTC.out _ WH.out).mono ?_
        rintro e w3 ⟨rfl, b3⟩
        have B3 := Lib.hid (chain WH.out b3)
        have X3 := Lib.hid (XH.out.later b3)
        have J3 := Lib.hid ((JH.out.kept (row := none) ⟨b3.os, b3.tape, b3.output, b3.size, fun c hc _ => b3.block c hc⟩ (by cases u11.ownBlock with
          | none => exact .inl rfl
          | some z => right; simp)).alloc (.cells #[.int .i64 y, .int .i64 wv] 160))
        have sz3 : w.heap.size + 1 ≤ w3.heap.size := by have := X3.out.lt; omega
        clear b3 x0 x1 c2 d
        go_wp2_with (at_builtin; refine wpList_append_own _ rfl (.tmp 40) (.tmp 46) 159 rfl (w.heap.size + 1) 160 i0 (.agg #[.int .i64 0, .int .i64 0]) 2 16 Try.underlying159 hi hz0 hz1 hz2 rfl (by decide) u11 pl.length (cellsT pl) rfl J3.out ⟨w3.heap.size, 0, none⟩ 1 1 [.int .i64 y, .int .i64 wv] rfl rfl (cell_two_new _ _ _ _) (by intro u hu; simp at hu; rcases hu with rfl | rfl <;> rfl) (by unfold maxLen; omega) (by omega) (by simp; omega) ?_; intro v' w4 ho4 hg4 _)
        have hob := J3.out.lt
        have B4 := Lib.hid (((B3.out.alloc (by omega) _).grown hg4 (by rw [World.size_alloc]; omega) (fun c hc => by have := (hob c hc).1; omega)))
        have X4 := Lib.hid ((X3.out.later (lay _ _)).grown hg4 (fun c hc e => by have := (hob c hc).1; omega))
        have O4 := Lib.hid ho4
        clear ho4 hg4 J3 JH hob
        go_roundw
        case rel => exact ⟨k + 1, by omega, by go_num, by rw [PS.out, cellsT_snoc, List.length_append]; exact O4.out, X4.out, B4.out⟩
        case measure => simp [intOf]; omega
      · obtain rfl : k = n := by omega
        have E : l.take k = l := by rw [HN.out]; exact List.take_length
        rw [E] at J
        have pl : (prs T l).length = k := by unfold prs; rw [List.length_map, HN.out]
        obtain ⟨a, c, rfl⟩ := own_shape J
        have R := prs_recs J
        rw [pl]
        rw [← HN.out] at R
        have CC := Lib.hid (CH.out a c _ R)
        clear J JH R hw
        go_wp2_with fail
        refine CC.out.mono ?_
        rintro e w3 ⟨rfl, b3⟩
        have B3 := Lib.hid (chain WH.out b3)
        clear b3
        go_wp2
        go_ret2
        exact ⟨rfl, B3.out⟩
end Go.Proofs.Ytgfpngjfhmiphaa.Tm
