/-
  What lies below a thing, and its weight: the model's functions.
-/
import Derived.Test.YtigaoimnhebegaaTwt
namespace Go.Proofs.Ytigaoimnhebegaa.Tm
open Go.RowKit Go.Proofs.Ytigaoimnhebegaa.GfI Go.Proofs.Ytigaoimnhebegaa.GfS Go.Proofs.Ytigaoimnhebegaa.MixC
open Go.Proofs.Ytigaoimnhebegaa.It (lay chain)
open Go.Proofs.Ytigaoimnhebegaa.Bk (Bks tval bval)
open Go.Proofs.Ytigaoimnhebegaa.Sg (BxN)
set_option linter.unusedVariables false
set_option linter.unusedSimpArgs false

theorem putAll_len : ∀ (l out : List Int), (putAll out l).length ≤ out.length + l.length
  | [], out => by simp [putAll]
  | a :: l, out => by
    show (putAll (put a out) l).length ≤ _
    have := putAll_len l (put a out)
    have := put_len a out
    simp only [List.length_cons]; omega
theorem foldl_len (T : TD) (f m : Nat) (IH : ∀ y, (undr T f y).length ≤ m) : ∀ (l out : List Int), (l.foldl (fun o y => putAll o (undr T f y)) out).length ≤ out.length + l.length * m
  | [], out => by simp
  | a :: l, out => by
    rw [List.foldl_cons]
    have h1 := foldl_len T f m IH l (putAll out (undr T f a))
    have h2 := putAll_len (undr T f a) out
    have h3 := IH a
    rw [List.length_cons, Nat.succ_mul]; omega
theorem undr_len {T : TD} (B : T.BktOk) : ∀ (f : Nat) (x : Int), (undr T f x).length ≤ 8 ^ f
  | 0, x => by simp [undr]
  | f + 1, x => by
    have h1 : 0 < 8 ^ f := Nat.pow_pos (by omega)
    have e : 8 ^ (f + 1) = 8 ^ f * 8 := Nat.pow_succ _ _
    cases hx : ix T.bf x T.bn with
    | none => rw [undr_no hx]; simp; omega
    | some j =>
      rw [undr_bkt hx]
      have := foldl_len T f (8 ^ f) (undr_len B f) (T.L j) []
      have hl := (B.each j (ix_some hx).1).2.2.2.2
      have : (T.L j).length * 8 ^ f ≤ 8 * 8 ^ f := Nat.mul_le_mul_right _ hl
      unfold undrL
      simp only [List.length_nil] at *
      omega
theorem npow8 : ∀ {f : Nat}, f ≤ 3 → 8 ^ f ≤ 512
  | 0, _ => by decide
  | 1, _ => by decide
  | 2, _ => by decide
  | 3, _ => by decide
  | f + 4, h => by omega
theorem ListR.one {w : World} {x : Int} : ListR [x] w (.returned (.slice (some ⟨w.heap.size, 0, none⟩) 1 1)) (w.alloc (.cells #[.int .i64 x] 2)) :=
  ⟨_, _, rfl, .inr ⟨_, 0, rfl, by simp, fun i hi => by
    have : i = 0 := by simpa using hi
    subst this
    rw [World.cell?_alloc_new]; rfl⟩, lay _ _⟩
theorem ListR.from {zs : List Int} {w w1 : World} {e : Ending} {w2 : World} (h : ListR zs w1 e w2) (b : Below w.heap.size w w1) : ListR zs w e w2 := by
  obtain ⟨a, cap, he, hw, hb⟩ := h
  exact ⟨a, cap, he, hw, chain b hb⟩

set_option maxRecDepth 100000 in
set_option maxHeartbeats 4000000 in
theorem l06Under (T : TD) (Z : T.Sz) (O : T.Ok) : ∀ (f : Nat) (x : Int) (A : TA) (w : World), f ≤ 4 → T.kd x < f → TIn w T A →
    Calls Try.prog 62 #[A.val T, .int .i64 x] w (ListR (undr T f x) w) := by
  intro f x A w hf hk h
  have LH := Lib.hid (lay w (.cells #[.slice A.da T.dn A.dc, .slice A.ba T.bn A.bc] 33))
  have X := Lib.hid (BxN.new w #[.slice A.da T.dn A.dc, .slice A.ba T.bn A.bc] 33)
  have BK := Lib.hid (l06Bucket T A x _ Z (h.below LH.out))
  cases hx : ix T.bf x T.bn with
  | none =>
    rw [undr_no hx]
    have E : ixI T.bf x T.bn = -1 := by unfold ixI; rw [hx]
    rw [E] at BK
    clear h Z hx E hk
    obtain ⟨da, dc, ba, bc, I, C⟩ := A
    dsimp only at LH X BK ⊢
    go_enter Try.func62, Try.ntmps62
    go_wp2_with fail
    refine BK.out.mono ?_
    rintro e w1 ⟨rfl, b1⟩
    have B1 := Lib.hid (chain LH.out b1)
    clear b1
    go_wp2
    go_ret
    exact ListR.one.from B1.out
  | some j =>
    obtain ⟨hj, hjx, -⟩ := ix_some hx
    obtain ⟨f, rfl⟩ : ∃ g, f = g + 1 := ⟨f - 1, by have := kd_ge O.bkt x; have := (O.bkt.each j hj).2.2.1; have := TD.kd_bkt O.dev O.bkt hj; rw [hjx] at this; omega⟩
    rw [undr_bkt hx]
    have E : ixI T.bf x T.bn = j := by unfold ixI; rw [hx]
    rw [E] at BK
    have IH := Lib.hid (fun y (hy : y ∈ T.L j) B w' (k : TIn w' T B) => l06Under T Z O f y B w' (by omega) (by have := kd_up O hj hy; rw [hjx] at this; omega) k)
    have UB := Lib.hid (undr_len O.bkt f)
    have FB := Lib.hid (fun l => foldl_len T f (8 ^ f) (undr_len O.bkt f) l [])
    have P8 := npow8 (f := f) (by omega)
    have WJ := Lib.hid (show ∀ w', Below w.heap.size w w' → Words w' (A.I j) (T.L j) from fun w' b => by
      obtain ⟨_, _, _, _, hcc⟩ := (h.below b).bkts.resolve_left (by omega)
      exact (hcc j hj).2.2.2)
    have L8 := (O.bkt.each j hj).2.2.2.2
    have B12 := O.bkt.n
    have HB := Lib.hid h.bkts
    have TI := Lib.hid h
    have hjT := Lib.hid hj
    clear h Z hx E hk hjx O
    obtain ⟨da, dc, ba, bc, I, C⟩ := A
    dsimp only at LH X BK HB WJ ⊢
    obtain ⟨dn, hdn⟩ : ∃ dn, dn = T.dn := ⟨_, rfl⟩
    obtain ⟨bn, hbn⟩ : ∃ bn, bn = T.bn := ⟨_, rfl⟩
    have EV : ∀ a b c d I C, TA.val ⟨a, b, c, d, I, C⟩ T = tval (.slice a dn b) (.slice c bn d) := fun _ _ _ _ _ _ => by rw [hdn, hbn]
    rw [EV] at BK ⊢
    simp only [← hdn, ← hbn] at LH X BK
    rw [← hbn] at hj B12
    have HB2 : Hid (Bks w ba bn T.bf T.bg I T.L C) := by show Bks _ _ _ _ _ _ _ _; rw [hbn]; exact HB.out
    clear HB hdn hbn
    obtain ⟨b, off, rfl, hB, hcc⟩ := HB2.out.resolve_left (by omega)
    have m2 := (hcc j hj).2.2.1
    have hBk := Lib.hid hB
    generalize T.L j = l at *
    obtain ⟨n, hn⟩ : ∃ n, n = l.length := ⟨_, rfl⟩
    rw [← hn] at m2 L8
    have HN := Lib.hid hn
    have M2 := Lib.hid (fun w' (bl : Below w.heap.size w w') => (bl.cell (p := ⟨b, off + j * 3 + 2, none⟩) hB).trans m2)
    clear hcc m2 hB hn HB2 hjT
    generalize I j = ij at *
    generalize C j = cj at *
    go_enter Try.func62, Try.ntmps62
    go_wp2_with fail
    refine BK.out.mono ?_
    rintro e w1 ⟨rfl, b1⟩
    have B1 := Lib.hid (chain LH.out b1)
    have X1 := Lib.hid (X.out.later b1)
    clear b1 BK X
    have N0 := Lib.hid (show BxN (w1.alloc (.cells #[] 2)) w.heap.size _ from X1.out.later (lay _ _))
    have NB := Lib.hid (chain B1.out (lay w1 (.cells #[] 2)))
    go_wp2
    go_loopw [6, 7] (fun v i wr => ∃ (k : Nat) (a : Option Addr) (cap : Nat), k ≤ n ∧ i = .int .i64 k ∧ v = .slice a (undrL T f (l.take k)).length cap ∧ Words wr a (undrL T f (l.take k)) ∧ BxN wr w.heap.size [.slice da dn dc, .slice (some ⟨b, off, none⟩) bn bc] ∧ Below w.heap.size w wr) (fun _ i _ => n - (intOf i).toNat)
    case atStart => exact ⟨0, _, _, by omega, rfl, rfl, .inl rfl, N0.out, NB.out⟩
    case round =>
      clear N0 NB X1 B1
      obtain ⟨k, a, cap, hk, rfl, rfl, WD, XR, hw⟩ := hrel
      have x0 := XR.cells 0 _ rfl
      have x1 := XR.cells 1 _ rfl
      have c2 := M2.out _ hw
      have XH := Lib.hid XR
      have WH := Lib.hid hw
      have WDH := Lib.hid WD
      clear XR WD
      by_cases hlt : k < n
      · have hkl : k < l.length := by rw [← HN.out]; exact hlt
        obtain ⟨bi, oi, rfl, hBi, nums⟩ := (WJ.out _ hw).resolve_left (by intro e; rw [e] at hkl; simp at hkl)
        have d := nums k hkl
        have REC := Lib.hid (IH.out _ (getD_mem hkl) ⟨da, dc, some ⟨b, off, none⟩, bc, I, C⟩)
        have TIN := Lib.hid (fun w' (bl : Below w.heap.size w w') => TI.out.below bl)
        have TS := Lib.hid (show undrL T f (l.take (k + 1)) = putAll (undrL T f (l.take k)) (undr T f (l.getD k 0)) from by rw [take_snoc _ _ hkl, undrL_snoc])
        have U1 := UB.out (l.getD k 0)
        have U2 := FB.out (l.take k)
        have U3 : (undrL T f (l.take k)).length ≤ 4096 := by
          have e8 : (l.take k).length ≤ 8 := by rw [List.length_take]; omega
          have : (l.take k).length * 8 ^ f ≤ 8 * 8 ^ f := Nat.mul_le_mul_right _ e8
          unfold undrL
          simp only [List.length_nil] at U2
          omega
        rw [EV] at REC
        clear nums hw U2
        generalize undrL T f (l.take k) = out0 at *
        generalize undr T f (l.getD k 0) = lst at *
        generalize l.getD k 0 = y at *
        go_wp2
        go_region_held3 (fun w' => w'.cell? ⟨w.heap.size, 0, none⟩ = some (.slice da dn dc) ∧ w'.cell? ⟨w.heap.size, 1, none⟩ = some (.slice (some ⟨b, off, none⟩) bn bc) ∧ w'.cell? ⟨b, off + j * 3 + 2, none⟩ = some (.slice (some ⟨bi, oi, none⟩) n cj) ∧ w'.cell? ⟨bi, oi + k, none⟩ = some (.int .i64 y)) (go_keep)
          (first
            | (go_at_call 62; refine (REC.out _ (TIN.out _ WH.out.drew)).mono ?_; rintro e w3 ⟨al, cl, rfl, WL, b3⟩; have b3 := undrew b3; have B3 := Lib.hid (chain WH.out b3); have X3 := Lib.hid (XH.out.later b3); have D3 := Lib.hid (WDH.out.below b3); have WL := Lib.hid WL; have y0 := X3.out.cells 0 _ rfl; have y1 := X3.out.cells 1 _ rfl; have yc := M2.out _ B3.out; have yd := (b3.cell (p := ⟨bi, oi + k, none⟩) hBi).trans d; clear b3))
        clear x0 x1 c2 d XH WH WDH REC TIN
        go_wp2
        go_loopw [6, 9] (fun v i wr => ∃ (r : Nat) (a : Option Addr) (cap : Nat), r ≤ lst.length ∧ i = .int .i64 r ∧ v = .slice a (putAll out0 (lst.take r)).length cap ∧ Words wr a (putAll out0 (lst.take r)) ∧ Words wr al lst ∧ BxN wr w.heap.size [.slice da dn dc, .slice (some ⟨b, off, none⟩) bn bc] ∧ Below w.heap.size w wr) (fun _ i _ => lst.length - (intOf i).toNat)
        case atStart => exact ⟨0, _, _, by omega, rfl, rfl, D3.out, WL.out, X3.out, B3.out⟩
        case round =>
          clear D3 WL X3 B3 y0 y1 yc yd
          obtain ⟨r, a2, cap2, hr, rfl, rfl, WD, WL, XR, hw⟩ := hrel
          have XH := Lib.hid XR
          have WH := Lib.hid hw
          have WLH := Lib.hid WL
          by_cases hlt2 : r < lst.length
          · obtain ⟨bl, ol, rfl, hBl, nums⟩ := WL.resolve_left (by intro e; rw [e] at hlt2; simp at hlt2)
            have d := nums r hlt2
            have TS2 := Lib.hid (show putAll out0 (lst.take (r + 1)) = put (lst.getD r 0) (putAll out0 (lst.take r)) from by rw [take_snoc _ _ hlt2, putAll_snoc])
            have U4 : (putAll out0 (lst.take r)).length ≤ 100000 := by
              have := putAll_len (lst.take r) out0
              rw [List.length_take] at this
              omega
            have PUT := Lib.hid (l00Put a2 cap2 (putAll out0 (lst.take r)) (lst.getD r 0) wr U4 WD)
            clear nums WL XR hw WD
            generalize putAll out0 (lst.take r) = po at *
            generalize lst.getD r 0 = z at *
            go_wp2_with fail
            refine PUT.out.mono ?_
            rintro e w4 ⟨a5, c5, rfl, W5, b5⟩
            have B5 := Lib.hid (chain WH.out b5)
            have X5 := Lib.hid (XH.out.later b5)
            have L5 := Lib.hid (WLH.out.below b5)
            have W5 := Lib.hid W5
            clear b5
            go_wp2
            go_roundw
            case rel => exact ⟨r + 1, a5, c5, by omega, by go_num, by rw [TS2.out], by rw [TS2.out]; exact W5.out, L5.out, X5.out, B5.out⟩
            case measure => simp [intOf]; omega
          · obtain rfl : r = lst.length := by omega
            have E : putAll out0 (lst.take lst.length) = putAll out0 lst := by rw [List.take_length]
            rw [E] at WD ⊢
            have WDH := Lib.hid WD
            clear WD WL XR hw E
            go_wp2
            go_roundw
            case rel => exact ⟨k + 1, a2, cap2, by omega, by go_num, by rw [TS.out], by rw [TS.out]; exact WDH.out, XH.out, WH.out⟩
            case measure => simp [intOf]; omega
      · obtain rfl : k = n := by omega
        have E : l.take k = l := by rw [HN.out]; exact List.take_length
        have G := Lib.hid (show ListR (undrL T f l) w (.returned (.slice a (undrL T f (l.take k)).length cap)) wr from ⟨a, cap, by rw [E], by rw [← E]; exact WDH.out, WH.out⟩)
        clear hw
        go_wp2
        go_ret
        exact G.out
end Go.Proofs.Ytigaoimnhebegaa.Tm

/-
  The weight of a thing: the model's functions; WeightOf in both.
-/
namespace Go.Proofs.Ytigaoimnhebegaa.Tm
open Go.RowKit Go.Proofs.Ytigaoimnhebegaa.GfI Go.Proofs.Ytigaoimnhebegaa.GfS Go.Proofs.Ytigaoimnhebegaa.MixC
open Go.Proofs.Ytigaoimnhebegaa.It (lay chain)
open Go.Proofs.Ytigaoimnhebegaa.Rc (Recs)
open Go.Proofs.Ytigaoimnhebegaa.Bk (Bks tval bval)
open Go.Proofs.Ytigaoimnhebegaa.Sg (BxN)
set_option linter.unusedVariables false
set_option linter.unusedSimpArgs false

theorem kd_top {T : TD} (O : T.Ok) (x : Int) : T.kd x ≤ 3 := by
  rcases T.kd_cases x with ⟨_, _, _, e⟩ | ⟨_, j, hj, _, e⟩ | ⟨_, _, e⟩
  · omega
  · have := (O.bkt.each j hj).2.2.2.1; omega
  · omega
/-- A device of the list: where it stands, and its weight. -/
theorem dev_at {T : TD} (O : T.Ok) {z : Int} (h : T.kd z = 0) : ∃ i, i < T.dn ∧ ixI T.df z T.dn = i ∧ dwt T z = T.dg i := by
  rcases T.kd_cases z with ⟨i, hi, e, _⟩ | ⟨_, j, hj, _, e⟩ | ⟨_, _, e⟩
  · refine ⟨i, hi, ?_, ?_⟩
    · unfold ixI; rw [← e, ix_dev O hi]
    · unfold dwt; rw [← e, ix_dev O hi]
  · have := (O.bkt.each j hj).2.2.1; omega
  · omega
end Go.Proofs.Ytigaoimnhebegaa.Tm

/-
  WeightOf: the program's answer and the model's.
-/
namespace Go.Proofs.Ytigaoimnhebegaa.Tm
open Go.RowKit Go.Proofs.Ytigaoimnhebegaa.GfI Go.Proofs.Ytigaoimnhebegaa.GfS Go.Proofs.Ytigaoimnhebegaa.MixC
open Go.Proofs.Ytigaoimnhebegaa.It (lay chain)
open Go.Proofs.Ytigaoimnhebegaa.Bk (Bks tval bval)
open Go.Proofs.Ytigaoimnhebegaa.Sg (BxN)
set_option linter.unusedVariables false
set_option linter.unusedSimpArgs false

def WAns (ok : Bool) (T : TD) (x : Int) : Value := if ok = true then (if T.kd x < 0 then ErrV 3 else .tuple #[.int .i64 (wt T 4 x), .int .i64 0]) else ErrV 1
theorem WAns_two (ok : Bool) (T : TD) (x : Int) : ∃ r0 r1, WAns ok T x = .tuple #[.int .i64 r0, .int .i64 r1] := by
  unfold WAns ErrV
  split
  · split
    · exact ⟨_, _, rfl⟩
    · exact ⟨_, _, rfl⟩
  · exact ⟨_, _, rfl⟩
/-- The weight of a thing that is there, whatever it is. -/
theorem Whole.weight {T : TD} {mb p q : Nat} {w : World} (h : Whole T mb p q w) {x : Int} (h0 : 0 ≤ T.kd x) : HasW T p q 4 x w :=
  hasW h h0 (fun j hj e => branchWeight T mb p q w h 3 j (Nat.le_refl _) hj (by have := (h.ok.bkt.each j hj).2.2.2.1; omega))
end Go.Proofs.Ytigaoimnhebegaa.Tm
