/-
  The parts of a tree, and whether it is valid: the program's function.
-/
import Derived.Test.YtoikdonecbpjaaaThang
import Derived.Test.YtoikdonecbpjaaaTbld
import Derived.Test.YtoikdonecbpjaaaTspec
import Derived.BigRegion
namespace Go.Proofs.Ytoikdonecbpjaaa.Tm
open Go.RowKit Go.Proofs.Ytoikdonecbpjaaa.GfI Go.Proofs.Ytoikdonecbpjaaa.GfS Go.Proofs.Ytoikdonecbpjaaa.MixC
open Go.Proofs.Ytoikdonecbpjaaa.It (lay chain)
open Go.Proofs.Ytoikdonecbpjaaa.Rc (Recs)
open Go.Proofs.Ytoikdonecbpjaaa.Bk (Bks tval bval)
open Go.Proofs.Ytoikdonecbpjaaa.Sg (BxN)
set_option linter.unusedVariables false
set_option linter.unusedSimpArgs false

/-- The parts of a valid tree; nothing of another. -/
def PartsB (T : TD) (I : Nat → Option Addr) (C : Nat → Nat) (w0 : World) (e : Ending) (w' : World) : Prop := Below w0.heap.size w0 w' ∧
  ((¬ T.Ok ∧ e = .returned (.tuple #[.map none, .bool false])) ∨
   (T.Ok ∧ ∃ (mb p q base : Nat) (U : Int → Option Nat) (S : Nat → Value), e = .returned (.tuple #[.map (some mb), .bool true]) ∧ Up T T.bn 0 U ∧ Prt T I C w0.heap.size mb p q T.bn 0 base U S w'))
theorem PartsB.no {T : TD} {I : Nat → Option Addr} {C : Nat → Nat} {w0 w' : World} (h : ¬ T.Ok) (b : Below w0.heap.size w0 w') : PartsB T I C w0 (.returned (.tuple #[.map none, .bool false])) w' := ⟨b, .inl ⟨h, rfl⟩⟩
/-- All numbers that stand for items are such. -/
def TD.Wf (T : TD) : Prop := ∀ j, j < T.bn → ∀ x, x ∈ T.L j → (Lit.int .i64 x).wf = true

theorem infoPB : (Try.prog.info? 121).map (fun i => (i.zero, i.size, i.bytes)) = some (some (.pointer none), 1, 8) := by kernel_rfl
set_option maxRecDepth 100000 in
set_option maxHeartbeats 4000000 in
theorem partsOf (T : TD) (A : TA) (w : World) (Z : T.Sz) (WF : T.Wf) (h : TIn w T A) :
    Calls Try.prog 54 #[A.val T] w (PartsB T A.I A.C w) := by
  have CD := Lib.hid (fun w' (b : Below w.heap.size w w') => devicesOk T A.da A.dc w' Z.dn (h.below b).devs)
  have CB := Lib.hid (fun w' (b : Below w.heap.size w w') => bucketsOk T A.ba A.bc A.I A.C w' Z.bn Z.L (h.below b).bkts)
  have HD := Lib.hid h.devs
  have HB := Lib.hid h.bkts
  clear h Z
  obtain ⟨da, dc, ba, bc, I, C⟩ := A
  dsimp only at CD CB HD HB ⊢
  obtain ⟨dn, hdn⟩ : ∃ dn, dn = T.dn := ⟨_, rfl⟩
  obtain ⟨bn, hbn⟩ : ∃ bn, bn = T.bn := ⟨_, rfl⟩
  have E : TA.val ⟨da, dc, ba, bc, I, C⟩ T = tval (.slice da dn dc) (.slice ba bn bc) := by rw [hdn, hbn]
  rw [E]
  rw [← hdn] at CD HD
  rw [← hbn] at CB HB
  have HDN := Lib.hid hdn
  have HBN := Lib.hid hbn
  clear E hdn hbn
  have LH := Lib.hid (lay w (.cells #[.slice da dn dc, .slice ba bn bc] 31))
  have X := Lib.hid (BxN.new w #[.slice da dn dc, .slice ba bn bc] 31)
  have hmm := @run_makeMap Try.prog
  go_enter Try.func54, Try.ntmps54
  go_wp2_with fail
  refine (CD.out _ LH.out).mono ?_
  rintro e w1 ⟨bb1, rfl, H1, b1⟩
  have B1 := Lib.hid (chain LH.out b1)
  have X1 := Lib.hid (X.out.later b1)
  have x0 := X1.out.cells 0 _ rfl
  have x1 := X1.out.cells 1 _ rfl
  clear b1
  cases bb1
  · have G := Lib.hid (show ¬ T.Ok from fun k => by have := H1.2 k.dev; cases this)
    clear H1
    go_wp2
    go_ret2
    exact PartsB.no G.out B1.out
  · have DV := Lib.hid (H1.1 rfl)
    clear H1
    go_wp2_with fail
    refine (CB.out _ B1.out).mono ?_
    rintro e w2 ⟨bb2, rfl, H2, b2⟩
    have B2 := Lib.hid (chain B1.out b2)
    have X2 := Lib.hid (X1.out.later b2)
    clear x0 x1
    have x0 := X2.out.cells 0 _ rfl
    have x1 := X2.out.cells 1 _ rfl
    clear b2
    cases bb2
    · have G := Lib.hid (show ¬ T.Ok from fun k => by have := H2.2 k.bkt; cases this)
      clear H2
      go_wp2
      go_ret2
      exact PartsB.no G.out B2.out
    · have BV := Lib.hid (H2.1 rfl)
      clear H2
      have P0 := Lib.hid (Ph1.start (T := T) X2.out B2.out)
      have y0 := P0.out.box.cells 0 _ rfl
      have y1 := P0.out.box.cells 1 _ rfl
      clear x0 x1 X X1 X2 LH CD CB
      have D16 : dn ≤ 16 := by rw [HDN.out]; exact DV.out.n
      have B12 : bn ≤ 12 := by rw [HBN.out]; exact BV.out.n
      go_wp2
      generalize w2.heap.size = mb at *
      clear hmm
      obtain ⟨p, hp⟩ : ∃ p, p = mb + 2 := ⟨_, rfl⟩
      rw [← hp] at P0
      go_loopw [26] (fun i wr => ∃ k : Nat, k ≤ dn ∧ i = .int .i64 k ∧ Ph1 T w mb p k [.slice da dn dc, .slice ba bn bc] wr) (fun i _ => dn - (intOf i).toNat)
      case atStart => exact ⟨0, by omega, rfl, P0.out⟩
      case round =>
        clear P0 y0 y1 B1 B2
        obtain ⟨k, hk, rfl, P⟩ := hrel
        have PH := Lib.hid P
        clear P
        by_cases hlt : k < dn
        · have hkT : k < T.dn := by rw [← HDN.out]; exact hlt
          obtain ⟨b, off, rfl, hBz, hcc⟩ := (HD.out.below PH.out.below).resolve_left (by omega)
          obtain ⟨c0, c1⟩ := hcc k hlt
          have FM := Lib.hid (((PH.out.map).later (lay _ (.cells #[.int .i64 (T.df k), .int .i64 (T.dg k)] 76))).later (lay _ (.cells #[.pointer none, .int .i64 (T.df k), .int .i64 (T.dg k)] 125)))
          have STEP := Lib.hid (fun w3 => @Ph1.step T w mb p k _ wr PH.out DV.out hkT (.cells #[.int .i64 (T.df k), .int .i64 (T.dg k)] 76) 125 w3)
          have WFK : (Lit.int .i64 (T.df k)).wf = true := by have := DV.out.each k hkT; exact WalkArith.wf_i64 (by omega)
          clear hcc hBz
          generalize thg T p 0 k 0 = F at *
          generalize T.df k = x at *
          generalize T.dg k = y at *
          go_wp2_with (at_mapUpdate; refine Pm.wpList_store2 _ rfl _ _ _ 70 rfl 2 92 keyed64 Try.underlying70 Try.underlying2 mb k F rfl FM.out (by unfold maxLen; omega) x _ rfl rfl rfl WFK ?_; intro w3 F3 g3 s3)
          exact ⟨⟨k + 1, by omega, by go_num, STEP.out w3 F3 g3 s3⟩, by simp [intOf]; omega⟩
        · obtain rfl : k = dn := by omega
          obtain ⟨i0, hi, hz0, hz1, hz2⟩ := info_parts infoPB
          have y1 := PH.out.box.cells 1 _ rfl
          have P2S := Lib.hid (fun w3 xs (ho : w3.ownsRow wr.heap.size 121 1 (.slice (some ⟨wr.heap.size, 0, none⟩) bn bn) bn xs) (g : wr.grownBy w3 none) => Ph2.start (I := I) (C := C) (HDN.out ▸ PH.out) (HBN.out ▸ ho) g)
          clear hlt hk
          go_wp2_with (at_make; refine wpList_make_full _ rfl _ _ 126 rfl wr.heap.size 121 i0 (.pointer none) 1 Try.underlying126 hi hz0 hz1 .i64 .i64 bn bn bn rfl rfl rfl rfl (by rw [hz2]; omega) (by unfold maxLen; omega) (Nat.le_refl _) ?_; intro w3 hown3 hgrow3; have P2 := Lib.hid (P2S.out _ _ hown3 hgrow3); have y2 := P2.out.box.cells 1 _ rfl)
          obtain ⟨q, hq⟩ : ∃ q, q = w3.heap.size + 1 := ⟨_, rfl⟩
          obtain ⟨sb, hsb⟩ : ∃ sb, sb = wr.heap.size := ⟨_, rfl⟩
          rw [← hq, ← hsb] at P2
          rw [← hsb]
          clear P2S hown3 hgrow3 PH y1 y2 hz0 hz1 hz2 hi i0 hq hsb HD HDN hp D16
          go_loopw [45] (fun i wr => ∃ j : Nat, j ≤ bn ∧ i = .int .i64 j ∧ Ph2 T I C w mb p q sb j [.slice da T.dn dc, .slice ba bn bc] wr) (fun i _ => bn - (intOf i).toNat)
          case atStart => exact ⟨0, by omega, rfl, P2.out⟩
          case round =>
            clear P2
            obtain ⟨j, hj, rfl, P⟩ := hrel
            have PH := Lib.hid P
            clear P
            by_cases hlt : j < bn
            · have hjT : j < T.bn := by rw [← HBN.out]; exact hlt
              obtain ⟨b, off, rfl, hBz, hcc⟩ := (HB.out.below PH.out.below).resolve_left (by omega)
              obtain ⟨c0, c1, c2, -⟩ := hcc j hlt
              obtain ⟨u, d0⟩ := PH.out.bt j hjT
              have f0 := PH.out.bz j
              have hsb : sb < wr.heap.size := by have := PH.out.hs; have := PH.out.pq; omega
              have WFX : (Lit.int .i64 (T.bf j)).wf = true := by have := BV.out.each j hjT; exact WalkArith.wf_i64 (by omega)
              obtain ⟨W2, hW2⟩ : ∃ W2, W2 = ((wr.setCell ⟨sb, j, none⟩ (.pointer (some ⟨wr.heap.size + 1, 0, none⟩))).alloc (.cells #[.int .i64 (T.bf j), .int .i64 (T.bg j), .slice (I j) (T.L j).length (C j)] 79)).alloc (.cells #[.pointer none, .int .i64 (T.bf j), .int .i64 (T.bg j), .slice (I j) (T.L j).length (C j), .slice none 0 0] 129) := ⟨_, rfl⟩
              have FM : Pm.Fun Try.prog 2 W2.drew mb (T.dn + j) (thg T p q T.dn j) := by
                rw [hW2]
                exact ((((PH.out.map).set (p := ⟨sb, j, none⟩) (by have := PH.out.sp; have := PH.out.mp; dsimp only; omega) (.pointer (some ⟨wr.heap.size + 1, 0, none⟩))).later (lay _ _)).later (lay _ _)).drew
              have e0 : W2.cell? ⟨wr.heap.size, 0, none⟩ = some (.int .i64 (T.bf j)) := by
                rw [hW2]
                refine ((lay _ _).cell (p := ⟨wr.heap.size, 0, none⟩) (by rw [World.size_alloc]; simp)).trans ?_
                have := World.cell?_alloc_new (wr.setCell ⟨sb, j, none⟩ (.pointer (some ⟨wr.heap.size + 1, 0, none⟩))) #[.int .i64 (T.bf j), .int .i64 (T.bg j), .slice (I j) (T.L j).length (C j)] 79 0
                simpa using this
              have e1 : W2.cell? ⟨sb, j, none⟩ = some (.pointer (some ⟨wr.heap.size + 1, 0, none⟩)) := by
                rw [hW2]
                refine ((lay _ _).cell (p := ⟨sb, j, none⟩) (by rw [World.size_alloc]; simp; omega)).trans (((lay _ _).cell (p := ⟨sb, j, none⟩) (by simpa using hsb)).trans ?_)
                exact World.cell?_setCell_same _ _ _ d0
              obtain ⟨w4, hrun, F4, g4, s4⟩ := FM.update keyed64 Try.underlying70 Try.underlying2 (by have := BV.out.n; have := DV.out.n; unfold maxLen; omega) (T.bf j) WFX (.iface 121 (.pointer (some ⟨wr.heap.size + 1, 0, none⟩))) rfl
              have P3 := Lib.hid (PH.out.step DV.out BV.out hjT hW2 F4 g4 s4)
              clear hcc hBz FM F4 g4 s4 WFX PH
              generalize T.bf j = x at *
              generalize T.bg j = g at *
              generalize (T.L j).length = lj at *
              generalize I j = ij at *
              generalize C j = cj at *
              go_wp2
              rw [← hW2]
              clear hW2
              go_region
              go_wp2
              go_roundw
              case rel => exact ⟨j + 1, by omega, by go_num, P3.out⟩
              case measure => simp [intOf]; omega
            · obtain rfl : j = bn := by omega
              have hsb : sb = p + 2 * T.dn - 1 := by have := PH.out.sp; omega
              have P4 : Hid (Prt T I C w.heap.size mb p q 0 0 wr.heap.size (fun _ => none) (fun _ => .slice none 0 0) wr) := by
                have := PH.out
                rw [HBN.out] at this
                exact this.parts
              have B4 := Lib.hid PH.out.below
              rw [hsb]
              clear PH hsb
              go_wp2
              go_loopw [67] (fun i wr => ∃ (r base : Nat) (U : Int → Option Nat) (S : Nat → Value), r ≤ j ∧ i = .int .i64 r ∧ (∀ z, z < r → T.Fit1 z) ∧ Up T r 0 U ∧ Prt T I C w.heap.size mb p q r 0 base U S wr ∧ Below w.heap.size w wr) (fun i _ => j - (intOf i).toNat)
              case atStart => exact ⟨0, _, _, _, by omega, rfl, fun z hz => by omega, Up.start T, P4.out, B4.out⟩
              case round =>
                clear P4 B4
                obtain ⟨r, base, U, S, hr, rfl, FT, UP, PP, hw⟩ := hrel
                by_cases hlt : r < j
                · have hrT : r < T.bn := by rw [← HBN.out]; exact hlt
                  have HW := (HB.out.resolve_left (by omega))
                  obtain ⟨b, off, -, -, hcc⟩ := HW
                  have HG := Lib.hid (hangItems T I C w wr mb p q r base U S hw DV.out BV.out hrT (WF r hrT) (hcc r hlt).2.2.2 UP PP)
                  have d0 := PP.bs r hrT
                  have FH := Lib.hid FT
                  clear hcc UP PP hw FT
                  generalize p + 2 * T.dn - 1 = sb at *
                  go_wp2_with fail
                  refine HG.out.mono ?_
                  rintro e w5 ⟨bb, rfl, B5, no, yes⟩
                  cases bb
                  · have G := Lib.hid (no rfl)
                    have B5 := Lib.hid B5
                    clear no yes HG
                    go_wp2
                    go_ret2
                    exact PartsB.no G.out B5.out
                  · obtain ⟨fit, U', S', UP', PP'⟩ := yes rfl
                    have G := Lib.hid (show ∀ z, z < r + 1 → T.Fit1 z from fun z hz => if e : z = r then by rw [e]; exact fit else FH.out z (by omega))
                    have B5 := Lib.hid B5
                    have UP' := Lib.hid UP'
                    have PP' := Lib.hid PP'
                    clear no yes HG fit
                    go_wp2
                    go_roundw
                    case rel => exact ⟨r + 1, _, _, _, by omega, by go_num, G.out, UP'.out, PP'.out, B5.out⟩
                    case measure => simp [intOf]; omega
                · obtain rfl : r = j := by omega
                  have e : r = T.bn := HBN.out
                  have G := Lib.hid (show PartsB T I C w (.returned (.tuple #[.map (some mb), .bool true])) wr from ⟨hw, .inr ⟨⟨DV.out, BV.out, (e ▸ UP).once, fun z hz => FT z (by omega)⟩, mb, p, q, base, U, S, rfl, e ▸ UP, e ▸ PP⟩⟩)
                  clear UP PP hw FT
                  go_wp2
                  go_ret2
                  exact G.out
end Go.Proofs.Ytoikdonecbpjaaa.Tm
