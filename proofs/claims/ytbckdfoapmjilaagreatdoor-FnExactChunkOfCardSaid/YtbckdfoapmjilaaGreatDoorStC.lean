/-
  The order of strings, heads, last requests and chunks in the program, and whether a list rises by it (written by tools/gen/sti.py).
-/
import Derived.Test.YtbckdfoapmjilaaGreatDoorStM
import Derived.Test.YtbckdfoapmjilaaGreatDoorVer
import Derived.Deep.DeepCutAuto
import Derived.StillTailTactics
namespace Go.Proofs.YtbckdfoapmjilaaGreatDoor.Rd
open Go.RowKit Go.ChangeShapes Go.WideShapes Go.Proofs.YtbckdfoapmjilaaGreatDoor.GfI Go.Proofs.YtbckdfoapmjilaaGreatDoor.GfS
open Go.Proofs.YtbckdfoapmjilaaGreatDoor.Sg (BxN)
set_option linter.unusedVariables false
set_option linter.unusedSimpArgs false

def cmpS (a b : ByteArray) : Int := if sLt a b then -1 else if sameS a b then 0 else 1
theorem cmpS_neg (a b : ByteArray) : decide (cmpS a b < 0) = sLt a b := by
  unfold cmpS
  cases sLt a b <;> cases sameS a b <;> rfl
theorem cmp_isNaNS (s : ByteArray) (w : World) : Calls Tryz.prog 131 #[.string s] w fun e w' => e = .returned (.bool false) ∧ w = w' := by
  have h : (s.toList == s.toList) = true := by simp
  go_enter Tryz.func131, Tryz.ntmps131
  go_wp2
  go_ret
  exact ⟨rfl, rfl⟩
theorem cmp_CompareS (a b : ByteArray) (w : World) : Calls Tryz.prog 116 #[.string a, .string b] w fun e w' => e = .returned (.int .i64 (cmpS a b)) ∧ w = w' := by
  have N := Lib.hid cmp_isNaNS
  unfold cmpS
  cases h : sLt a b
  · unfold sLt at h
    cases h2 : sameS a b
    · unfold sameS at h2
      go_enter Tryz.func116, Tryz.ntmps116
      go_wp2_with (go_at_call 131; refine (N.out _ _).mono ?_; rintro e w2 ⟨rfl, rfl⟩)
      go_ret
      exact ⟨rfl, rfl⟩
    · unfold sameS at h2
      go_enter Tryz.func116, Tryz.ntmps116
      go_wp2_with (go_at_call 131; refine (N.out _ _).mono ?_; rintro e w2 ⟨rfl, rfl⟩)
      go_ret
      exact ⟨rfl, rfl⟩
  · unfold sLt at h
    go_enter Tryz.func116, Tryz.ntmps116
    go_wp2_with (go_at_call 131; refine (N.out _ _).mono ?_; rintro e w2 ⟨rfl, rfl⟩)
    go_ret
    exact ⟨rfl, rfl⟩
theorem negHead (x y : DHead) : decide (cmpS x.name y.name < 0) = hLt x y := cmpS_neg _ _
theorem negLast (x y : DLast) : decide (cmpZ x.client y.client < 0) = lLt x y := by
  unfold cmpZ lLt
  by_cases h : x.client < y.client <;> by_cases h2 : y.client < x.client <;> simp [h, h2]
set_option maxRecDepth 100000 in
set_option maxHeartbeats 4000000 in
theorem implHeadCompare (a b : DHead) (w : World) : Calls Tryz.prog 83 #[.agg #[.string a.name, .int .i64 a.ver.epoch, .int .i64 a.ver.seq, .int .i64 a.size, .int .i64 a.sum], .agg #[.string b.name, .int .i64 b.ver.epoch, .int .i64 b.ver.seq, .int .i64 b.size, .int .i64 b.sum]] w (RetW (.int .i64 (cmpS a.name b.name)) w) := by
  have BH := Lib.hid (chainX w (lay w (.cells #[.string a.name, .int .i64 a.ver.epoch, .int .i64 a.ver.seq, .int .i64 a.size, .int .i64 a.sum] 107)) (lay _ (.cells #[.string b.name, .int .i64 b.ver.epoch, .int .i64 b.ver.seq, .int .i64 b.size, .int .i64 b.sum] 107)))
  have C := Lib.hid (cmp_CompareS a.name b.name)
  generalize cmpS a.name b.name = v at *
  go_enter Tryz.func83, Tryz.ntmps83
  go_wp2_with fail
  refine (C.out _).mono ?_
  rintro e w1 ⟨rfl, rfl⟩
  go_wp2
  go_ret
  exact ⟨rfl, BH.out⟩
set_option maxRecDepth 100000 in
set_option maxHeartbeats 4000000 in
theorem implLastCompare (a b : DLast) (w : World) : Calls Tryz.prog 86 #[.agg #[.int .i64 a.client, .int .i64 a.no, .int .i64 a.ver.epoch, .int .i64 a.ver.seq], .agg #[.int .i64 b.client, .int .i64 b.no, .int .i64 b.ver.epoch, .int .i64 b.ver.seq]] w (RetW (.int .i64 (cmpZ a.client b.client)) w) := by
  have BH := Lib.hid (chainX w (lay w (.cells #[.int .i64 a.client, .int .i64 a.no, .int .i64 a.ver.epoch, .int .i64 a.ver.seq] 111)) (lay _ (.cells #[.int .i64 b.client, .int .i64 b.no, .int .i64 b.ver.epoch, .int .i64 b.ver.seq] 111)))
  have C := Lib.hid (cmp_Compare a.client b.client)
  generalize cmpZ a.client b.client = v at *
  go_enter Tryz.func86, Tryz.ntmps86
  go_wp2_with fail
  refine (C.out _).mono ?_
  rintro e w1 ⟨rfl, rfl⟩
  go_wp2
  go_ret
  exact ⟨rfl, BH.out⟩
set_option maxRecDepth 100000 in
set_option maxHeartbeats 4000000 in
theorem risingHead (a : Option Addr) (cap : Nat) (l : List DHead) (w : World) (hl : l.length ≤ 2097152) {fr : Bool} {lo : Nat} (hc : Rows fr lo w a l) :
    Calls Tryz.prog 82 #[.slice a l.length cap, .func (.func 83) #[] #[]] w (IffB (∀ i x y, l[i]? = some x → l[i + 1]? = some y → hLt x y = true) w) := by
  have RH := Lib.hid hc
  have GET := Lib.hid (fun k (h : k < l.length) => get_lt h)
  have LEN := Lib.hid (fun k x (h : l[k]? = some x) => (List.getElem?_eq_some_iff.1 h).1)
  have NEG := Lib.hid (fun x y => negHead x y)
  obtain ⟨n, hn⟩ : ∃ n, l.length = n := ⟨_, rfl⟩
  rw [hn] at hl GET LEN ⊢
  clear hn hc
  go_enter Tryz.func82, Tryz.ntmps82
  go_wp2
  go_loopw [5] (fun i wr => ∃ k : Nat, (k + 1 ≤ n ∨ k = 0) ∧ i = .int .i64 (k + 1 : Nat) ∧ (∀ i x y, i < k → l[i]? = some x → l[i + 1]? = some y → hLt x y = true) ∧ Below w.heap.size w wr) (fun i _ => n + 1 - (intOf i).toNat)
  case atStart => exact ⟨0, by omega, rfl, fun i x y hi => absurd hi (Nat.not_lt_zero _), Below.refl _ _⟩
  case round =>
    obtain ⟨k, hkn, rfl, HR, hw⟩ := hrel
    have HR := Lib.hid HR
    have BH := Lib.hid hw
    by_cases hlt : k + 1 < n
    · obtain ⟨x, hx⟩ := GET.out k (by omega)
      obtain ⟨y, hy⟩ := GET.out (k + 1) hlt
      obtain ⟨b, off, cs, rfl, -, hB, hr, hcc⟩ := (RH.out.below hw).at' hx
      obtain ⟨b', off', cs', e', -, -, hr2, hcc2⟩ := (RH.out.below hw).at' hy
      obtain ⟨rfl, rfl⟩ : b = b' ∧ off = off' := by simpa using e'
      obtain ⟨rfl, f0_0, f0_1, f0_2, f0_3, f0_4⟩ := shape_Head hr
      obtain ⟨rfl, f1_0, f1_1, f1_2, f1_3, f1_4⟩ := shape_Head hr2
      have cx0 : wr.cell? ⟨b, off + k * 5, none⟩ = some (.string x.name) := hcc 0 _ rfl
      have cx1 : wr.cell? ⟨b, off + k * 5 + 1, none⟩ = some (.int .i64 x.ver.epoch) := hcc 1 _ rfl
      have cx2 : wr.cell? ⟨b, off + k * 5 + 2, none⟩ = some (.int .i64 x.ver.seq) := hcc 2 _ rfl
      have cx3 : wr.cell? ⟨b, off + k * 5 + 3, none⟩ = some (.int .i64 x.size) := hcc 3 _ rfl
      have cx4 : wr.cell? ⟨b, off + k * 5 + 4, none⟩ = some (.int .i64 x.sum) := hcc 4 _ rfl
      have cy0 : wr.cell? ⟨b, off + (k + 1) * 5, none⟩ = some (.string y.name) := hcc2 0 _ rfl
      have cy1 : wr.cell? ⟨b, off + (k + 1) * 5 + 1, none⟩ = some (.int .i64 y.ver.epoch) := hcc2 1 _ rfl
      have cy2 : wr.cell? ⟨b, off + (k + 1) * 5 + 2, none⟩ = some (.int .i64 y.ver.seq) := hcc2 2 _ rfl
      have cy3 : wr.cell? ⟨b, off + (k + 1) * 5 + 3, none⟩ = some (.int .i64 y.size) := hcc2 3 _ rfl
      have cy4 : wr.cell? ⟨b, off + (k + 1) * 5 + 4, none⟩ = some (.int .i64 y.sum) := hcc2 4 _ rfl
      have C := implHeadCompare x y
      have N := NEG.out x y
      have j0 : (0 : Int) ≤ (k : Int) := by omega
      have j1 : (k : Int) < (n : Int) := by omega
      have WK : IntKind.i64.wrap (((k + 1 : Nat) : Int) - 1) = (k : Int) := by rw [IntKind.wrap_i64]; omega
      have k2 : (0 : Int) ≤ (k : Int) + 1 := by omega
      have WK2 : IntKind.i64.wrap (k : Int) = (k : Int) := by rw [IntKind.wrap_i64]; omega
      have k0 : (0 : Int) ≤ ((k + 1 : Nat) : Int) := by omega
      have k1 : ((k + 1 : Nat) : Int) < (n : Int) := by omega
      have HX := Lib.hid hx
      have HY := Lib.hid hy
      clear hcc hcc2 hr hr2 hw hx hy
      generalize cmpS x.name y.name = z at *
      cases q : hLt x y
      · rw [q] at N
        have NO := Lib.hid (show ¬ ∀ i x y, l[i]? = some x → l[i + 1]? = some y → hLt x y = true from fun h => by have := h k x y HX.out HY.out; rw [q] at this; cases this)
        have Z := of_decide_eq_false N
        have Z' : 0 ≤ z := by omega
        have C := Lib.hid C
        clear N q HX HY
        go_upto_region 4 with fail
        refine wp_region_still_tail 10 (by kernel_rfl) (by kernel_rfl) ?_
        simp only [List.take_succ_cons, List.take_zero, List.drop_succ_cons, List.drop_zero]
        still_step
        still_step
        still_step
        still_step
        still_step
        still_step
        still_step
        still_step
        still_step
        still_step
        refine wpStill_nil ?_
        change wpList _ _ _ _ _ (wr.drewN 1)
        have BD := Lib.hid (show Below w.heap.size w (wr.drewN 1) from BH.out.drew)
        generalize wr.drewN 1 = wd at *
        go_wp2_with fail
        refine (C.out _).mono ?_
        rintro e w1 ⟨rfl, b1⟩
        have B1 := Lib.hid (chainX w BD.out b1)
        clear b1
        go_wp2
        go_ret
        exact IffB.no NO.out B1.out
      · rw [q] at N
        have YS := Lib.hid (show ∀ i x y, i < k + 1 → l[i]? = some x → l[i + 1]? = some y → hLt x y = true from fun i x' y' hi h1 h2 => by
          by_cases e : i = k
          · subst e; rw [HX.out] at h1; rw [HY.out] at h2; cases h1; cases h2; exact q
          · exact HR.out i x' y' (by omega) h1 h2)
        have Z := of_decide_eq_true N
        have C := Lib.hid C
        clear N q HX HY
        go_upto_region 4 with fail
        refine wp_region_still_tail 10 (by kernel_rfl) (by kernel_rfl) ?_
        simp only [List.take_succ_cons, List.take_zero, List.drop_succ_cons, List.drop_zero]
        still_step
        still_step
        still_step
        still_step
        still_step
        still_step
        still_step
        still_step
        still_step
        still_step
        refine wpStill_nil ?_
        change wpList _ _ _ _ _ (wr.drewN 1)
        have BD := Lib.hid (show Below w.heap.size w (wr.drewN 1) from BH.out.drew)
        generalize wr.drewN 1 = wd at *
        go_wp2_with fail
        refine (C.out _).mono ?_
        rintro e w1 ⟨rfl, b1⟩
        have B1 := Lib.hid (chainX w BD.out b1)
        clear b1
        go_wp2
        go_roundw
        case rel => exact ⟨k + 1, by omega, by go_num, YS.out, B1.out⟩
        case measure => simp [intOf]; omega
    · have G := Lib.hid (show ∀ i x y, l[i]? = some x → l[i + 1]? = some y → hLt x y = true from fun i x y h1 h2 => HR.out i x y (by have := LEN.out _ _ h2; omega) h1 h2)
      clear hw
      go_wp2
      go_ret
      exact IffB.yes G.out BH.out
set_option maxRecDepth 100000 in
set_option maxHeartbeats 4000000 in
theorem risingLast (a : Option Addr) (cap : Nat) (l : List DLast) (w : World) (hl : l.length ≤ 2097152) {fr : Bool} {lo : Nat} (hc : Rows fr lo w a l) :
    Calls Tryz.prog 85 #[.slice a l.length cap, .func (.func 86) #[] #[]] w (IffB (∀ i x y, l[i]? = some x → l[i + 1]? = some y → lLt x y = true) w) := by
  have RH := Lib.hid hc
  have GET := Lib.hid (fun k (h : k < l.length) => get_lt h)
  have LEN := Lib.hid (fun k x (h : l[k]? = some x) => (List.getElem?_eq_some_iff.1 h).1)
  have NEG := Lib.hid (fun x y => negLast x y)
  obtain ⟨n, hn⟩ : ∃ n, l.length = n := ⟨_, rfl⟩
  rw [hn] at hl GET LEN ⊢
  clear hn hc
  go_enter Tryz.func85, Tryz.ntmps85
  go_wp2
  go_loopw [5] (fun i wr => ∃ k : Nat, (k + 1 ≤ n ∨ k = 0) ∧ i = .int .i64 (k + 1 : Nat) ∧ (∀ i x y, i < k → l[i]? = some x → l[i + 1]? = some y → lLt x y = true) ∧ Below w.heap.size w wr) (fun i _ => n + 1 - (intOf i).toNat)
  case atStart => exact ⟨0, by omega, rfl, fun i x y hi => absurd hi (Nat.not_lt_zero _), Below.refl _ _⟩
  case round =>
    obtain ⟨k, hkn, rfl, HR, hw⟩ := hrel
    have HR := Lib.hid HR
    have BH := Lib.hid hw
    by_cases hlt : k + 1 < n
    · obtain ⟨x, hx⟩ := GET.out k (by omega)
      obtain ⟨y, hy⟩ := GET.out (k + 1) hlt
      obtain ⟨b, off, cs, rfl, -, hB, hr, hcc⟩ := (RH.out.below hw).at' hx
      obtain ⟨b', off', cs', e', -, -, hr2, hcc2⟩ := (RH.out.below hw).at' hy
      obtain ⟨rfl, rfl⟩ : b = b' ∧ off = off' := by simpa using e'
      obtain ⟨rfl, f0_0, f0_1, f0_2, f0_3⟩ := shape_Last hr
      obtain ⟨rfl, f1_0, f1_1, f1_2, f1_3⟩ := shape_Last hr2
      have cx0 : wr.cell? ⟨b, off + k * 4, none⟩ = some (.int .i64 x.client) := hcc 0 _ rfl
      have cx1 : wr.cell? ⟨b, off + k * 4 + 1, none⟩ = some (.int .i64 x.no) := hcc 1 _ rfl
      have cx2 : wr.cell? ⟨b, off + k * 4 + 2, none⟩ = some (.int .i64 x.ver.epoch) := hcc 2 _ rfl
      have cx3 : wr.cell? ⟨b, off + k * 4 + 3, none⟩ = some (.int .i64 x.ver.seq) := hcc 3 _ rfl
      have cy0 : wr.cell? ⟨b, off + (k + 1) * 4, none⟩ = some (.int .i64 y.client) := hcc2 0 _ rfl
      have cy1 : wr.cell? ⟨b, off + (k + 1) * 4 + 1, none⟩ = some (.int .i64 y.no) := hcc2 1 _ rfl
      have cy2 : wr.cell? ⟨b, off + (k + 1) * 4 + 2, none⟩ = some (.int .i64 y.ver.epoch) := hcc2 2 _ rfl
      have cy3 : wr.cell? ⟨b, off + (k + 1) * 4 + 3, none⟩ = some (.int .i64 y.ver.seq) := hcc2 3 _ rfl
      have C := implLastCompare x y
      have N := NEG.out x y
      have j0 : (0 : Int) ≤ (k : Int) := by omega
      have j1 : (k : Int) < (n : Int) := by omega
      have WK : IntKind.i64.wrap (((k + 1 : Nat) : Int) - 1) = (k : Int) := by rw [IntKind.wrap_i64]; omega
      have k2 : (0 : Int) ≤ (k : Int) + 1 := by omega
      have WK2 : IntKind.i64.wrap (k : Int) = (k : Int) := by rw [IntKind.wrap_i64]; omega
      have k0 : (0 : Int) ≤ ((k + 1 : Nat) : Int) := by omega
      have k1 : ((k + 1 : Nat) : Int) < (n : Int) := by omega
      have HX := Lib.hid hx
      have HY := Lib.hid hy
      clear hcc hcc2 hr hr2 hw hx hy
      generalize cmpZ x.client y.client = z at *
      cases q : lLt x y
      · rw [q] at N
        have NO := Lib.hid (show ¬ ∀ i x y, l[i]? = some x → l[i + 1]? = some y → lLt x y = true from fun h => by have := h k x y HX.out HY.out; rw [q] at this; cases this)
        have Z := of_decide_eq_false N
        have Z' : 0 ≤ z := by omega
        have C := Lib.hid C
        clear N q HX HY
        go_upto_region 4 with fail
        refine wp_region_still_tail 10 (by kernel_rfl) (by kernel_rfl) ?_
        simp only [List.take_succ_cons, List.take_zero, List.drop_succ_cons, List.drop_zero]
        still_step
        still_step
        still_step
        still_step
        still_step
        still_step
        still_step
        still_step
        still_step
        still_step
        refine wpStill_nil ?_
        change wpList _ _ _ _ _ (wr.drewN 1)
        have BD := Lib.hid (show Below w.heap.size w (wr.drewN 1) from BH.out.drew)
        generalize wr.drewN 1 = wd at *
        go_wp2_with fail
        refine (C.out _).mono ?_
        rintro e w1 ⟨rfl, b1⟩
        have B1 := Lib.hid (chainX w BD.out b1)
        clear b1
        go_wp2
        go_ret
        exact IffB.no NO.out B1.out
      · rw [q] at N
        have YS := Lib.hid (show ∀ i x y, i < k + 1 → l[i]? = some x → l[i + 1]? = some y → lLt x y = true from fun i x' y' hi h1 h2 => by
          by_cases e : i = k
          · subst e; rw [HX.out] at h1; rw [HY.out] at h2; cases h1; cases h2; exact q
          · exact HR.out i x' y' (by omega) h1 h2)
        have Z := of_decide_eq_true N
        have C := Lib.hid C
        clear N q HX HY
        go_upto_region 4 with fail
        refine wp_region_still_tail 10 (by kernel_rfl) (by kernel_rfl) ?_
        simp only [List.take_succ_cons, List.take_zero, List.drop_succ_cons, List.drop_zero]
        still_step
        still_step
        still_step
        still_step
        still_step
        still_step
        still_step
        still_step
        still_step
        still_step
        refine wpStill_nil ?_
        change wpList _ _ _ _ _ (wr.drewN 1)
        have BD := Lib.hid (show Below w.heap.size w (wr.drewN 1) from BH.out.drew)
        generalize wr.drewN 1 = wd at *
        go_wp2_with fail
        refine (C.out _).mono ?_
        rintro e w1 ⟨rfl, b1⟩
        have B1 := Lib.hid (chainX w BD.out b1)
        clear b1
        go_wp2
        go_roundw
        case rel => exact ⟨k + 1, by omega, by go_num, YS.out, B1.out⟩
        case measure => simp [intOf]; omega
    · have G := Lib.hid (show ∀ i x y, l[i]? = some x → l[i + 1]? = some y → lLt x y = true from fun i x y h1 h2 => HR.out i x y (by have := LEN.out _ _ h2; omega) h1 h2)
      clear hw
      go_wp2
      go_ret
      exact IffB.yes G.out BH.out
def chkC (a b : DChunk) : Int := orZ [cmpS a.name b.name, verC a.ver b.ver, cmpZ a.pos b.pos]
theorem negChunk (a b : DChunk) : decide (chkC a b < 0) = cLt a b := by
  unfold chkC cLt
  cases h1 : sameS a.name b.name
  · have n : sLt a.name b.name = false → cmpS a.name b.name = 1 := fun h => by unfold cmpS; rw [h, h1]; rfl
    cases h2 : sLt a.name b.name
    · rw [n h2]; simp [orZ]
    · have : cmpS a.name b.name = -1 := by unfold cmpS; rw [h2]; rfl
      rw [this]; simp [orZ]
  · have e := sameS_iff.1 h1
    have z : cmpS a.name b.name = 0 := by unfold cmpS; rw [h1, e, sLt_irrefl]; rfl
    rw [z]
    have V := verC_neg a.ver b.ver
    simp only [if_true]
    by_cases h2 : a.ver.epoch = b.ver.epoch ∧ a.ver.seq = b.ver.seq
    · rw [if_pos h2]
      have z2 : verC a.ver b.ver = 0 := by unfold verC cmpZ; rw [h2.1, h2.2]; simp [orZ]
      rw [z2]
      unfold cmpZ
      by_cases h : a.pos < b.pos <;> by_cases h' : b.pos < a.pos <;> simp [orZ, h, h']
    · rw [if_neg h2]
      have z2 : verC a.ver b.ver ≠ 0 := by
        unfold verC cmpZ
        intro q
        apply h2
        by_cases i1 : a.ver.epoch < b.ver.epoch <;> by_cases i2 : b.ver.epoch < a.ver.epoch <;> by_cases i3 : a.ver.seq < b.ver.seq <;> by_cases i4 : b.ver.seq < a.ver.seq <;> simp [orZ, i1, i2, i3, i4] at q <;> omega
      have z3 : orZ [0, verC a.ver b.ver, cmpZ a.pos b.pos] = verC a.ver b.ver := by simp [orZ, z2]
      rw [z3]
      exact V
set_option maxRecDepth 100000 in
set_option maxHeartbeats 4000000 in
theorem implChunkCompare (a b : DChunk) (w : World) : Calls Tryz.prog 97 #[.agg #[.string a.name, .int .i64 a.ver.epoch, .int .i64 a.ver.seq, .int .i64 a.pos, .int .i64 a.sum, .string a.bytes], .agg #[.string b.name, .int .i64 b.ver.epoch, .int .i64 b.ver.seq, .int .i64 b.pos, .int .i64 b.sum, .string b.bytes]] w (RetW (.int .i64 (chkC a b)) w) := by
  have BH := Lib.hid (chainX w (lay w (.cells #[.string a.name, .int .i64 a.ver.epoch, .int .i64 a.ver.seq, .int .i64 a.pos, .int .i64 a.sum, .string a.bytes] 48)) (lay _ (.cells #[.string b.name, .int .i64 b.ver.epoch, .int .i64 b.ver.seq, .int .i64 b.pos, .int .i64 b.sum, .string b.bytes] 48)))
  have XH := Lib.hid ((BxN.new w #[.string a.name, .int .i64 a.ver.epoch, .int .i64 a.ver.seq, .int .i64 a.pos, .int .i64 a.sum, .string a.bytes] 48).later (lay _ (.cells #[.string b.name, .int .i64 b.ver.epoch, .int .i64 b.ver.seq, .int .i64 b.pos, .int .i64 b.sum, .string b.bytes] 48)))
  have Y0 := BxN.new (w.alloc (.cells #[.string a.name, .int .i64 a.ver.epoch, .int .i64 a.ver.seq, .int .i64 a.pos, .int .i64 a.sum, .string a.bytes] 48)) #[.string b.name, .int .i64 b.ver.epoch, .int .i64 b.ver.seq, .int .i64 b.pos, .int .i64 b.sum, .string b.bytes] 48
  rw [World.size_alloc] at Y0
  have YH := Lib.hid Y0
  clear Y0
  have C1 := Lib.hid (cmp_CompareS a.name b.name)
  have C2 := Lib.hid (implCompare a.ver b.ver)
  have C3 := Lib.hid (cmp_Compare a.pos b.pos)
  obtain ⟨v, hv⟩ : ∃ v, chkC a b = v := ⟨_, rfl⟩
  rw [hv]
  unfold chkC at hv
  generalize cmpS a.name b.name = p at *
  generalize verC a.ver b.ver = q at *
  generalize cmpZ a.pos b.pos = r at *
  have OR := Lib.hid (fun B c W (h0 : W.cell? ⟨B, 0, none⟩ = some (.int .i64 p)) (h1 : W.cell? ⟨B, 1, none⟩ = some (.int .i64 q)) (h2 : W.cell? ⟨B, 2, none⟩ = some (.int .i64 r)) => cmp_Or B c [p, q, r] W (by show 3 ≤ 1000; omega) (fun i z hz => by
    match i, hz with
    | 0, hz => obtain rfl : p = z := by simpa using hz
               exact h0
    | 1, hz => obtain rfl : q = z := by simpa using hz
               exact h1
    | 2, hz => obtain rfl : r = z := by simpa using hz
               exact h2
    | i + 3, hz => simp at hz))
  rw [hv] at OR
  generalize a.ver.epoch = ae at *
  generalize b.ver.epoch = be at *
  generalize a.ver.seq = sa at *
  generalize b.ver.seq = sb at *
  generalize a.name = na at *
  generalize b.name = nb at *
  generalize a.pos = pa at *
  generalize b.pos = pb at *
  clear hv
  go_enter Tryz.func97, Tryz.ntmps97
  go_wp2
  have x0 := XH.out.cells 0 _ rfl
  have x1 := XH.out.cells 1 _ rfl
  have x2 := XH.out.cells 2 _ rfl
  have x3 := XH.out.cells 3 _ rfl
  have y0 := YH.out.cells 0 _ rfl
  have y1 := YH.out.cells 1 _ rfl
  have y2 := YH.out.cells 2 _ rfl
  have y3 := YH.out.cells 3 _ rfl
  generalize (w.alloc (.cells #[.string na, .int .i64 ae, .int .i64 sa, .int .i64 pa, .int .i64 a.sum, .string a.bytes] 48)).alloc (.cells #[.string nb, .int .i64 be, .int .i64 sb, .int .i64 pb, .int .i64 b.sum, .string b.bytes] 48) = w1 at *
  have tok := True.intro
  go_region_held3 (fun w' => w'.cell? ⟨w.heap.size, 0, none⟩ = some (.string na) ∧ w'.cell? ⟨w.heap.size, 1, none⟩ = some (.int .i64 ae) ∧ w'.cell? ⟨w.heap.size, 2, none⟩ = some (.int .i64 sa) ∧ w'.cell? ⟨w.heap.size, 3, none⟩ = some (.int .i64 pa) ∧ w'.cell? ⟨w.heap.size + 1, 0, none⟩ = some (.string nb) ∧ w'.cell? ⟨w.heap.size + 1, 1, none⟩ = some (.int .i64 be) ∧ w'.cell? ⟨w.heap.size + 1, 2, none⟩ = some (.int .i64 sb) ∧ w'.cell? ⟨w.heap.size + 1, 3, none⟩ = some (.int .i64 pb)) (go_keep)
    ((first
      | (go_at_call 116; refine (C1.out _).mono ?_; rintro e w9 ⟨rfl, rfl⟩)
      | (go_at_call 118; refine (C3.out _).mono ?_; rintro e w9 ⟨rfl, rfl⟩)
      | (go_at_call 93; refine (C2.out _).mono ?_; rintro e w9 ⟨rfl, b9⟩; (try replace b9 := undrewX b9); have Q9 := Lib.hid (XH.out.later b9); clear XH; have XH := Q9; clear Q9; have Q9 := Lib.hid (YH.out.later b9); clear YH; have YH := Q9; clear Q9; have Q9 := Lib.hid (chainX w BH.out b9); clear BH; have BH := Q9; clear Q9; have x0 := XH.out.cells 0 _ rfl; have x1 := XH.out.cells 1 _ rfl; have x2 := XH.out.cells 2 _ rfl; have x3 := XH.out.cells 3 _ rfl; have y0 := YH.out.cells 0 _ rfl; have y1 := YH.out.cells 1 _ rfl; have y2 := YH.out.cells 2 _ rfl; have y3 := YH.out.cells 3 _ rfl; clear b9)
      | (go_at_call 121; refine (OR.out _ _ _ (by simp) (by simp) (by simp)).mono ?_; rintro e w9 ⟨rfl, rfl⟩)))
  all_goals
    clear tok
    go_wp2
    go_ret
    exact ⟨rfl, BH.out.alloc (by have := BH.out.size; omega) _⟩
set_option maxRecDepth 100000 in
set_option maxHeartbeats 4000000 in
theorem risingChunk (a : Option Addr) (cap : Nat) (l : List DChunk) (w : World) (hl : l.length ≤ 2097152) {fr : Bool} {lo : Nat} (hc : Rows fr lo w a l) :
    Calls Tryz.prog 96 #[.slice a l.length cap, .func (.func 97) #[] #[]] w (IffB (∀ i x y, l[i]? = some x → l[i + 1]? = some y → cLt x y = true) w) := by
  have RH := Lib.hid hc
  have GET := Lib.hid (fun k (h : k < l.length) => get_lt h)
  have LEN := Lib.hid (fun k x (h : l[k]? = some x) => (List.getElem?_eq_some_iff.1 h).1)
  have NEG := Lib.hid (fun x y => negChunk x y)
  obtain ⟨n, hn⟩ : ∃ n, l.length = n := ⟨_, rfl⟩
  rw [hn] at hl GET LEN ⊢
  clear hn hc
  go_enter Tryz.func96, Tryz.ntmps96
  go_wp2
  go_loopw [5] (fun i wr => ∃ k : Nat, (k + 1 ≤ n ∨ k = 0) ∧ i = .int .i64 (k + 1 : Nat) ∧ (∀ i x y, i < k → l[i]? = some x → l[i + 1]? = some y → cLt x y = true) ∧ Below w.heap.size w wr) (fun i _ => n + 1 - (intOf i).toNat)
  case atStart => exact ⟨0, by omega, rfl, fun i x y hi => absurd hi (Nat.not_lt_zero _), Below.refl _ _⟩
  case round =>
    obtain ⟨k, hkn, rfl, HR, hw⟩ := hrel
    have HR := Lib.hid HR
    have BH := Lib.hid hw
    by_cases hlt : k + 1 < n
    · obtain ⟨x, hx⟩ := GET.out k (by omega)
      obtain ⟨y, hy⟩ := GET.out (k + 1) hlt
      obtain ⟨b, off, cs, rfl, -, hB, hr, hcc⟩ := (RH.out.below hw).at' hx
      obtain ⟨b', off', cs', e', -, -, hr2, hcc2⟩ := (RH.out.below hw).at' hy
      obtain ⟨rfl, rfl⟩ : b = b' ∧ off = off' := by simpa using e'
      obtain ⟨rfl, f0_0, f0_1, f0_2, f0_3, f0_4, f0_5⟩ := shape_Chunk hr
      obtain ⟨rfl, f1_0, f1_1, f1_2, f1_3, f1_4, f1_5⟩ := shape_Chunk hr2
      have cx0 : wr.cell? ⟨b, off + k * 6, none⟩ = some (.string x.name) := hcc 0 _ rfl
      have cx1 : wr.cell? ⟨b, off + k * 6 + 1, none⟩ = some (.int .i64 x.ver.epoch) := hcc 1 _ rfl
      have cx2 : wr.cell? ⟨b, off + k * 6 + 2, none⟩ = some (.int .i64 x.ver.seq) := hcc 2 _ rfl
      have cx3 : wr.cell? ⟨b, off + k * 6 + 3, none⟩ = some (.int .i64 x.pos) := hcc 3 _ rfl
      have cx4 : wr.cell? ⟨b, off + k * 6 + 4, none⟩ = some (.int .i64 x.sum) := hcc 4 _ rfl
      have cx5 : wr.cell? ⟨b, off + k * 6 + 5, none⟩ = some (.string x.bytes) := hcc 5 _ rfl
      have cy0 : wr.cell? ⟨b, off + (k + 1) * 6, none⟩ = some (.string y.name) := hcc2 0 _ rfl
      have cy1 : wr.cell? ⟨b, off + (k + 1) * 6 + 1, none⟩ = some (.int .i64 y.ver.epoch) := hcc2 1 _ rfl
      have cy2 : wr.cell? ⟨b, off + (k + 1) * 6 + 2, none⟩ = some (.int .i64 y.ver.seq) := hcc2 2 _ rfl
      have cy3 : wr.cell? ⟨b, off + (k + 1) * 6 + 3, none⟩ = some (.int .i64 y.pos) := hcc2 3 _ rfl
      have cy4 : wr.cell? ⟨b, off + (k + 1) * 6 + 4, none⟩ = some (.int .i64 y.sum) := hcc2 4 _ rfl
      have cy5 : wr.cell? ⟨b, off + (k + 1) * 6 + 5, none⟩ = some (.string y.bytes) := hcc2 5 _ rfl
      have C := implChunkCompare x y
      have N := NEG.out x y
      have j0 : (0 : Int) ≤ (k : Int) := by omega
      have j1 : (k : Int) < (n : Int) := by omega
      have WK : IntKind.i64.wrap (((k + 1 : Nat) : Int) - 1) = (k : Int) := by rw [IntKind.wrap_i64]; omega
      have k2 : (0 : Int) ≤ (k : Int) + 1 := by omega
      have WK2 : IntKind.i64.wrap (k : Int) = (k : Int) := by rw [IntKind.wrap_i64]; omega
      have k0 : (0 : Int) ≤ ((k + 1 : Nat) : Int) := by omega
      have k1 : ((k + 1 : Nat) : Int) < (n : Int) := by omega
      have HX := Lib.hid hx
      have HY := Lib.hid hy
      clear hcc hcc2 hr hr2 hw hx hy
      generalize chkC x y = z at *
      cases q : cLt x y
      · rw [q] at N
        have NO := Lib.hid (show ¬ ∀ i x y, l[i]? = some x → l[i + 1]? = some y → cLt x y = true from fun h => by have := h k x y HX.out HY.out; rw [q] at this; cases this)
        have Z := of_decide_eq_false N
        have Z' : 0 ≤ z := by omega
        have C := Lib.hid C
        clear N q HX HY
        go_upto_region 4 with fail
        refine wp_region_still_tail 10 (by kernel_rfl) (by kernel_rfl) ?_
        simp only [List.take_succ_cons, List.take_zero, List.drop_succ_cons, List.drop_zero]
        still_step
        still_step
        still_step
        still_step
        still_step
        still_step
        still_step
        still_step
        still_step
        still_step
        refine wpStill_nil ?_
        change wpList _ _ _ _ _ (wr.drewN 1)
        have BD := Lib.hid (show Below w.heap.size w (wr.drewN 1) from BH.out.drew)
        generalize wr.drewN 1 = wd at *
        go_wp2_with fail
        refine (C.out _).mono ?_
        rintro e w1 ⟨rfl, b1⟩
        have B1 := Lib.hid (chainX w BD.out b1)
        clear b1
        go_wp2
        go_ret
        exact IffB.no NO.out B1.out
      · rw [q] at N
        have YS := Lib.hid (show ∀ i x y, i < k + 1 → l[i]? = some x → l[i + 1]? = some y → cLt x y = true from fun i x' y' hi h1 h2 => by
          by_cases e : i = k
          · subst e; rw [HX.out] at h1; rw [HY.out] at h2; cases h1; cases h2; exact q
          · exact HR.out i x' y' (by omega) h1 h2)
        have Z := of_decide_eq_true N
        have C := Lib.hid C
        clear N q HX HY
        go_upto_region 4 with fail
        refine wp_region_still_tail 10 (by kernel_rfl) (by kernel_rfl) ?_
        simp only [List.take_succ_cons, List.take_zero, List.drop_succ_cons, List.drop_zero]
        still_step
        still_step
        still_step
        still_step
        still_step
        still_step
        still_step
        still_step
        still_step
        still_step
        refine wpStill_nil ?_
        change wpList _ _ _ _ _ (wr.drewN 1)
        have BD := Lib.hid (show Below w.heap.size w (wr.drewN 1) from BH.out.drew)
        generalize wr.drewN 1 = wd at *
        go_wp2_with fail
        refine (C.out _).mono ?_
        rintro e w1 ⟨rfl, b1⟩
        have B1 := Lib.hid (chainX w BD.out b1)
        clear b1
        go_wp2
        go_roundw
        case rel => exact ⟨k + 1, by omega, by go_num, YS.out, B1.out⟩
        case measure => simp [intOf]; omega
    · have G := Lib.hid (show ∀ i x y, l[i]? = some x → l[i + 1]? = some y → cLt x y = true from fun i x y h1 h2 => HR.out i x y (by have := LEN.out _ _ h2; omega) h1 h2)
      clear hw
      go_wp2
      go_ret
      exact IffB.yes G.out BH.out
end Go.Proofs.YtbckdfoapmjilaaGreatDoor.Rd
