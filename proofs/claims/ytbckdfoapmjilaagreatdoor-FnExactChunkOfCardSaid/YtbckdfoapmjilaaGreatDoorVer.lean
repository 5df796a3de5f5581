/-
  Versions: which is less, in the program (cmp.Or over two cmp.Compare) and in the model.
-/
import Derived.Test.YtbckdfoapmjilaaGreatDoorDVer
import Derived.Deep.RegionHeld3
import Derived.StillTailTactics
namespace Go.Proofs.YtbckdfoapmjilaaGreatDoor.Rd
open Go.RowKit Go.ChangeShapes Go.WideShapes
open Go.Proofs.YtbckdfoapmjilaaGreatDoor.Sg (BxN)
set_option linter.unusedVariables false
set_option linter.unusedSimpArgs false

def cmpZ (a b : Int) : Int := if a < b then -1 else if b < a then 1 else 0
def orZ : List Int → Int
  | [] => 0
  | z :: r => if z = 0 then orZ r else z
theorem cmp_isNaN (n : Int) (w : World) : Calls Tryz.prog 132 #[.int .i64 n] w fun e w' => e = .returned (.bool false) ∧ w = w' := by
  have h : (n != n) = false := by simp
  go_enter Tryz.func132, Tryz.ntmps132
  go_wp2
  go_ret
  exact ⟨rfl, rfl⟩
theorem cmp_Compare (a b : Int) (w : World) : Calls Tryz.prog 118 #[.int .i64 a, .int .i64 b] w fun e w' => e = .returned (.int .i64 (cmpZ a b)) ∧ w = w' := by
  have N := Lib.hid cmp_isNaN
  unfold cmpZ
  by_cases h : a < b
  · rw [if_pos h]
    go_enter Tryz.func118, Tryz.ntmps118
    go_wp2_with (go_at_call 132; refine (N.out _ _).mono ?_; rintro e w2 ⟨rfl, rfl⟩)
    go_ret
    exact ⟨rfl, rfl⟩
  · rw [if_neg h]
    by_cases h2 : b < a
    · rw [if_pos h2]
      go_enter Tryz.func118, Tryz.ntmps118
      go_wp2_with (go_at_call 132; refine (N.out _ _).mono ?_; rintro e w2 ⟨rfl, rfl⟩)
      go_ret
      exact ⟨rfl, rfl⟩
    · rw [if_neg h2]
      go_enter Tryz.func118, Tryz.ntmps118
      go_wp2_with (go_at_call 132; refine (N.out _ _).mono ?_; rintro e w2 ⟨rfl, rfl⟩)
      go_ret
      exact ⟨rfl, rfl⟩
/-- cmp.Or at a row of numbers: the first that is not zero. -/
theorem cmp_Or (b c : Nat) (zs : List Int) (w : World) (hn : zs.length ≤ 1000) (hc : ∀ i z, zs[i]? = some z → w.cell? ⟨b, i, none⟩ = some (.int .i64 z)) :
    Calls Tryz.prog 121 #[.slice (some ⟨b, 0, none⟩) zs.length c] w fun e w' => e = .returned (.int .i64 (orZ zs)) ∧ w = w' := by
  have HL := Lib.hid (fun k (h : k < zs.length) => get_lt h)
  have HD := Lib.hid (fun k z (h : zs[k]? = some z) => (show zs.drop k = z :: zs.drop (k + 1) from by
    have hk := (List.getElem?_eq_some_iff.1 h).1
    rw [List.drop_eq_getElem_cons hk]; congr 1; exact Option.some.inj ((List.getElem?_eq_getElem hk).symm.trans h)))
  have HE := Lib.hid (List.drop_length (l := zs))
  have HC := Lib.hid hc
  obtain ⟨n, hn'⟩ : ∃ n, n = zs.length := ⟨_, rfl⟩
  rw [← hn'] at HL HE hn ⊢
  clear hc hn'
  obtain ⟨v, hv⟩ : ∃ v, orZ zs = v := ⟨_, rfl⟩
  rw [hv]
  have HV := Lib.hid hv
  clear hv
  go_enter Tryz.func121, Tryz.ntmps121
  go_wp2
  go_loopw [8] (fun i wr => ∃ k : Nat, k ≤ n ∧ i = .int .i64 k ∧ wr = w ∧ orZ (zs.drop k) = v) (fun i _ => n - (intOf i).toNat)
  case atStart => exact ⟨0, by omega, rfl, rfl, HV.out⟩
  case round =>
    obtain ⟨k, hk, rfl, rfl, hz⟩ := hrel
    by_cases hlt : k < n
    · obtain ⟨z, hx⟩ := HL.out k hlt
      have c0 := HC.out k z hx
      rw [HD.out k z hx] at hz
      unfold orZ at hz
      clear hx
      by_cases q : z = 0
      · subst q
        rw [if_pos rfl] at hz
        have HZ := Lib.hid hz
        clear hz
        go_wp2
        go_roundw
        case rel => exact ⟨k + 1, by omega, by go_num, by trivial, HZ.out⟩
        case measure => simp [intOf]; omega
      · rw [if_neg q] at hz
        have q2 : (z != 0) = true := by simpa using q
        clear q
        subst hz
        go_wp2
        go_ret
        exact ⟨rfl, rfl⟩
    · rw [show k = n by omega, HE.out] at hz
      have F := Lib.hid (show v = 0 from hz.symm)
      clear hz
      go_wp2
      go_ret
      exact ⟨by rw [F.out]; rfl, rfl⟩
def verC (a b : DVer) : Int := orZ [cmpZ a.epoch b.epoch, cmpZ a.seq b.seq]
/-- a is less than b. -/
def verL (a b : DVer) : Bool := decide (a.epoch < b.epoch) || (decide (a.epoch = b.epoch) && decide (a.seq < b.seq))
theorem verC_neg (a b : DVer) : decide (verC a b < 0) = verL a b := by
  unfold verC verL cmpZ
  by_cases h1 : a.epoch < b.epoch <;> by_cases h2 : b.epoch < a.epoch <;> by_cases h3 : a.seq < b.seq <;> by_cases h4 : b.seq < a.seq <;> simp [orZ, h1, h2, h3, h4] <;> omega
set_option maxRecDepth 100000 in
set_option maxHeartbeats 4000000 in
theorem implCompare (a b : DVer) (w : World) :
    Calls Tryz.prog 93 #[.agg #[.int .i64 a.epoch, .int .i64 a.seq], .agg #[.int .i64 b.epoch, .int .i64 b.seq]] w (RetW (.int .i64 (verC a b)) w) := by
  have BH := Lib.hid (chainX w (lay w (.cells #[.int .i64 a.epoch, .int .i64 a.seq] 35)) (lay _ (.cells #[.int .i64 b.epoch, .int .i64 b.seq] 35)))
  have XH := Lib.hid ((BxN.new w #[.int .i64 a.epoch, .int .i64 a.seq] 35).later (lay _ (.cells #[.int .i64 b.epoch, .int .i64 b.seq] 35)))
  have Y0 := BxN.new (w.alloc (.cells #[.int .i64 a.epoch, .int .i64 a.seq] 35)) #[.int .i64 b.epoch, .int .i64 b.seq] 35
  rw [World.size_alloc] at Y0
  have YH := Lib.hid Y0
  clear Y0
  have C1 := Lib.hid (cmp_Compare a.epoch b.epoch)
  have C2 := Lib.hid (cmp_Compare a.seq b.seq)
  obtain ⟨v, hv⟩ : ∃ v, verC a b = v := ⟨_, rfl⟩
  rw [hv]
  unfold verC at hv
  generalize cmpZ a.epoch b.epoch = p at *
  generalize cmpZ a.seq b.seq = q at *
  have OR := Lib.hid (fun B c W (h0 : W.cell? ⟨B, 0, none⟩ = some (.int .i64 p)) (h1 : W.cell? ⟨B, 1, none⟩ = some (.int .i64 q)) => cmp_Or B c [p, q] W (by show 2 ≤ 1000; omega) (fun i z hz => by
    match i, hz with
    | 0, hz => obtain rfl : p = z := by simpa using hz
               exact h0
    | 1, hz => obtain rfl : q = z := by simpa using hz
               exact h1
    | i + 2, hz => simp at hz))
  rw [hv] at OR
  generalize a.epoch = ae at *
  generalize b.epoch = be at *
  generalize a.seq = sa at *
  generalize b.seq = sb at *
  clear hv
  go_enter Tryz.func93, Tryz.ntmps93
  go_wp2
  generalize (w.alloc (.cells #[.int .i64 ae, .int .i64 sa] 35)).alloc (.cells #[.int .i64 be, .int .i64 sb] 35) = w1 at *
  have x0 := XH.out.cells 0 _ rfl
  have x1 := XH.out.cells 1 _ rfl
  have y0 := YH.out.cells 0 _ rfl
  have y1 := YH.out.cells 1 _ rfl
  refine wp_region_still_tail 10 (by kernel_rfl) (by kernel_rfl) ?_
  simp only [List.take_succ_cons, List.take_zero, List.drop_succ_cons, List.drop_zero]
  still_step
  still_step
  still_step
  still_step
  still_call ((C1.out _).mono fun _ _ q => ⟨q.1, q.2.symm⟩)
  still_step
  still_step
  still_step
  still_step
  still_call ((C2.out _).mono fun _ _ q => ⟨q.1, q.2.symm⟩)
  refine wpStill_nil ?_
  change wpList _ _ _ _ _ (w1.drewN 1)
  have B1 := Lib.hid (show Below w.heap.size w (w1.drewN 1) from BH.out.drew)
  generalize w1.drewN 1 = w2 at *
  clear x0 x1 y0 y1 XH YH BH C1 C2
  go_wp2_with (go_at_call 121; refine (OR.out _ _ _ (by simp) (by simp)).mono ?_; rintro e w3 ⟨rfl, rfl⟩)
  go_ret
  exact ⟨rfl, B1.out.alloc (by have := B1.out.size; omega) _⟩
set_option maxRecDepth 100000 in
set_option maxHeartbeats 4000000 in
theorem implVerLess (a b : DVer) (w : World) :
    Calls Tryz.prog 47 #[.agg #[.int .i64 a.epoch, .int .i64 a.seq], .agg #[.int .i64 b.epoch, .int .i64 b.seq]] w (RetW (.bool (verL a b)) w) := by
  have BH := Lib.hid (chainX w (lay w (.cells #[.int .i64 a.epoch, .int .i64 a.seq] 35)) (lay _ (.cells #[.int .i64 b.epoch, .int .i64 b.seq] 35)))
  have C := Lib.hid (implCompare a b)
  have E := verC_neg a b
  generalize verC a b = c at *
  generalize verL a b = v at *
  go_enter Tryz.func47, Tryz.ntmps47
  go_wp2_with (go_at_call 93; refine (C.out _).mono ?_; rintro e w2 ⟨rfl, b2⟩; have B2 := Lib.hid (chainX w BH.out b2); clear b2)
  go_ret
  exact ⟨rfl, B2.out⟩
set_option maxRecDepth 100000 in
set_option maxHeartbeats 4000000 in
theorem specVerLess (a b : DVer) (w : World) :
    Calls Tryz.prog 34 #[.agg #[.int .i64 a.epoch, .int .i64 a.seq], .agg #[.int .i64 b.epoch, .int .i64 b.seq]] w (RetW (.bool (verL a b)) w) := by
  have BH := Lib.hid (chainX w (lay w (.cells #[.int .i64 a.epoch, .int .i64 a.seq] 35)) (lay _ (.cells #[.int .i64 b.epoch, .int .i64 b.seq] 35)))
  obtain ⟨v, hv⟩ : ∃ v, verL a b = v := ⟨_, rfl⟩
  rw [hv]
  unfold verL at hv
  generalize a.epoch = ae at *
  generalize b.epoch = be at *
  generalize a.seq = sa at *
  generalize b.seq = sb at *
  by_cases h1 : ae < be
  · simp only [h1, decide_true, Bool.true_or] at hv
    subst hv
    go_enter Tryz.func34, Tryz.ntmps34
    go_wp2
    go_ret
    exact ⟨rfl, BH.out⟩
  · have q1 : decide (ae < be) = false := decide_eq_false h1
    by_cases h2 : ae = be
    · subst h2
      simp only [q1, decide_true, Bool.true_and, Bool.false_or] at hv
      subst hv
      clear q1
      go_enter Tryz.func34, Tryz.ntmps34
      go_wp2
      go_ret
      exact ⟨rfl, BH.out⟩
    · simp only [q1, h2, decide_false, Bool.false_and, Bool.false_or] at hv
      subst hv
      have q2 : (ae == be) = false := by simpa using h2
      clear h2
      go_enter Tryz.func34, Tryz.ntmps34
      go_wp2
      go_ret
      exact ⟨rfl, BH.out⟩
end Go.Proofs.YtbckdfoapmjilaaGreatDoor.Rd
