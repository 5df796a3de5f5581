/-
  A tree that came in; the model's look-ups in it: the place of a device, of a bucket, the kind of a thing.
-/
import Derived.Test.YtoikdonecbpjaaaDevOk
import Derived.Test.YtoikdonecbpjaaaTre
namespace Go.Proofs.Ytoikdonecbpjaaa.Tm
open Go.RowKit Go.Proofs.Ytoikdonecbpjaaa.GfI Go.Proofs.Ytoikdonecbpjaaa.GfS Go.Proofs.Ytoikdonecbpjaaa.MixC
open Go.Proofs.Ytoikdonecbpjaaa.It (lay chain)
open Go.Proofs.Ytoikdonecbpjaaa.Rc (Recs)
open Go.Proofs.Ytoikdonecbpjaaa.Bk (Bks tval bval)
open Go.Proofs.Ytoikdonecbpjaaa.Sg (BxN)
set_option linter.unusedVariables false

theorem ixI_hit {f : Nat → Int} {x : Int} {n k : Nat} (hk : k < n) (h : ∀ j, j < k → f j ≠ x) (e : f k = x) : ixI f x n = k := by
  unfold ixI; rw [← e]; rw [ix_at hk (fun j hj q => h j hj (by rw [q, e]))]
theorem ixI_none {f : Nat → Int} {x : Int} {n : Nat} (h : ∀ j, j < n → f j ≠ x) : ixI f x n = -1 := by
  unfold ixI; rw [ix_none.2 h]

/-- Where a tree lies: the slices' addresses and capacities. -/
structure TA where
  da : Option Addr
  dc : Nat
  ba : Option Addr
  bc : Nat
  I : Nat → Option Addr
  C : Nat → Nat
abbrev TA.val (A : TA) (T : TD) : Value := tval (.slice A.da T.dn A.dc) (.slice A.ba T.bn A.bc)
/-- The tree T lies at A. -/
structure TIn (w : World) (T : TD) (A : TA) : Prop where
  devs : Recs w A.da T.dn T.df T.dg
  bkts : Bks w A.ba T.bn T.bf T.bg A.I T.L A.C
theorem TIn.below {w w' : World} {T : TD} {A : TA} (h : TIn w T A) (b : Below w.heap.size w w') : TIn w' T A := ⟨h.devs.below b, h.bkts.below b⟩
structure TD.Sz (T : TD) : Prop where
  dn : T.dn ≤ 2097152
  bn : T.bn ≤ 2097152
  L : ∀ i, i < T.bn → (T.L i).length ≤ 2097152
def IntB (n : Int) (w : World) (e : Ending) (w' : World) : Prop := e = .returned (.int .i64 n) ∧ Below w.heap.size w w'

set_option maxRecDepth 100000 in
theorem l06Device (T : TD) (A : TA) (x : Int) (w : World) (S : T.Sz) (h : TIn w T A) :
    Calls Try.prog 64 #[A.val T, .int .i64 x] w (IntB (ixI T.df x T.dn) w) := by
  obtain ⟨da, dc, ba, bc, I, C⟩ := A
  have LH := Lib.hid (lay w (.cells #[.slice da T.dn dc, .slice ba T.bn bc] 31))
  have HD := Lib.hid (h.below LH.out).devs
  have hn := S.dn
  have HIT := Lib.hid (fun k => @ixI_hit T.df x T.dn k)
  have NON := Lib.hid (@ixI_none T.df x T.dn)
  clear h S
  show Calls Try.prog 64 #[tval (.slice da T.dn dc) (.slice ba T.bn bc), .int .i64 x] w _
  generalize ixI T.df x T.dn = r at *
  generalize T.dn = n at *
  generalize T.bn = m at *
  go_enter Try.func64, Try.ntmps64
  go_wp2
  go_loop [5] (fun i => ∃ k : Nat, k ≤ n ∧ i = .int .i64 k ∧ ∀ j, j < k → T.df j ≠ x) (fun i => n - (intOf i).toNat)
  case atStart => exact ⟨0, by omega, rfl, fun j hj => by omega⟩
  case round =>
    obtain ⟨k, hk, rfl, N⟩ := hrel
    have NH := Lib.hid N
    clear N
    by_cases hlt : k < n
    · obtain ⟨b, off, rfl, hB, hcc⟩ := HD.out.resolve_left (by omega)
      obtain ⟨c0, c1⟩ := hcc k hlt
      clear hcc
      by_cases q : T.df k = x
      · have R := Lib.hid (HIT.out k hlt NH.out q)
        generalize T.df k = y at *
        subst q
        go_wp2
        go_ret
        rw [R.out]
        exact ⟨rfl, LH.out⟩
      · have N2 := Lib.hid (show ∀ j, j < k + 1 → T.df j ≠ x from fun j hj => if e : j = k then by rw [e]; exact q else NH.out j (by omega))
        generalize T.df k = y at *
        have q' : (y == x) = false := by simpa using q
        clear q
        go_wp2
        go_round
        case rel => exact ⟨k + 1, by omega, by go_num, N2.out⟩
        case measure => simp [intOf]; omega
    · obtain rfl : k = n := by omega
      have R := Lib.hid (NON.out NH.out)
      go_wp2
      go_ret
      rw [R.out]
      exact ⟨rfl, LH.out⟩
set_option maxRecDepth 100000 in
theorem l06Bucket (T : TD) (A : TA) (x : Int) (w : World) (S : T.Sz) (h : TIn w T A) :
    Calls Try.prog 111 #[A.val T, .int .i64 x] w (IntB (ixI T.bf x T.bn) w) := by
  obtain ⟨da, dc, ba, bc, I, C⟩ := A
  have LH := Lib.hid (lay w (.cells #[.slice da T.dn dc, .slice ba T.bn bc] 31))
  have HD := Lib.hid (h.below LH.out).bkts
  have hn := S.bn
  have HIT := Lib.hid (fun k => @ixI_hit T.bf x T.bn k)
  have NON := Lib.hid (@ixI_none T.bf x T.bn)
  clear h S
  show Calls Try.prog 111 #[tval (.slice da T.dn dc) (.slice ba T.bn bc), .int .i64 x] w _
  generalize ixI T.bf x T.bn = r at *
  generalize T.dn = m at *
  generalize T.bn = n at *
  go_enter Try.func111, Try.ntmps111
  go_wp2
  go_loop [5] (fun i => ∃ k : Nat, k ≤ n ∧ i = .int .i64 k ∧ ∀ j, j < k → T.bf j ≠ x) (fun i => n - (intOf i).toNat)
  case atStart => exact ⟨0, by omega, rfl, fun j hj => by omega⟩
  case round =>
    obtain ⟨k, hk, rfl, N⟩ := hrel
    have NH := Lib.hid N
    clear N
    by_cases hlt : k < n
    · obtain ⟨b, off, rfl, hB, hcc⟩ := HD.out.resolve_left (by omega)
      obtain ⟨c0, -, -, -⟩ := hcc k hlt
      clear hcc
      by_cases q : T.bf k = x
      · have R := Lib.hid (HIT.out k hlt NH.out q)
        generalize T.bf k = y at *
        subst q
        go_wp2
        go_ret
        rw [R.out]
        exact ⟨rfl, LH.out⟩
      · have N2 := Lib.hid (show ∀ j, j < k + 1 → T.bf j ≠ x from fun j hj => if e : j = k then by rw [e]; exact q else NH.out j (by omega))
        generalize T.bf k = y at *
        have q' : (y == x) = false := by simpa using q
        clear q
        go_wp2
        go_round
        case rel => exact ⟨k + 1, by omega, by go_num, N2.out⟩
        case measure => simp [intOf]; omega
    · obtain rfl : k = n := by omega
      have R := Lib.hid (NON.out NH.out)
      go_wp2
      go_ret
      rw [R.out]
      exact ⟨rfl, LH.out⟩

theorem kd_dev' {T : TD} {x : Int} {i : Nat} (h : ix T.df x T.dn = some i) : T.kd x = 0 := by unfold TD.kd; rw [h]
theorem kd_bkt' {T : TD} {x : Int} {j : Nat} (h : ix T.df x T.dn = none) (g : ix T.bf x T.bn = some j) : T.kd x = T.bg j := by unfold TD.kd; rw [h]; dsimp only; rw [g]
theorem kd_no' {T : TD} {x : Int} (h : ix T.df x T.dn = none) (g : ix T.bf x T.bn = none) : T.kd x = -1 := by unfold TD.kd; rw [h]; dsimp only; rw [g]
set_option maxRecDepth 100000 in
theorem l06Kind (T : TD) (A : TA) (x : Int) (w : World) (S : T.Sz) (h : TIn w T A) :
    Calls Try.prog 68 #[A.val T, .int .i64 x] w (IntB (T.kd x) w) := by
  have LH := Lib.hid (lay w (.cells #[.slice A.da T.dn A.dc, .slice A.ba T.bn A.bc] 31))
  have X := Lib.hid (BxN.new w #[.slice A.da T.dn A.dc, .slice A.ba T.bn A.bc] 31)
  have CD := fun w' (b : Below w.heap.size w w') => l06Device T A x w' S (h.below b)
  have CB := fun w' (b : Below w.heap.size w w') => l06Bucket T A x w' S (h.below b)
  have hn := S.bn
  have HB := Lib.hid h.bkts
  clear h S
  unfold ixI at CD CB
  obtain ⟨da, dc, ba, bc, I, C⟩ := A
  have E : TA.val ⟨da, dc, ba, bc, I, C⟩ T = tval (.slice da T.dn dc) (.slice ba T.bn bc) := rfl
  rw [E] at CD CB ⊢
  clear E
  cases q : ix T.df x T.dn with
  | some i =>
    rw [q] at CD
    have K := kd_dev' q
    rw [K]
    have CDH := Lib.hid CD
    clear K q CD CB
    generalize T.bn = bn at *
    generalize T.dn = dn at *
    go_enter Try.func68, Try.ntmps68
    go_wp2_with fail
    refine (CDH.out _ LH.out).mono ?_
    rintro e w1 ⟨rfl, b1⟩
    have B1 := Lib.hid (chain LH.out b1)
    have hi : (0 : Int) ≤ (i : Int) := by omega
    clear b1
    go_wp2
    go_ret
    exact ⟨rfl, B1.out⟩
  | none =>
    rw [q] at CD
    cases r : ix T.bf x T.bn with
    | some j =>
      rw [r] at CB
      have K := kd_bkt' q r
      rw [K]
      obtain ⟨hj, -, -⟩ := ix_some r
      have CDH := Lib.hid CD
      have CBH := Lib.hid CB
      clear K q r CD CB
      generalize T.bn = bn at *
      generalize T.dn = dn at *
      have hi : (0 : Int) ≤ (j : Int) := by omega
      have hi2 : (j : Int) < (bn : Int) := by omega
      go_enter Try.func68, Try.ntmps68
      go_wp2_with fail
      refine (CDH.out _ LH.out).mono ?_
      rintro e w1 ⟨rfl, b1⟩
      have B1 := Lib.hid (chain LH.out b1)
      have X1 := Lib.hid (X.out.later b1)
      have x0 := X1.out.cells 0 _ rfl
      have x1 := X1.out.cells 1 _ rfl
      clear b1
      go_wp2_with fail
      refine (CBH.out _ B1.out).mono ?_
      rintro e w2 ⟨rfl, b2⟩
      have B2 := Lib.hid (chain B1.out b2)
      have X2 := Lib.hid (X1.out.later b2)
      have x0 := X2.out.cells 0 _ rfl
      have x1 := X2.out.cells 1 _ rfl
      have hb2 := HB.out.below B2.out
      obtain ⟨b, off, rfl, hB, hcc⟩ := hb2.resolve_left (by omega)
      obtain ⟨-, c1, -, -⟩ := hcc j hj
      clear b2 hcc hb2
      generalize T.bg j = y at *
      go_wp2
      go_ret
      exact ⟨rfl, B2.out⟩
    | none =>
      rw [r] at CB
      have K := kd_no' q r
      rw [K]
      have CDH := Lib.hid CD
      have CBH := Lib.hid CB
      clear K q r CD CB
      generalize T.bn = bn at *
      generalize T.dn = dn at *
      go_enter Try.func68, Try.ntmps68
      go_wp2_with fail
      refine (CDH.out _ LH.out).mono ?_
      rintro e w1 ⟨rfl, b1⟩
      have B1 := Lib.hid (chain LH.out b1)
      have X1 := Lib.hid (X.out.later b1)
      have x0 := X1.out.cells 0 _ rfl
      have x1 := X1.out.cells 1 _ rfl
      clear b1
      go_wp2_with fail
      refine (CBH.out _ B1.out).mono ?_
      rintro e w2 ⟨rfl, b2⟩
      have B2 := Lib.hid (chain B1.out b2)
      clear b2
      go_wp2
      go_ret
      exact ⟨rfl, B2.out⟩
end Go.Proofs.Ytoikdonecbpjaaa.Tm
