/-
  The exact law of GetOp: the program answers as the model, whatever the text. No condition.
-/
import Derived.Test.YtbnjgehgaellmaaDoorStf
import Derived.Test.YtbnjgehgaellmaaDoorGetOS
namespace Go.Proofs.YtbnjgehgaellmaaDoor.Rd
open Go.RowKit Go.ChangeShapes Go.WideShapes Go.Proofs.YtbnjgehgaellmaaDoor.Gt
open Go.Proofs.YtbnjgehgaellmaaDoor.Sg (BxN)
set_option linter.unusedVariables false
set_option linter.unusedSimpArgs false

set_option maxRecDepth 100000 in
set_option maxHeartbeats 4000000 in
theorem fnGetOp (s : ByteArray) (d : DOp) (n : Int) (b : Bool) (hz : Rdb.sz d ≤ 2097152) (wk : (Lit.int .i64 d.kind).wf = true) (wa : (Lit.int .i64 d.atF).wf = true) (w : World)
    (hS : s.size ≤ 1048576 → ∀ w', Calls Tryd.prog 4 #[.string s] w' (RetW (.tuple #[.agg #[.int .i64 d.kind, .int .i64 d.atF, .string d.bytes], .int .i64 n, .bool b]) w'))
    (hI : s.size ≤ 1048576 → ∀ w', Below w.heap.size w w' → Calls Tryd.prog 5 #[.string s] w' (RetW (.tuple #[.agg #[.int .i64 d.kind, .int .i64 d.atF, .string d.bytes], .int .i64 n, .bool b]) w')) :
    Calls Tryd.prog 3 #[.string s] w (RetW (.bool true) w) := by
  have BH := Lib.hid (Below.refl w.heap.size w)
  by_cases q : 1048576 < s.size
  · go_enter Tryd.func3, Tryd.ntmps3
    go_wp2
    go_ret
    exact ⟨rfl, BH.out⟩
  · have q1 : ¬ (1048576 : Int) < (s.size : Int) := by omega
    have HS := Lib.hid (hS (by omega)); have HI := Lib.hid (hI (by omega))
    have bz : d.bytes.size ≤ 9223372036854775807 := by have e : Rdb.sz d = d.bytes.size := rfl; omega
    have RD : ∀ w', Rdb.rd true 0 w' [.int .i64 d.kind, .int .i64 d.atF, .string d.bytes] d := fun w' => mk_Op (d := d) wk wa bz
    have EQ := Lib.hid (fun w' => eqOp d w' hz (RD w') (RD w'))
    clear hS hI RD wk wa hz bz q
    have nn : (n != n) = false := by simp
    have bb : (b != b) = false := by simp
    go_enter Tryd.func3, Tryd.ntmps3
    go_wp2_with fail
    refine (HS.out _).mono ?_
    rintro e w2 ⟨rfl, b2⟩
    have BH := Lib.hid (chainX w BH.out b2)
    clear b2
    have LY := lay w2 (.cells #[.int .i64 d.kind, .int .i64 d.atF, .string d.bytes] 23)
    have YN := BxN.new w2 #[.int .i64 d.kind, .int .i64 d.atF, .string d.bytes] 23
    have BH := Lib.hid (chainX w BH.out LY)
    clear LY
    have YH := Lib.hid YN
    clear YN
    have Y_0 := YH.out.cells 0 _ rfl
    have Y_1 := YH.out.cells 1 _ rfl
    have Y_2 := YH.out.cells 2 _ rfl
    go_wp2_with fail
    refine (HI.out _ BH.out).mono ?_
    rintro e w2 ⟨rfl, b2⟩
    have YH := Lib.hid (YH.out.later b2)
    have Y_0 := YH.out.cells 0 _ rfl
    have Y_1 := YH.out.cells 1 _ rfl
    have Y_2 := YH.out.cells 2 _ rfl
    have BH := Lib.hid (chainX w BH.out b2)
    clear b2
    have LY := lay w2 (.cells #[.int .i64 d.kind, .int .i64 d.atF, .string d.bytes] 23)
    have YN := BxN.new w2 #[.int .i64 d.kind, .int .i64 d.atF, .string d.bytes] 23
    have YH := Lib.hid (YH.out.later LY)
    have Y_0 := YH.out.cells 0 _ rfl
    have Y_1 := YH.out.cells 1 _ rfl
    have Y_2 := YH.out.cells 2 _ rfl
    have BH := Lib.hid (chainX w BH.out LY)
    clear LY
    have ZH := Lib.hid YN
    clear YN
    have Z_0 := ZH.out.cells 0 _ rfl
    have Z_1 := ZH.out.cells 1 _ rfl
    have Z_2 := ZH.out.cells 2 _ rfl
    go_wp2_with fail
    refine (EQ.out _).mono ?_
    rintro e w2 ⟨rfl, b2⟩
    have YH := Lib.hid (YH.out.later b2)
    have Y_0 := YH.out.cells 0 _ rfl
    have Y_1 := YH.out.cells 1 _ rfl
    have Y_2 := YH.out.cells 2 _ rfl
    have ZH := Lib.hid (ZH.out.later b2)
    have Z_0 := ZH.out.cells 0 _ rfl
    have Z_1 := ZH.out.cells 1 _ rfl
    have Z_2 := ZH.out.cells 2 _ rfl
    have BH := Lib.hid (chainX w BH.out b2)
    clear b2
    go_wp2
    go_ret
    exact ⟨rfl, BH.out⟩
theorem wf_of {v : Int} (h0 : 0 ≤ v) (h1 : v ≤ 4611686018427387904) : (Lit.int .i64 v).wf = true := by
  simp only [Lit.wf, IntKind.min, IntKind.max, IntKind.signed, IntKind.bits, Bool.and_eq_true, decide_eq_true_eq, if_true]; omega
theorem lawGetOp (s : ByteArray) (w : World) (hs : s.size ≤ maxLen) (T : TypeId) (V : Value) (hE : ErrAt T V w) : Calls Tryd.prog 3 #[.string s] w fun e w' => e = .returned (.bool true) ∧ Below w.heap.size w w' := by
  have no := fun (hS : s.size ≤ 1048576 → ∀ w', Calls Tryd.prog 4 #[.string s] w' (RetW NoOp w')) (hI : s.size ≤ 1048576 → ∀ w', Below w.heap.size w w' → Calls Tryd.prog 5 #[.string s] w' (RetW NoOp w')) =>
    fnGetOp s ⟨0, 0, ByteArray.empty⟩ 0 false (by show (0 : Nat) ≤ _; omega) rfl rfl w hS hI
  rcases h1 : rdN s 0 with _ | ⟨K, l1⟩
  · exact no (fun z w' => specGetOp_no1 s z h1 w') (fun z w' b => implGetOp_no1 s T V z h1 w' (hE.later b))
  · rcases h2 : rdN s (0 + l1) with _ | ⟨A, l2⟩
    · exact no (fun z w' => specGetOp_no2 s z h1 h2 w') (fun z w' b => implGetOp_no2 s T V z h1 h2 w' (hE.later b))
    · rcases h3 : rdT s (0 + l1 + l2) with _ | ⟨S, l3⟩
      · exact no (fun z w' => specGetOp_no3 s z h1 h2 h3 w') (fun z w' b => implGetOp_no3 s T V z h1 h2 h3 w' (hE.later b))
      · cases hv : okO 1 0 K A S
        · exact no (fun z w' => specGetOp_no4 s z h1 h2 h3 hv w') (fun z w' b => implGetOp_no4 s T V z h1 h2 h3 hv w' (hE.later b))
        · have t := okO_true hv
          exact fnGetOp s ⟨K, A, S⟩ _ true (by show S.size ≤ _; omega) (wf_of (v := K) (by omega) (by omega)) (wf_of (v := A) (by omega) (by omega)) w (fun z w' => specGetOp_yes s z h1 h2 h3 hv w') (fun z w' b => implGetOp_yes s T V z h1 h2 h3 hv w' (hE.later b))
end Go.Proofs.YtbnjgehgaellmaaDoor.Rd
