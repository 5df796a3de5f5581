/-
  The exact law of PoolOk.
-/
import Derived.Test.YtmpncbbecgljkaaPool
import Derived.Test.YtmpncbbecgljkaaOpenP
namespace Go.Proofs.Ytmpncbbecgljkaa.Po
open Go.RowKit Go.Proofs.Ytmpncbbecgljkaa.GfI Go.Proofs.Ytmpncbbecgljkaa.GfS Go.Proofs.Ytmpncbbecgljkaa.Cd
open Go.Proofs.Ytmpncbbecgljkaa.Sg (BxN)
set_option linter.unusedVariables false

set_option maxRecDepth 100000 in
theorem specPoolOk (i k m n g r : Int) (w : World) :
    Calls Try.prog 14 #[pval i k m n g r] w (BoolB (okP i k m n g r) w) := by
  have L := Lib.hid (lay w)
  have C := Lib.hid (l09OK i k m n g r)
  generalize okP i k m n g r = ok at *
  go_enter Try.func14, Try.ntmps14
  go_wp2_with fail
  refine (C.out _).mono ?_
  rintro e w1 ⟨rfl, b1⟩
  go_wp2
  go_ret
  exact ⟨rfl, chain (L.out _) b1⟩

set_option maxRecDepth 100000 in
theorem fnPoolOk (i k m n g r : Int) (w : World) (w0 : True) :
    Calls Try.prog 5 #[pval i k m n g r] w fun e w' => e = .returned (.bool true) ∧ Below w.heap.size w w' := by
  have X := Lib.hid (BxN.new w #[.int .i64 i, .int .i64 k, .int .i64 m, .int .i64 n, .int .i64 g, .int .i64 r] 31)
  have L := Lib.hid (lay w (.cells #[.int .i64 i, .int .i64 k, .int .i64 m, .int .i64 n, .int .i64 g, .int .i64 r] 31))
  have T := Lib.hid (toPool i k m n g r)
  have S := Lib.hid (specPoolOk i k m n g r)
  have I := Lib.hid (implPoolOk i k m n g r)
  clear w0
  generalize okP i k m n g r = ok at *
  go_enter Try.func5, Try.ntmps5
  go_wp2_with fail
  refine (T.out _).mono ?_
  rintro e w1 ⟨rfl, b1⟩
  have B1 := Lib.hid (chain L.out b1)
  have X1 := Lib.hid (X.out.later b1)
  clear b1
  go_wp2_with fail
  refine (S.out _).mono ?_
  rintro e w2 ⟨rfl, b2⟩
  have B2 := Lib.hid (chain B1.out b2)
  have X2 := X1.out.later b2
  have x0 := X2.cells 0 _ rfl
  have x1 := X2.cells 1 _ rfl
  have x2 := X2.cells 2 _ rfl
  have x3 := X2.cells 3 _ rfl
  have x4 := X2.cells 4 _ rfl
  have x5 := X2.cells 5 _ rfl
  clear b2 X2
  go_wp2_with fail
  refine (T.out _).mono ?_
  rintro e w3 ⟨rfl, b3⟩
  have B3 := Lib.hid (chain B2.out b3)
  clear b3
  go_wp2_with fail
  refine (I.out _).mono ?_
  rintro e w4 ⟨rfl, b4⟩
  have B4 := Lib.hid (chain B3.out b4)
  clear b4
  go_wp2
  go_ret
  exact ⟨rfl, B4.out⟩

end Go.Proofs.Ytmpncbbecgljkaa.Po
