/-
  Trees in the laws: measured, copied, compared; whether one is valid, in the model and in the program.
-/
import Derived.Test.YtigaoimnhebegaaTimp
import Derived.Test.YtigaoimnhebegaaTval
import Derived.Test.YtigaoimnhebegaaTre
import Derived.Test.YtigaoimnhebegaaOpenT
namespace Go.Proofs.Ytigaoimnhebegaa.Tm
open Go.RowKit Go.Proofs.Ytigaoimnhebegaa.GfI Go.Proofs.Ytigaoimnhebegaa.GfS Go.Proofs.Ytigaoimnhebegaa.MixC
open Go.Proofs.Ytigaoimnhebegaa.It (lay chain)
open Go.Proofs.Ytigaoimnhebegaa.Rc (Recs)
open Go.Proofs.Ytigaoimnhebegaa.Bk (Bks tval bval TreeCopy TreeSz totB totB_mono)
open Go.Proofs.Ytigaoimnhebegaa.Sg (BxN)
open Go.Proofs.Ytigaoimnhebegaa.Ml (TrueB)
set_option linter.unusedVariables false
set_option linter.unusedSimpArgs false

/-- What is measured, if it is not too much. -/
theorem sz_of {T : TD} {l : Int} (h : 0 ≤ TreeSz T.dn T.bn T.L l) (hl : l ≤ 1048576) : T.Sz := by
  unfold TreeSz at h
  split at h
  · rename_i q
    have b0 : (T.bn : Int) ≤ totB T.bn T.L T.bn := by
      have := totB_mono T.bn T.L (i := 0) (j := T.bn) (by omega)
      have e : totB T.bn T.L 0 = T.bn := rfl
      omega
    have hd : (0 : Int) ≤ T.dn := Int.natCast_nonneg _
    refine ⟨by omega, by omega, fun i hi => ?_⟩
    have h1 := totB_mono T.bn T.L (i := i + 1) (j := T.bn) (by omega)
    have h2 : totB T.bn T.L (i + 1) = totB T.bn T.L i + (T.L i).length := rfl
    omega
  · omega
/-- A copy of the tree, made by the call. -/
def CopyT (T : TD) (w : World) (e : Ending) (w' : World) : Prop := ∃ A : TA, e = .returned (A.val T) ∧ TIn w' T A ∧ Below w.heap.size w w'
theorem toT (T : TD) (A : TA) (w : World) (Z : T.Sz) (h : TIn w T A) : Calls Try.prog 14 #[A.val T] w (CopyT T w) :=
  (Bk.toTree A.da A.dc T.dn T.df T.dg A.ba A.bc T.bn T.bf T.bg A.I T.L A.C Z.dn Z.bn Z.L w h.devs h.bkts).mono (by
    rintro e w' ⟨p, q, J, rfl, D, R, pq⟩
    obtain ⟨I, hI⟩ := R.bks
    exact ⟨⟨_, _, _, _, I, _⟩, rfl, ⟨D.recs, hI⟩, R.below⟩)
theorem eqT (T : TD) (A B : TA) (w : World) (Z : T.Sz) (h : TIn w T A) (k : TIn w T B) : Calls Try.prog 17 #[A.val T, B.val T] w (TrueB w) :=
  Bk.eqTree A.da B.da A.dc B.dc T.dn T.df T.dg A.ba B.ba A.bc B.bc T.bn T.bf T.bg A.I B.I T.L A.C B.C Z.dn Z.bn Z.L w h.devs k.devs h.bkts k.bkts
/-- A tree that came into a law. -/
structure TArg (w : World) (T : TD) (A : TA) : Prop where
  dn : T.dn ≤ 9223372036854775807
  bn : T.bn ≤ 9223372036854775807
  L : ∀ i, i < T.bn → (T.L i).length ≤ 9223372036854775807
  wf : T.Wf
  tin : TIn w T A
theorem tArg_of {w : World} {da : Option Addr} {dn dc : Nat} {f g : Nat → Int} {ba : Option Addr} {bn bc : Nat} {F G : Nat → Int} {I : Nat → Option Addr} {L : Nat → List Int} {C : Nat → Nat} (h : Op.TreeArg w da dn f g ba bn F G I L C) :
    TArg w ⟨dn, f, g, bn, F, G, L⟩ ⟨da, dc, ba, bc, I, C⟩ := ⟨h.dev.1, h.bkt.top, h.bkt.len, h.bkt.wf, ⟨h.dev.2.1, h.bkt.bks⟩⟩
theorem TArg.below {w w' : World} {T : TD} {A : TA} (h : TArg w T A) (b : Below w.heap.size w w') : TArg w' T A := ⟨h.dn, h.bn, h.L, h.wf, h.tin.below b⟩
theorem szT (T : TD) (A : TA) (l : Int) (l0 : 0 ≤ l) (l1 : l ≤ 2097152) (w : World) (h : TArg w T A) :
    Calls Try.prog 12 #[A.val T, .int .i64 l] w fun e w' => e = .returned (.int .i64 (TreeSz T.dn T.bn T.L l)) ∧ Below w.heap.size w w' :=
  Bk.szTree A.da T.dn A.dc A.ba T.bn A.bc T.bf T.bg A.I T.L A.C l h.dn h.bn h.L l0 l1 w h.tin.bkts

set_option maxRecDepth 100000 in
theorem specTreeOk (T : TD) (A : TA) (w : World) (Z : T.Sz) (h : TIn w T A) : Calls Try.prog 166 #[A.val T] w (IffB T.Ok w) := by
  have LH := Lib.hid (lay w (.cells #[.slice A.da T.dn A.dc, .slice A.ba T.bn A.bc] 33))
  have K := Lib.hid (l06OK T A _ Z (h.below LH.out))
  clear h Z
  obtain ⟨da, dc, ba, bc, I, C⟩ := A
  dsimp only at K LH ⊢
  go_enter Try.func166, Try.ntmps166
  go_wp2_with fail
  refine K.out.mono ?_
  rintro e w1 ⟨b, rfl, H, b1⟩
  have B1 := Lib.hid (chain LH.out b1)
  go_wp2
  go_ret
  exact ⟨b, rfl, H, B1.out⟩
set_option maxRecDepth 100000 in
theorem implTreeOk (T : TD) (A : TA) (w : World) (Z : T.Sz) (WF : T.Wf) (h : TIn w T A) : Calls Try.prog 69 #[A.val T] w (IffB T.Ok w) := by
  have LH := Lib.hid (lay w (.cells #[.slice A.da T.dn A.dc, .slice A.ba T.bn A.bc] 33))
  have K := Lib.hid (partsOf T A _ Z WF (h.below LH.out))
  clear h Z
  obtain ⟨da, dc, ba, bc, I, C⟩ := A
  dsimp only at K LH ⊢
  go_enter Try.func69, Try.ntmps69
  go_wp2_with fail
  refine K.out.mono ?_
  rintro e w1 ⟨b1, ⟨N, rfl⟩ | ⟨Y, mb, p, q, base, U, S, rfl, -, -⟩⟩
  · have B1 := Lib.hid (chain LH.out b1)
    go_wp2
    go_ret
    exact IffB.no N B1.out
  · have B1 := Lib.hid (chain LH.out b1)
    go_wp2
    go_ret
    exact IffB.yes Y B1.out
end Go.Proofs.Ytigaoimnhebegaa.Tm
