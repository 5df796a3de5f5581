/-
  Descend: the program's answer and the model's.
-/
import Derived.Test.YtgfpngjfhmiphaaTcho
namespace Go.Proofs.Ytgfpngjfhmiphaa.Tm
open Go.RowKit Go.Proofs.Ytgfpngjfhmiphaa.GfI Go.Proofs.Ytgfpngjfhmiphaa.GfS Go.Proofs.Ytgfpngjfhmiphaa.MixC
open Go.Proofs.Ytgfpngjfhmiphaa.It (lay chain Two)
open Go.Proofs.Ytgfpngjfhmiphaa.Ch (chA chB IntBoolB tsN sel pickT sel_snoc)
open Go.Proofs.Ytgfpngjfhmiphaa.Bk (Bks tval bval)
open Go.Proofs.Ytgfpngjfhmiphaa.Sg (BxN)
set_option linter.unusedVariables false
set_option linter.unusedSimpArgs false

theorem sel_of {f g : Nat → Int} {s t : Int} : ∀ {n : Nat}, (tsN f g s t n).length ≠ 0 → ∃ i, i < n ∧ (sel (tsN f g s t n)).1 = f i
  | 0, h => absurd rfl h
  | n + 1, h => by
    unfold tsN at h ⊢
    by_cases hg : 0 < g n
    · rw [if_pos hg] at h ⊢
      rw [sel_snoc]
      unfold pickT
      split
      · exact ⟨n, by omega, rfl⟩
      · rename_i hp
        by_cases h0 : (tsN f g s t n).length = 0
        · exfalso
          rw [List.eq_nil_of_length_eq_zero h0] at hp
          have := Ch.tsN_pos f g s t (n + 1) (f n, It.bn (f n) s t (g n).toNat) (by unfold tsN; rw [if_pos hg]; simp)
          simp [sel] at hp
          dsimp only at this
          omega
        · obtain ⟨i, hi, e⟩ := sel_of h0
          exact ⟨i, by omega, e⟩
    · rw [if_neg hg] at h ⊢
      obtain ⟨i, hi, e⟩ := sel_of h
      exact ⟨i, by omega, e⟩
/-- What is chosen is an item of the bucket. -/
theorem ci_mem {T : TD} {x s t : Int} (h : ciB T x s t = 0) : ∃ j, j < T.bn ∧ T.bf j = x ∧ ciA T x s t ∈ T.L j := by
  unfold ciB at h
  unfold ciA
  cases hx : ix T.bf x T.bn with
  | none => rw [hx] at h; cases h
  | some j =>
    rw [hx] at h
    dsimp only at h ⊢
    obtain ⟨hj, e, _⟩ := ix_some hx
    refine ⟨j, hj, e, ?_⟩
    unfold chB at h
    unfold chA
    split at h
    · cases h
    · rename_i hn
      obtain ⟨i, hi, e⟩ := sel_of hn
      rw [e]
      exact getD_mem hi
theorem ci_kd {T : TD} (O : T.Ok) {x s t : Int} (h : ciB T x s t = 0) : 0 ≤ T.kd (ciA T x s t) ∧ T.kd (ciA T x s t) < T.kd x := by
  obtain ⟨j, hj, e, hm⟩ := ci_mem h
  have k := kd_up O hj hm
  rw [e] at k
  exact ⟨k.1, by omega⟩
/-- Choice by choice down to the kind k. -/
def dsc (T : TD) (s t k : Int) : Nat → Int → Int × Int
  | 0, x => (x, 0)
  | f + 1, x => if T.kd x = k then (x, 0) else if ciB T x s t = 0 then dsc T s t k f (ciA T x s t) else (0, 3)
theorem Whole.kindOf2 {T : TD} {mb p q : Nat} {w : World} (h : Whole T mb p q w) (x : Int) : Calls Try.prog 113 #[thg T p q T.dn T.bn x] w (Same (.int .i64 (T.kd x)) w) :=
  kindOf T p q x w (fun j hj => by obtain ⟨s, u, lo, hi, X, _⟩ := h.br j hj; exact X.cells 2 _ rfl)
theorem dsc_yes {T : TD} {s t k : Int} {f : Nat} {x : Int} (h : T.kd x = k) : dsc T s t k (f + 1) x = (x, 0) := by unfold dsc; rw [if_pos h]
theorem dsc_on {T : TD} {s t k : Int} {f : Nat} {x : Int} (h : T.kd x ≠ k) (c : ciB T x s t = 0) : dsc T s t k (f + 1) x = dsc T s t k f (ciA T x s t) := by
  conv => lhs; unfold dsc
  rw [if_neg h, if_pos c]
theorem dsc_no {T : TD} {s t k : Int} {f : Nat} {x : Int} (h : T.kd x ≠ k) (c : ciB T x s t ≠ 0) : dsc T s t k (f + 1) x = (0, 3) := by unfold dsc; rw [if_neg h, if_neg c]
theorem fuel_on {n : Int} {f : Nat} (h : n + 1 < f) (h0 : -1 ≤ n) : ∃ g, f = g + 1 := ⟨f - 1, by omega⟩

set_option maxRecDepth 100000 in
set_option maxHeartbeats 2000000 in
theorem descend (T : TD) (mb p q : Nat) (x k seed try' : Int) (w : World) (h : Whole2 T mb p q w) (WF : T.Wf) (hx : (Lit.int .i64 x).wf = true) :
    Calls Try.prog 69 #[.map (some mb), .int .i64 x, .int .i64 k, .int .i64 seed, .int .i64 try'] w (Two (dsc T seed try' k 5 x).1 (dsc T seed try' k 5 x).2 w) := by
  have HH := Lib.hid h
  have WFH := Lib.hid WF
  have HX := Lib.hid hx
  obtain ⟨R, hR⟩ : ∃ R, R = dsc T seed try' k 5 x := ⟨_, rfl⟩
  rw [← hR]
  have RH := Lib.hid hR
  have K0 := Lib.hid (show T.kd x + 1 < ((5 : Nat) : Int) from by have := kd_top h.whole.ok x; omega)
  clear h WF hR hx
  go_enter Try.func69, Try.ntmps69
  go_wp2
  go_loopw [1, 12] (fun i e wr => ∃ y : Int, i = .int .i64 y ∧ Below w.heap.size w wr ∧ ((e = .int .i64 0 ∧ (Lit.int .i64 y).wf = true ∧ ∃ f : Nat, T.kd y + 1 < f ∧ dsc T seed try' k f y = R) ∨ (e = .int .i64 3 ∧ (y, 3) = R))) (fun i e _ => if intOf e = 0 then (T.kd (intOf i) + 2).toNat else 0)
  case atStart => exact ⟨x, rfl, Below.refl _ _, .inl ⟨rfl, HX.out, 5, K0.out, RH.out.symm⟩⟩
  case round =>
    clear RH K0 HX
    obtain ⟨y, rfl, hw, ⟨rfl, hy, f, hf, hd⟩ | ⟨rfl, hd⟩⟩ := hrel
    · have O := Lib.hid HH.out.whole.ok
      obtain ⟨f, rfl⟩ := fuel_on hf (kd_ge O.out.bkt y)
      have WL := Lib.hid (HH.out.later hw)
      have LK := WL.out.whole.look y hy
      have KD := Lib.hid (WL.out.whole.kindOf2 y)
      have WH := Lib.hid hw
      have CI := Lib.hid (chooseIn T mb p q y seed try' wr WL.out hy)
      have GE := kd_ge O.out.bkt y
      by_cases hk : T.kd y = k
      · rw [dsc_yes hk] at hd
        subst hd
        have hk' := Lib.hid hk
        clear hw hf GE CI WL hy hk
        generalize thg T p q T.dn T.bn y = v at *
        rw [hk'.out] at KD
        clear hk'
        go_wp2_with fail
        refine KD.out.mono ?_
        rintro e w2 ⟨rfl, rfl⟩
        go_wp2
        go_ret2
        exact ⟨rfl, WH.out⟩
      · have hk' : (T.kd y != k) = true := by simpa using hk
        by_cases hc : ciB T y seed try' = 0
        · rw [dsc_on hk hc] at hd
          have CK := ci_kd O.out hc
          have NW : Hid ((Lit.int .i64 (ciA T y seed try')).wf = true) := by
            obtain ⟨j, hj, _, hm⟩ := ci_mem hc
            exact WFH.out j hj _ hm
          have NX := Lib.hid (show T.kd (ciA T y seed try') + 1 < (f : Int) ∧ dsc T seed try' k f (ciA T y seed try') = R from ⟨by omega, hd⟩)
          have MS := Lib.hid (show (T.kd (ciA T y seed try') + 2).toNat < (T.kd y + 2).toNat from by omega)
          rw [hc] at CI
          clear hw hf GE WL hy hk hd CK hc
          generalize thg T p q T.dn T.bn y = v at *
          generalize ciA T y seed try' = z at *
          generalize hkd : T.kd y = kd at *
          go_wp2_with fail
          refine KD.out.mono ?_
          rintro e w2 ⟨rfl, rfl⟩
          go_wp2_with fail
          refine CI.out.mono ?_
          rintro e w3 ⟨rfl, b3⟩
          have B3 := Lib.hid (chain WH.out b3)
          clear b3
          go_wp2
          go_roundw
          case rel => exact ⟨z, rfl, B3.out, .inl ⟨rfl, NW.out, f, NX.out.1, NX.out.2⟩⟩
          case measure => have M := MS.out; simp [intOf]; rw [hkd]; omega
        · obtain ⟨e1, e2⟩ := ci_none hc
          rw [dsc_no hk hc] at hd
          rw [e1, e2] at CI
          have RD := Lib.hid hd
          have MS := Lib.hid (show 0 < (T.kd y + 2).toNat from by omega)
          clear hw hf GE WL hy hk hd hc e1 e2
          generalize thg T p q T.dn T.bn y = v at *
          generalize hkd : T.kd y = kd at *
          go_wp2_with fail
          refine KD.out.mono ?_
          rintro e w2 ⟨rfl, rfl⟩
          go_wp2_with fail
          refine CI.out.mono ?_
          rintro e w3 ⟨rfl, b3⟩
          have B3 := Lib.hid (chain WH.out b3)
          clear b3
          go_wp2
          go_roundw
          case rel => exact ⟨0, rfl, B3.out, .inr ⟨rfl, RD.out⟩⟩
          case measure => have M := MS.out; simp [intOf]; rw [hkd]; omega
    · subst hd
      have WH := Lib.hid hw
      clear hw
      go_wp2
      go_ret2
      exact ⟨rfl, WH.out⟩

set_option maxRecDepth 100000 in
set_option maxHeartbeats 2000000 in
theorem l07Descend (T : TD) (Z : T.Sz) (O : T.Ok) (x k seed try' : Int) (A : TA) (w : World) (h : TIn w T A) :
    Calls Try.prog 67 #[A.val T, .int .i64 x, .int .i64 k, .int .i64 seed, .int .i64 try'] w (IntBoolB (dsc T seed try' k 5 x).1 (decide ((dsc T seed try' k 5 x).2 = 0)) w) := by
  have LH := Lib.hid (lay w (.cells #[.slice A.da T.dn A.dc, .slice A.ba T.bn A.bc] 33))
  have X := Lib.hid (BxN.new w #[.slice A.da T.dn A.dc, .slice A.ba T.bn A.bc] 33)
  have KD := Lib.hid (fun y w' (b : Below w.heap.size w w') => l06Kind T A y w' Z (h.below b))
  have CI := Lib.hid (fun y w' (b : Below w.heap.size w w') => l07In T Z O y seed try' A w' (h.below b))
  have OH := Lib.hid O
  obtain ⟨R, hR⟩ : ∃ R, R = dsc T seed try' k 5 x := ⟨_, rfl⟩
  rw [← hR]
  have RH := Lib.hid hR
  have K0 := Lib.hid (show T.kd x + 1 < ((5 : Nat) : Int) from by have := kd_top O x; omega)
  clear h Z hR O
  obtain ⟨da, dc, ba, bc, I, C⟩ := A
  dsimp only at LH X KD CI ⊢
  obtain ⟨dn, hdn⟩ : ∃ dn, dn = T.dn := ⟨_, rfl⟩
  obtain ⟨bn, hbn⟩ : ∃ bn, bn = T.bn := ⟨_, rfl⟩
  have E : ∀ a b c d I C, TA.val ⟨a, b, c, d, I, C⟩ T = tval (.slice a dn b) (.slice c bn d) := fun _ _ _ _ _ _ => by rw [hdn, hbn]
  rw [E] at KD CI ⊢
  rw [← hdn, ← hbn] at LH X
  clear hdn hbn
  go_enter Try.func67, Try.ntmps67
  go_wp2
  go_loopw [1] (fun i wr => ∃ (y : Int) (f : Nat), i = .int .i64 y ∧ BxN wr w.heap.size [.slice da dn dc, .slice ba bn bc] ∧ Below w.heap.size w wr ∧ T.kd y + 1 < f ∧ dsc T seed try' k f y = R) (fun i _ => (T.kd (intOf i) + 2).toNat)
  case atStart => exact ⟨x, 5, rfl, X.out, LH.out, K0.out, RH.out.symm⟩
  case round =>
    clear RH K0 X LH
    obtain ⟨y, f, rfl, XR, hw, hf, hd⟩ := hrel
    obtain ⟨f, rfl⟩ := fuel_on hf (kd_ge OH.out.bkt y)
    have x0 := XR.cells 0 _ rfl
    have x1 := XR.cells 1 _ rfl
    have XH := Lib.hid XR
    have WH := Lib.hid hw
    have KY := Lib.hid (KD.out y _ hw)
    have GE := kd_ge OH.out.bkt y
    clear XR hw
    by_cases hk : T.kd y = k
    · rw [dsc_yes hk] at hd
      subst hd
      rw [show decide (((y, (0 : Int)) : Int × Int).2 = 0) = true from rfl]
      rw [hk] at KY
      clear hk GE hf CI
      go_wp2_with fail
      refine KY.out.mono ?_
      rintro e w2 ⟨rfl, b2⟩
      have B2 := Lib.hid (chain WH.out b2)
      clear b2
      go_wp2
      go_ret2
      exact ⟨rfl, B2.out⟩
    · have hk' : (T.kd y != k) = true := by simpa using hk
      have CY := Lib.hid (CI.out y)
      by_cases hc : ciB T y seed try' = 0
      · rw [dsc_on hk hc] at hd
        have CK := ci_kd OH.out hc
        have NX := Lib.hid (show T.kd (ciA T y seed try') + 1 < (f : Int) ∧ dsc T seed try' k f (ciA T y seed try') = R from ⟨by omega, hd⟩)
        have MS := Lib.hid (show (T.kd (ciA T y seed try') + 2).toNat < (T.kd y + 2).toNat from by omega)
        rw [hc, show decide ((0 : Int) = 0) = true from rfl] at CY
        clear hf GE hk hd CK hc CI
        generalize ciA T y seed try' = z at *
        generalize hkd : T.kd y = kd at *
        go_wp2_with fail
        refine KY.out.mono ?_
        rintro e w2 ⟨rfl, b2⟩
        have B2 := Lib.hid (chain WH.out b2)
        have X2 := XH.out.later b2
        clear x0 x1 b2
        have x0 := X2.cells 0 _ rfl
        have x1 := X2.cells 1 _ rfl
        have X2 := Lib.hid X2
        go_wp2_with fail
        refine (CY.out _ B2.out).mono ?_
        rintro e w3 ⟨rfl, b3⟩
        have B3 := Lib.hid (chain B2.out b3)
        have X3 := Lib.hid (X2.out.later b3)
        clear b3 x0 x1
        go_wp2
        go_roundw
        case rel => exact ⟨z, f, rfl, X3.out, B3.out, NX.out.1, NX.out.2⟩
        case measure => have M := MS.out; simp [intOf]; rw [hkd]; omega
      · obtain ⟨e1, e2⟩ := ci_none hc
        rw [dsc_no hk hc] at hd
        subst hd
        rw [show decide ((((0 : Int), (3 : Int)) : Int × Int).2 = 0) = false from rfl]
        rw [e1, e2, show decide ((3 : Int) = 0) = false from rfl] at CY
        clear hf GE hk hc e1 e2 CI
        generalize T.kd y = kd at *
        go_wp2_with fail
        refine KY.out.mono ?_
        rintro e w2 ⟨rfl, b2⟩
        have B2 := Lib.hid (chain WH.out b2)
        have X2 := XH.out.later b2
        clear x0 x1 b2
        have x0 := X2.cells 0 _ rfl
        have x1 := X2.cells 1 _ rfl
        have X2 := Lib.hid X2
        go_wp2_with fail
        refine (CY.out _ B2.out).mono ?_
        rintro e w3 ⟨rfl, b3⟩
        have B3 := Lib.hid (chain B2.out b3)
        clear b3 x0 x1
        go_wp2
        go_ret2
        exact ⟨rfl, B3.out⟩
end Go.Proofs.Ytgfpngjfhmiphaa.Tm
