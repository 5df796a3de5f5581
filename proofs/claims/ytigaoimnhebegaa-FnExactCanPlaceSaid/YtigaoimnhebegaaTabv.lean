/-
  The bucket of a kind above a thing: as data, in the model, in the program.
-/
import Derived.Test.YtigaoimnhebegaaLawTree
namespace Go.Proofs.Ytigaoimnhebegaa.Tm
open Go.RowKit Go.Proofs.Ytigaoimnhebegaa.GfI Go.Proofs.Ytigaoimnhebegaa.GfS Go.Proofs.Ytigaoimnhebegaa.MixC
open Go.Proofs.Ytigaoimnhebegaa.It (lay chain)
open Go.Proofs.Ytigaoimnhebegaa.Rc (Recs)
open Go.Proofs.Ytigaoimnhebegaa.Bk (Bks tval bval)
open Go.Proofs.Ytigaoimnhebegaa.Sg (BxN)
set_option linter.unusedVariables false
set_option linter.unusedSimpArgs false

/-- The first of n lists that has x. -/
def parN (L : Nat → List Int) (x : Int) : Nat → Option Nat
  | 0 => none
  | n + 1 => match parN L x n with
    | some j => some j
    | none => if x ∈ L n then some n else none
theorem parN_none {L : Nat → List Int} {x : Int} : ∀ {n : Nat}, parN L x n = none ↔ ∀ j, j < n → x ∉ L j
  | 0 => by simp [parN]
  | n + 1 => by
    unfold parN
    have IH := @parN_none L x n
    cases h : parN L x n with
    | some i =>
      simp only [reduceCtorEq, false_iff]
      intro H
      have := IH.2 (fun j hj => H j (by omega))
      rw [h] at this; cases this
    | none =>
      have h0 := IH.1 h
      dsimp only
      split
      · rename_i e
        simp only [reduceCtorEq, false_iff]
        intro H; exact H n (by omega) e
      · rename_i e
        simp only [true_iff]
        intro j hj
        by_cases q : j = n
        · subst q; exact e
        · exact h0 j (by omega)
theorem parN_some {L : Nat → List Int} {x : Int} : ∀ {n i : Nat}, parN L x n = some i → i < n ∧ x ∈ L i ∧ ∀ j, j < i → x ∉ L j
  | 0, i, h => by simp [parN] at h
  | n + 1, i, h => by
    unfold parN at h
    cases q : parN L x n with
    | some k =>
      rw [q] at h
      obtain rfl : k = i := by simpa using h
      obtain ⟨a, b, c⟩ := parN_some q
      exact ⟨by omega, b, c⟩
    | none =>
      rw [q] at h
      dsimp only at h
      split at h
      · rename_i e
        obtain rfl : n = i := by simpa using h
        exact ⟨by omega, e, parN_none.1 q⟩
      · cases h
theorem parN_hit {L : Nat → List Int} {x : Int} {n i : Nat} (hi : i < n) (hx : x ∈ L i) (h : ∀ j, j < i → x ∉ L j) : parN L x n = some i := by
  cases q : parN L x n with
  | none => exact absurd hx (parN_none.1 q i hi)
  | some k =>
    obtain ⟨a, b, c⟩ := parN_some q
    rcases Nat.lt_trichotomy i k with e | e | e
    · exact absurd hx (c i e)
    · rw [e]
    · exact absurd b (h k e)
/-- The bucket above a thing. -/
def TD.par (T : TD) (x : Int) : Option Nat := parN T.L x T.bn
theorem Up.par {T : TD} {U : Int → Option Nat} (h : Up T T.bn 0 U) : U = T.par := by
  funext x
  cases q : T.par x with
  | none =>
    cases r : U x with
    | none => rfl
    | some j => obtain ⟨a, b⟩ := h.so x j r; exact absurd b (parN_none.1 q j a)
  | some j =>
    obtain ⟨a, b, _⟩ := parN_some q
    exact (h.iff x j).2 ⟨a, b⟩
/-- The bucket of kind g above x, 0 of none; f bounds the steps. -/
def abv (T : TD) : Nat → Int → Int → Int
  | 0, _, _ => 0
  | f + 1, x, g => match T.par x with
    | none => 0
    | some j => if T.bg j = g then T.bf j else abv T f (T.bf j) g
theorem kd_up {T : TD} (O : T.Ok) {x : Int} {j : Nat} (hj : j < T.bn) (hx : x ∈ T.L j) : 0 ≤ T.kd x ∧ T.kd x < T.bg j ∧ T.bg j ≤ 3 ∧ T.kd (T.bf j) = T.bg j := by
  obtain ⟨i, hi⟩ := List.mem_iff_getElem?.1 hx
  have h := (O.fit j hj i x hi).1
  have h1 := (O.bkt.each j hj).2.2.1
  have h2 := (O.bkt.each j hj).2.2.2.1
  exact ⟨by omega, by omega, h2, TD.kd_bkt O.dev O.bkt hj⟩

set_option maxRecDepth 100000 in
set_option maxHeartbeats 1000000 in
theorem l06Above (T : TD) (Z : T.Sz) (O : T.Ok) (g : Int) : ∀ (f : Nat) (x : Int) (A : TA) (w : World), 3 - T.kd x < f → TIn w T A →
    Calls Try.prog 131 #[A.val T, .int .i64 x, .int .i64 g] w (IntB (abv T f x g) w)
  | 0, x, A, w, hf, h => by
    exfalso
    have : T.kd x ≤ 3 := by
      rcases T.kd_cases x with ⟨_, _, _, e⟩ | ⟨_, j, hj, _, e⟩ | ⟨_, _, e⟩
      · omega
      · have := (O.bkt.each j hj).2.2.2.1; omega
      · omega
    omega
  | f + 1, x, A, w, hf, h => by
    have IH := Lib.hid (l06Above T Z O g f)
    have HIT := Lib.hid (fun i hi hx hn => (show abv T (f + 1) x g = _ from by unfold abv TD.par; rw [parN_hit (L := T.L) (x := x) (n := T.bn) (i := i) hi hx hn]))
    have NON := Lib.hid (fun (hn : ∀ j, j < T.bn → x ∉ T.L j) => (show abv T (f + 1) x g = 0 from by unfold abv TD.par; rw [parN_none.2 hn]))
    have KU := Lib.hid (fun j hj hx => @kd_up T O x j hj hx)
    generalize abv T (f + 1) x g = R at *
    obtain ⟨da, dc, ba, bc, I, C⟩ := A
    have hn := Z.bn
    have HL := Lib.hid Z.L
    have HB := Lib.hid h.bkts
    have HD := Lib.hid h.devs
    have LH := Lib.hid (lay w (.cells #[.slice da T.dn dc, .slice ba T.bn bc] 33))
    have X := Lib.hid (BxN.new w #[.slice da T.dn dc, .slice ba T.bn bc] 33)
    have TI := Lib.hid h
    clear h
    obtain ⟨dn, hdn⟩ : ∃ dn, dn = T.dn := ⟨_, rfl⟩
    obtain ⟨bn, hbn⟩ : ∃ bn, bn = T.bn := ⟨_, rfl⟩
    have E : ∀ a b c d I C, TA.val ⟨a, b, c, d, I, C⟩ T = tval (.slice a dn b) (.slice c bn d) := fun _ _ _ _ _ _ => by rw [hdn, hbn]
    have BN := Lib.hid hbn
    rw [E]
    rw [← hbn] at hn
    simp only [← hdn, ← hbn] at LH X
    have HB2 : Hid (Bks w ba bn T.bf T.bg I T.L C) := by show Bks _ _ _ _ _ _ _ _; rw [hbn]; exact HB.out
    clear HB HD hdn hbn
    go_enter Try.func131, Try.ntmps131
    go_wp2
    go_loopw [7] (fun i wr => ∃ k : Nat, k ≤ bn ∧ i = .int .i64 k ∧ (∀ j, j < k → x ∉ T.L j) ∧ BxN wr w.heap.size [.slice da dn dc, .slice ba bn bc] ∧ Below w.heap.size w wr) (fun i _ => bn - (intOf i).toNat)
    case atStart => exact ⟨0, by omega, rfl, fun j hj => by omega, X.out, LH.out⟩
    case round =>
      obtain ⟨k, hk, rfl, N, XR, hw⟩ := hrel
      have NH := Lib.hid N
      have XH := Lib.hid XR
      have HW := Lib.hid hw
      have x0 := XR.cells 0 _ rfl
      have x1 := XR.cells 1 _ rfl
      clear N XR
      by_cases hlt : k < bn
      · obtain ⟨b, off, rfl, hB, hcc⟩ := (HB2.out.below hw).resolve_left (by omega)
        obtain ⟨c0, c1, c2, wd⟩ := hcc k hlt
        have hkT : k < T.bn := by rw [← BN.out]; exact hlt
        have HAS := Lib.hid (fun w' (b : Below wr.heap.size wr w') => l00Has (I k) (C k) (T.L k) x w' (HL.out k hkT) (wd.below b))
        have BC := Lib.hid (lay wr (.cells #[.int .i64 (T.bf k), .int .i64 (T.bg k), .slice (I k) (T.L k).length (C k)] 165))
        have XC := Lib.hid (XH.out.later BC.out)
        have z0 := XC.out.cells 0 _ rfl
        have z1 := XC.out.cells 1 _ rfl
        clear hcc hB wd hw
        by_cases hm : x ∈ T.L k
        · have HK := HIT.out k hkT hm NH.out
          obtain ⟨q0, q1, q2, q3⟩ := KU.out k hkT hm
          have GO := Lib.hid (fun w' (hw' : Below w.heap.size w w') => IH.out (T.bf k) ⟨da, dc, some ⟨b, off, none⟩, bc, I, C⟩ w' (by rw [q3]; omega) (TI.out.below hw'))
          rw [E] at GO
          have HH : ∀ w', Below wr.heap.size wr w' → Calls Try.prog 65 #[.slice (I k) (T.L k).length (C k), .int .i64 x] w' fun e w'' => e = .returned (.bool true) ∧ w' = w'' := fun w' b => by
            have := HAS.out w' b
            unfold HasB at this
            rwa [decide_eq_true hm] at this
          have HH := Lib.hid HH
          clear HAS q0 q1 q2 q3 HIT NON KU IH NH TI
          generalize T.bf k = u at *
          generalize T.bg k = v at *
          generalize (T.L k).length = lk at *
          generalize I k = ik at *
          generalize C k = ck at *
          by_cases hg : v = g
          · subst hg
            rw [if_pos rfl] at HK
            go_wp2_with fail
            refine (HH.out _ BC.out).mono ?_
            rintro e w2 ⟨rfl, rfl⟩
            go_wp2
            go_ret
            exact ⟨by rw [HK]; rfl, chain HW.out BC.out⟩
          · rw [if_neg hg] at HK
            have hg' : (v == g) = false := by simpa using hg
            clear hg
            go_wp2_with fail
            refine (HH.out _ BC.out).mono ?_
            rintro e w2 ⟨rfl, rfl⟩
            go_wp2_with fail
            refine (GO.out _ (chain HW.out BC.out)).mono ?_
            rintro e w3 ⟨rfl, b3⟩
            have B3 := Lib.hid (chain (chain HW.out BC.out) b3)
            clear b3
            go_wp2
            go_ret
            exact ⟨by rw [HK]; rfl, B3.out⟩
        · have HH : ∀ w', Below wr.heap.size wr w' → Calls Try.prog 65 #[.slice (I k) (T.L k).length (C k), .int .i64 x] w' fun e w'' => e = .returned (.bool false) ∧ w' = w'' := fun w' b => by
            have := HAS.out w' b
            unfold HasB at this
            rwa [decide_eq_false hm] at this
          have HH := Lib.hid HH
          have N2 := Lib.hid (show ∀ j, j < k + 1 → x ∉ T.L j from fun j hj => if e : j = k then by rw [e]; exact hm else NH.out j (by omega))
          clear HAS HIT NON KU IH NH TI hm
          generalize T.bf k = u at *
          generalize T.bg k = v at *
          generalize (T.L k).length = lk at *
          generalize I k = ik at *
          generalize C k = ck at *
          go_wp2_with fail
          refine (HH.out _ BC.out).mono ?_
          rintro e w2 ⟨rfl, rfl⟩
          go_wp2
          go_roundw
          case rel => exact ⟨k + 1, by omega, by go_num, N2.out, XC.out, chain HW.out BC.out⟩
          case measure => simp [intOf]; omega
      · obtain rfl : k = bn := by omega
        have G := NON.out (fun j hj => NH.out j (by rw [BN.out]; exact hj))
        go_wp2
        go_ret
        exact ⟨by rw [G]; rfl, HW.out⟩
end Go.Proofs.Ytigaoimnhebegaa.Tm

/-
  The bucket of a kind above a thing: in the program.
-/
namespace Go.Proofs.Ytigaoimnhebegaa.Tm
open Go.RowKit Go.Proofs.Ytigaoimnhebegaa.GfI Go.Proofs.Ytigaoimnhebegaa.GfS Go.Proofs.Ytigaoimnhebegaa.MixC
open Go.Proofs.Ytigaoimnhebegaa.It (lay chain)
open Go.Proofs.Ytigaoimnhebegaa.Rc (Recs)
open Go.Proofs.Ytigaoimnhebegaa.Bk (Bks tval bval)
open Go.Proofs.Ytigaoimnhebegaa.Sg (BxN)
set_option linter.unusedVariables false
set_option linter.unusedSimpArgs false

theorem parent (b : Nat) (v : Option Addr) (w : World) (c0 : w.cell? ⟨b, 0, none⟩ = some (.pointer v)) :
    Calls Try.prog 197 #[.pointer (some ⟨b, 0, none⟩)] w (Same (.pointer v) w) := by
  go_enter Try.func197, Try.ntmps197
  go_wp2
  go_ret
  exact ⟨rfl, rfl⟩
theorem parentML (d f : Nat) (w : World) : (method (f + 10) 208 (.pointer (some ⟨d, 0, none⟩)) "loop.example/g00849/impl.parent").run Try.prog w = .ok (197, .pointer (some ⟨d, 0, none⟩)) w := by kernel_rfl
theorem parentMB (d f : Nat) (w : World) : (method (f + 10) 209 (.pointer (some ⟨d, 0, none⟩)) "loop.example/g00849/impl.parent").run Try.prog w = .ok (197, .pointer (some ⟨d, 0, none⟩)) w := by kernel_rfl
/-- All parts of a valid tree, as the program holds them. -/
structure Whole (T : TD) (mb p q : Nat) (w : World) : Prop where
  ok : T.Ok
  map : Pm.Fun Try.prog 2 w mb (T.dn + T.bn) (thg T p q T.dn T.bn)
  lf : ∀ i, i < T.dn → BxN w (p + 2 * i) [upv q (T.par (T.df i)), .int .i64 (T.df i), .int .i64 (T.dg i)]
  br : ∀ j, j < T.bn → ∃ s u lo hi, BxN w (q + 2 * j) [upv q (T.par (T.bf j)), .int .i64 (T.bf j), .int .i64 (T.bg j), s, u] ∧ Rw w lo hi u (things T p q (T.L j))
theorem Prt.whole {T : TD} {I : Nat → Option Addr} {C : Nat → Nat} {N0 mb p q base : Nat} {U : Int → Option Nat} {S : Nat → Value} {w : World} (O : T.Ok) (hU : Up T T.bn 0 U) (h : Prt T I C N0 mb p q T.bn 0 base U S w) : Whole T mb p q w := by
  have e := hU.par
  subst e
  exact ⟨O, h.map, h.lf, fun j hj => ⟨_, _, _, _, h.br j hj, h.row j hj⟩⟩
theorem Whole.look2 {T : TD} {mb p q : Nat} {w : World} (h : Whole T mb p q w) (x : Int) (hx : (Lit.int .i64 x).wf = true) :
    (Instr.lookup 95 (.map (some mb)) (.int .i64 x) true).run Try.prog w = .ok (.tuple #[thg T p q T.dn T.bn x, .bool (!Pm.isNil (thg T p q T.dn T.bn x))]) w :=
  h.map.look2 keyed64 Try.underlying95 Try.underlying2 (by kernel_rfl) x hx
theorem Whole.look {T : TD} {mb p q : Nat} {w : World} (h : Whole T mb p q w) (x : Int) (hx : (Lit.int .i64 x).wf = true) :
    (Instr.lookup 95 (.map (some mb)) (.int .i64 x) false).run Try.prog w = .ok (thg T p q T.dn T.bn x) w :=
  h.map.look keyed64 Try.underlying95 Try.underlying2 (by kernel_rfl) x hx
theorem Whole.later {T : TD} {mb p q : Nat} {w w' : World} (h : Whole T mb p q w) (b : Below w.heap.size w w') : Whole T mb p q w' :=
  ⟨h.ok, h.map.later b, fun i hi => (h.lf i hi).later b, fun j hj => by
    obtain ⟨s, u, lo, hi, x, r⟩ := h.br j hj
    exact ⟨s, u, lo, hi, x.later b, r.grown (r := none) ⟨b.os, b.tape, b.output, b.size, fun c hc _ => b.block c hc⟩ (fun c hc => by cases hc)⟩⟩
/-- The bucket above, or none: what follows. -/
theorem abv_none {T : TD} {f : Nat} {x g : Int} (h : T.par x = none) : abv T (f + 1) x g = 0 := by unfold abv; rw [h]
theorem abv_some {T : TD} {f : Nat} {x g : Int} {j : Nat} (h : T.par x = some j) : abv T (f + 1) x g = if T.bg j = g then T.bf j else abv T f (T.bf j) g := by
  conv => lhs; unfold abv
  rw [h]
/-- A bucket that was found, or an error. -/
def AbvV (n : Int) : Value := .tuple #[.int .i64 n, .int .i64 (if n = 0 then 3 else 0)]
/-- How far a bucket's pointer is from the top. -/
def msr (v : Value) (w : World) : Nat := match v with
  | .pointer (some a) => match w.cell? ⟨a.block, 2, none⟩ with
    | some (.int _ n) => (4 - n).toNat
    | _ => 0
  | _ => 0

def upa (q : Nat) : Option Nat → Option Addr
  | none => none
  | some j => some ⟨q + 2 * j, 0, none⟩
theorem upv_eq (q : Nat) (o : Option Nat) : upv q o = .pointer (upa q o) := by cases o <;> rfl
theorem abv_fit {T : TD} {f : Nat} {x : Int} (O : T.Ok) (h : 3 - T.kd x < f) : ∃ f', f = f' + 1 := by
  cases f with
  | zero =>
    exfalso
    have : T.kd x ≤ 3 := by
      rcases T.kd_cases x with ⟨_, _, _, e⟩ | ⟨_, j, hj, _, e⟩ | ⟨_, _, e⟩
      · omega
      · have := (O.bkt.each j hj).2.2.2.1; omega
      · omega
    omega
  | succ f => exact ⟨f, rfl⟩
set_option maxRecDepth 100000 in
set_option maxHeartbeats 1000000 in
theorem above (T : TD) (mb p q : Nat) (x g : Int) (w : World) (h : Whole T mb p q w) (hx : (Lit.int .i64 x).wf = true) :
    Calls Try.prog 181 #[.map (some mb), .int .i64 x, .int .i64 g] w (Same (AbvV (abv T 5 x g)) w) := by
  have L := h.look2 x hx
  have HH := Lib.hid h
  have LP : thg T p q T.dn T.bn x = .nilIface ∧ T.kd x = -1 ∧ abv T 5 x g = 0 ∨ ∃ t d, thg T p q T.dn T.bn x = .iface t (.pointer (some ⟨d, 0, none⟩)) ∧ (t = 208 ∨ t = 209) ∧ w.cell? ⟨d, 0, none⟩ = some (.pointer (upa q (T.par x))) ∧ 0 ≤ T.kd x := by
    rcases thg_cases (T := T) p q x with ⟨i, hi, e, hk, ht⟩ | ⟨j, hj, e, hk, ht⟩ | ⟨hk, ht⟩
    · have := (h.lf i hi).cells 0 _ rfl
      rw [e, upv_eq] at this
      exact .inr ⟨_, _, ht, .inl rfl, this, by omega⟩
    · obtain ⟨s, u, lo, hi, X, _⟩ := h.br j hj
      have := X.cells 0 _ rfl
      rw [e, upv_eq] at this
      exact .inr ⟨_, _, ht, .inr rfl, this, by have := (h.ok.bkt.each j hj).2.2.1; omega⟩
    · refine .inl ⟨ht, hk, abv_none (parN_none.2 fun j hj hm => ?_)⟩
      have := (kd_up h.ok hj hm).1; omega
  clear h
  rcases LP with ⟨ht, hk, hR⟩ | ⟨t, d, ht, htt, hc, hk⟩
  · rw [ht] at L
    rw [hR]
    go_enter Try.func181, Try.ntmps181
    go_wp2
    go_ret2
    exact ⟨rfl, rfl⟩
  · rw [ht] at L
    have M : ∀ f w, (method (f + 10) t (.pointer (some ⟨d, 0, none⟩)) "loop.example/g00849/impl.parent").run Try.prog w = .ok (197, .pointer (some ⟨d, 0, none⟩)) w := by
      intro f w
      rcases htt with rfl | rfl
      · exact parentML d f w
      · exact parentMB d f w
    have P := Lib.hid (parent d _ w hc)
    obtain ⟨R, hR0⟩ : ∃ R, R = abv T 5 x g := ⟨_, rfl⟩
    rw [← hR0]
    have hR := Lib.hid hR0
    clear hR0
    have hk := Lib.hid hk
    clear ht htt hc
    go_enter Try.func181, Try.ntmps181
    go_wp2_with fail
    refine P.out.mono ?_
    rintro e w2 ⟨rfl, rfl⟩
    go_wp2
    go_loop [10] (fun v => ∃ (f : Nat) (y : Int), v = .pointer (upa q (T.par y)) ∧ abv T f y g = R ∧ 3 - T.kd y < f) (fun v => msr v w)
    case atStart => exact ⟨5, x, rfl, hR.out.symm, by have := hk.out; omega⟩
    case round =>
      obtain ⟨f, y, rfl, hf, hl⟩ := hrel
      obtain ⟨f, rfl⟩ := abv_fit HH.out.ok hl
      cases hp : T.par y with
      | none =>
        rw [abv_none hp] at hf
        have V : Hid (AbvV R = .tuple #[.int .i64 0, .int .i64 3]) := by
          show AbvV R = _
          rw [← hf]; rfl
        clear hR hl hf
        rw [show upa q none = none from rfl]
        go_wp2
        go_ret2
        exact ⟨by rw [V.out]; rfl, rfl⟩
      | some j =>
        obtain ⟨hj, hy, -⟩ := parN_some hp
        obtain ⟨s, u, lo, hi, X, -⟩ := HH.out.br j hj
        have c0 := X.cells 0 _ rfl
        have c1 := X.cells 1 _ rfl
        have c2 := X.cells 2 _ rfl
        rw [upv_eq] at c0
        obtain ⟨k0, k1, k2, k3⟩ := kd_up HH.out.ok hj hy
        have neg := (HH.out.ok.bkt.each j hj).2.1
        rw [abv_some hp] at hf
        have PAR := Lib.hid (parent (q + 2 * j) _ w c0)
        have MS : Hid (T.bg j ≠ g → msr (.pointer (upa q (T.par (T.bf j)))) w < msr (.pointer (some ⟨q + 2 * j, 0, none⟩)) w) := by
          intro _
          have e2 : msr (.pointer (some ⟨q + 2 * j, 0, none⟩)) w = (4 - T.bg j).toNat := by unfold msr; simp only [c2]
          rw [e2]
          cases hp2 : T.par (T.bf j) with
          | none => show 0 < _; omega
          | some j2 =>
            obtain ⟨hj2, hy2, -⟩ := parN_some hp2
            obtain ⟨s2, u2, lo2, hi2, X2, -⟩ := HH.out.br j2 hj2
            have cc := X2.cells 2 _ rfl
            have := kd_up HH.out.ok hj2 hy2
            have e3 : msr (.pointer (upa q (some j2))) w = (4 - T.bg j2).toNat := by unfold msr upa; simp only [cc]
            rw [e3]; omega
        by_cases hg : T.bg j = g
        · rw [if_pos hg] at hf
          have V : Hid (AbvV R = .tuple #[.int .i64 (T.bf j), .int .i64 0]) := by
            show AbvV R = _
            unfold AbvV; rw [← hf, if_neg (by omega)]
          clear hf hR MS PAR k0 k1 k2 k3 hy hp hl
          subst hg
          rw [show upa q (some j) = some ⟨q + 2 * j, 0, none⟩ from rfl]
          generalize T.bf j = a at *
          generalize T.bg j = b at *
          go_wp2
          go_ret2
          exact ⟨by rw [V.out]; rfl, rfl⟩
        · rw [if_neg hg] at hf
          have g' : (T.bg j == g) = false := by simpa using hg
          have FF := Lib.hid (show abv T f (T.bf j) g = R ∧ 3 - T.kd (T.bf j) < f from ⟨hf, by rw [k3]; omega⟩)
          have MS := Lib.hid (MS.out hg)
          clear hf hR hg k0 k1 k2 k3 hy hp hl neg
          rw [show upa q (some j) = some ⟨q + 2 * j, 0, none⟩ from rfl]
          go_wp2_with fail
          refine PAR.out.mono ?_
          rintro e w3 ⟨rfl, rfl⟩
          go_wp2
          go_round
          case rel => exact ⟨f, T.bf j, rfl, FF.out.1, FF.out.2⟩
          case measure => exact MS.out
end Go.Proofs.Ytigaoimnhebegaa.Tm

/-
  AboveOf and DomainOf: the program's answers and the model's.
-/
namespace Go.Proofs.Ytigaoimnhebegaa.Tm
open Go.RowKit Go.Proofs.Ytigaoimnhebegaa.GfI Go.Proofs.Ytigaoimnhebegaa.GfS Go.Proofs.Ytigaoimnhebegaa.MixC
open Go.Proofs.Ytigaoimnhebegaa.It (lay chain)
open Go.Proofs.Ytigaoimnhebegaa.Bk (Bks tval bval)
open Go.Proofs.Ytigaoimnhebegaa.Sg (BxN)
set_option linter.unusedVariables false
set_option linter.unusedSimpArgs false

def ErrV (n : Int) : Value := .tuple #[.int .i64 0, .int .i64 n]
def AboveAns (ok : Bool) (T : TD) (x g : Int) : Value := if ok = true then (if inB g 1 3 = true then AbvV (abv T 5 x g) else ErrV 2) else ErrV 1
theorem kd_ge {T : TD} (B : T.BktOk) (x : Int) : -1 ≤ T.kd x := by
  rcases T.kd_cases x with ⟨_, _, _, e⟩ | ⟨_, j, hj, _, e⟩ | ⟨_, _, e⟩
  · omega
  · have := (B.each j hj).2.2.1; omega
  · omega
theorem abv_or (T : TD) (B : T.BktOk) (g : Int) : ∀ (f : Nat) (x : Int), abv T f x g = 0 ∨ abv T f x g < 0
  | 0, x => .inl rfl
  | f + 1, x => by
    cases h : T.par x with
    | none => exact .inl (abv_none h)
    | some j =>
      rw [abv_some h]
      split
      · exact .inr (by have := (B.each j (parN_some h).1).2.1; omega)
      · exact abv_or T B g f _

theorem AboveAns_two (ok : Bool) (T : TD) (x g : Int) : ∃ r0 r1, AboveAns ok T x g = .tuple #[.int .i64 r0, .int .i64 r1] := by
  unfold AboveAns ErrV AbvV
  split
  · split
    · exact ⟨_, _, rfl⟩
    · exact ⟨_, _, rfl⟩
  · exact ⟨_, _, rfl⟩
end Go.Proofs.Ytigaoimnhebegaa.Tm
