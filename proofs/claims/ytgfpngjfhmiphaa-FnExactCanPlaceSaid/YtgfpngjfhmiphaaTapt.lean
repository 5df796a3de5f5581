/-
  Apart: whether the devices of places are in different domains; the program's function.
-/
import Derived.Test.YtgfpngjfhmiphaaTdom
import Derived.Test.YtgfpngjfhmiphaaItemsOk
namespace Go.Proofs.Ytgfpngjfhmiphaa.Tm
open Go.RowKit Go.Proofs.Ytgfpngjfhmiphaa.GfI Go.Proofs.Ytgfpngjfhmiphaa.GfS Go.Proofs.Ytgfpngjfhmiphaa.MixC
open Go.Maps
open Go.Proofs.Ytgfpngjfhmiphaa.It (lay chain)
open Go.Proofs.Ytgfpngjfhmiphaa.Bk (Bks tval bval)
open Go.Proofs.Ytgfpngjfhmiphaa.Sg (BxN)
open Go.Proofs.Ytgfpngjfhmiphaa.Rc (ownsMap_later wpList_lookup_bool plainElem_bool_inv keys zeroB)
set_option linter.unusedVariables false
set_option linter.unusedSimpArgs false

/-- A device that is there, in a domain. -/
def gdom (T : TD) (g x : Int) : Prop := T.kd x = 0 ∧ (g = 0 ∨ dom8 T g x ≠ 0)
/-- The first k places: devices in domains, or holes; no two in one. -/
def ApN (T : TD) (g : Int) (z : Nat → Int) (k : Nat) : Prop := ∀ i, i < k → z i ≠ -1 → gdom T g (z i) ∧ ∀ j, j < i → z j ≠ -1 → dom8 T g (z j) ≠ dom8 T g (z i)
theorem ApN.zero (T : TD) (g : Int) (z : Nat → Int) : ApN T g z 0 := fun i hi => absurd hi (Nat.not_lt_zero _)
theorem ApN.hole {T : TD} {g : Int} {z : Nat → Int} {k : Nat} (h : ApN T g z k) (e : z k = -1) : ApN T g z (k + 1) := fun i hi hn => by
  by_cases q : i = k
  · rw [q] at hn; exact absurd e hn
  · exact h i (by omega) hn
theorem ApN.step {T : TD} {g : Int} {z : Nat → Int} {k : Nat} (h : ApN T g z k) (d : gdom T g (z k)) (o : ∀ j, j < k → z j ≠ -1 → dom8 T g (z j) ≠ dom8 T g (z k)) : ApN T g z (k + 1) := fun i hi hn => by
  by_cases q : i = k
  · rw [q]; exact ⟨d, o⟩
  · exact h i (by omega) hn
def dA (T : TD) (g x : Int) : Int := if T.kd x = 0 then dom8 T g x else 0
theorem DomV_no {T : TD} {g x : Int} (h : ¬ gdom T g x) : DomV T g x = .tuple #[.int .i64 (dA T g x), .int .i64 3] := by
  unfold DomV dA dom8 AbvV
  by_cases hk : T.kd x = 0
  · rw [if_pos hk, if_pos hk]
    by_cases hg : g = 0
    · exact absurd ⟨hk, .inl hg⟩ h
    · rw [if_neg hg, if_neg hg]
      have : abv T 5 x g = 0 := Classical.byContradiction fun n => h ⟨hk, .inr (by unfold dom8; rw [if_neg hg]; exact n)⟩
      rw [if_pos this]
  · rw [if_neg hk, if_neg hk]; rfl
theorem DomV_yes {T : TD} {g x : Int} (h : gdom T g x) : DomV T g x = .tuple #[.int .i64 (dom8 T g x), .int .i64 0] := by
  obtain ⟨hk, hd⟩ := h
  unfold DomV dom8 AbvV
  rw [if_pos hk]
  by_cases hg : g = 0
  · rw [if_pos hg, if_pos hg]
  · rw [if_neg hg, if_neg hg]
    have : abv T 5 x g ≠ 0 := by rcases hd with e | e; · exact absurd e hg
                                 · unfold dom8 at e; rwa [if_neg hg] at e
    rw [if_neg this]
theorem abv_low (T : TD) (B : T.BktOk) (g : Int) : ∀ (f : Nat) (x : Int), -12 ≤ abv T f x g ∧ abv T f x g ≤ 0
  | 0, x => by unfold abv; omega
  | f + 1, x => by
    cases h : T.par x with
    | none => rw [abv_none h]; omega
    | some j =>
      rw [abv_some h]
      split
      · have := B.each j (parN_some h).1; omega
      · exact abv_low T B g f _
theorem dom8_wf {T : TD} (O : T.Ok) {g x : Int} (h : T.kd x = 0) : -12 ≤ dom8 T g x ∧ dom8 T g x ≤ 15 := by
  unfold dom8
  split
  · rcases T.kd_cases x with ⟨i, hi, e, _⟩ | ⟨_, j, hj, _, e⟩ | ⟨_, _, e⟩
    · have := O.dev.each i hi; omega
    · have := (O.bkt.each j hj).2.2.1; omega
    · omega
  · have := abv_low T O.bkt g 5 x; omega
/-- The map of the domains met in the first k places. -/
def MetH (T : TD) (g : Int) (z : Nat → Int) : Nat → DataW Unit
  | 0 => .map []
  | k + 1 => if z k = -1 then MetH T g z k else (MetH T g z k).put (.int .i64 (dom8 T g (z k))) (.lit (.bool true))
theorem metH_isMap (T : TD) (g : Int) (z : Nat → Int) : ∀ k, IsMap (MetH T g z k)
  | 0 => isMap_empty
  | k + 1 => by
    unfold MetH
    split
    · exact metH_isMap T g z k
    · exact (metH_isMap T g z k).put _ _
theorem metH_hole {T : TD} {g : Int} {z : Nat → Int} {k : Nat} (h : z k = -1) : MetH T g z (k + 1) = MetH T g z k := by
  conv => lhs; unfold MetH
  rw [if_pos h]
theorem metH_put {T : TD} {g : Int} {z : Nat → Int} {k : Nat} (h : z k ≠ -1) : MetH T g z (k + 1) = (MetH T g z k).put (.int .i64 (dom8 T g (z k))) (.lit (.bool true)) := by
  conv => lhs; unfold MetH
  rw [if_neg h]
theorem metH_at (T : TD) (g : Int) (z : Nat → Int) (x : Int) : ∀ k, (MetH T g z k).atKey (.int .i64 x) (.lit (.bool false)) = .lit (.bool (decide (∃ j, j < k ∧ z j ≠ -1 ∧ dom8 T g (z j) = x)))
  | 0 => by
    rw [decide_eq_false (by rintro ⟨j, hj, _⟩; omega)]; rfl
  | k + 1 => by
    by_cases hz : z k = -1
    · rw [metH_hole hz, metH_at T g z x k]
      congr 2
      rw [Bool.eq_iff_iff, decide_eq_true_iff, decide_eq_true_iff]
      constructor
      · rintro ⟨j, hj, h⟩; exact ⟨j, by omega, h⟩
      · rintro ⟨j, hj, h, e⟩
        by_cases q : j = k
        · rw [q] at h; exact absurd hz h
        · exact ⟨j, by omega, h, e⟩
    · rw [metH_put hz]
      by_cases e : dom8 T g (z k) = x
      · rw [decide_eq_true ⟨k, by omega, hz, e⟩, e, atKey_put_same (metH_isMap T g z k) (by trivial)]
      · rw [atKey_put_other (by intro h; cases h; exact e rfl), metH_at T g z x k]
        congr 2
        rw [Bool.eq_iff_iff, decide_eq_true_iff, decide_eq_true_iff]
        constructor
        · rintro ⟨j, hj, h⟩; exact ⟨j, by omega, h⟩
        · rintro ⟨j, hj, h, e'⟩
          by_cases q : j = k
          · rw [q] at e'; exact absurd e' e
          · exact ⟨j, by omega, h, e'⟩
theorem isPlaceCount (n : Int) (w : World) : Calls Try.prog 80 #[.int .i64 n] w fun e w' => e = .returned (.bool (inB n 0 7)) ∧ w = w' := by
  go_enter Try.func80, Try.ntmps80
  go_wp2_with fail
  refine (Wi.isWithin n 0 7 (by omega) _).mono ?_
  rintro e w1 ⟨rfl, rfl⟩
  go_wp2
  go_ret
  exact ⟨rfl, rfl⟩
def zF (z : List Int) (i : Nat) : Int := z.getD i 0
/-- What Apart says. -/
def AptP (T : TD) (g : Int) (z : List Int) : Prop := T.Ok ∧ inB g 0 2 = true ∧ z.length ≤ 7 ∧ ApN T g (zF z) z.length

set_option maxRecDepth 100000 in
set_option maxHeartbeats 2000000 in
theorem implApart (T : TD) (A : TA) (g : Int) (a : Option Addr) (cap : Nat) (z : List Int) (w : World) (Z : T.Sz) (WF : T.Wf) (hz : z.length ≤ 2097152) (hzw : ∀ x ∈ z, (Lit.int .i64 x).wf = true) (h : TIn w T A) (hw0 : Words w a z) :
    Calls Try.prog 32 #[A.val T, .int .i64 g, .slice a z.length cap] w (IffB (AptP T g z) w) := by
  have LH := Lib.hid (lay w (.cells #[.slice A.da T.dn A.dc, .slice A.ba T.bn A.bc] 33))
  have K := Lib.hid (partsOf T A _ Z WF (h.below LH.out))
  clear h Z WF
  obtain ⟨da, dc, ba, bc, I, C⟩ := A
  dsimp only at K LH ⊢
  obtain ⟨n, hn⟩ : ∃ n, n = z.length := ⟨_, rfl⟩
  have HN := Lib.hid hn
  rw [← hn] at hz ⊢
  clear hn
  have WZ := Lib.hid hw0
  clear hw0
  go_enter Try.func32, Try.ntmps32
  go_wp2_with fail
  refine K.out.mono ?_
  rintro e w1 ⟨b1, ⟨N, rfl⟩ | ⟨Y, mb, p, q, base, U, S, rfl, hU, hP⟩⟩
  · have B1 := Lib.hid (chain LH.out b1)
    have NO := Lib.hid (show ¬ AptP T g z from fun h => N h.1)
    clear N
    go_wp2
    go_ret
    exact IffB.no NO.out B1.out
  · have B1 := Lib.hid (chain LH.out b1)
    have OH := Lib.hid Y
    have HW := Lib.hid (hP.whole Y hU)
    have DM := Lib.hid (fun x (hx : (Lit.int .i64 x).wf = true) w' (b : Below w1.heap.size w1 w') => domainOf T mb p q g x w' (HW.out.later b) hx)
    have IB := isDomainKind g
    have IC := isPlaceCount n
    clear hP hU b1 Y
    cases hi : inB g 0 2
    · rw [hi] at IB
      have IB := Lib.hid IB
      have NO := Lib.hid (show ¬ AptP T g z from fun h => by have := h.2.1; rw [hi] at this; cases this)
      clear hi IC
      go_wp2_with fail
      refine (IB.out _).mono ?_
      rintro e w2 ⟨rfl, rfl⟩
      go_wp2
      go_ret
      exact IffB.no NO.out B1.out
    · rw [hi] at IB
      have IB := Lib.hid IB
      by_cases h7 : n ≤ 7
      · rw [show inB n 0 7 = true from inB_yes (by omega) (by omega)] at IC
        have IC := Lib.hid IC
        have YES := Lib.hid (show ApN T g (zF z) n → AptP T g z from fun h => ⟨OH.out, hi, by rw [← HN.out]; exact h7, by rw [← HN.out]; exact h⟩)
        have NO := Lib.hid (show ¬ ApN T g (zF z) n → ¬ AptP T g z from fun h k => h (by rw [HN.out]; exact k.2.2.2))
        have hmm := @run_makeMap Try.prog
        have M0 := Lib.hid (World.ownsMap_made w1 Try.prog 2 (plainElem (H := Unit) Try.prog 4))
        have L1 := Lib.hid (lay w1 (.map #[] 0))
        clear hi
        go_wp2_with fail
        refine (IB.out _).mono ?_
        rintro e w2 ⟨rfl, rfl⟩
        go_wp2_with fail
        refine (IC.out _).mono ?_
        rintro e w2 ⟨rfl, rfl⟩
        go_wp2
        go_loopw [35] (fun i wr => ∃ (k c : Nat), k ≤ n ∧ c ≤ k ∧ i = .int .i64 k ∧ ApN T g (zF z) k ∧ wr.ownsMap Try.prog 2 (plainElem (H := Unit) Try.prog 4) w1.heap.size c (MetH T g (zF z) k) ∧ Below w1.heap.size w1 wr) (fun i _ => n - (intOf i).toNat)
        case atStart => exact ⟨0, 0, by omega, by omega, rfl, ApN.zero _ _ _, M0.out, L1.out⟩
        case round =>
          clear M0 L1
          obtain ⟨k, c, hk, hc, rfl, P, own, hw⟩ := hrel
          have PH := Lib.hid P
          have WH := Lib.hid hw
          have MH := Lib.hid own
          clear P own
          by_cases hlt : k < n
          · have hkz : k < z.length := by rw [← HN.out]; exact hlt
            obtain ⟨bz, oz, rfl, hBz, nums⟩ := (WZ.out.below (chain B1.out hw)).resolve_left (by intro e; rw [e] at hkz; simp at hkz)
            have d := nums k hkz
            have FL := Lib.hid (fun (h : ¬ ApN T g (zF z) (k + 1)) => show ¬ ApN T g (zF z) n from fun r => h (fun i hi => r i (by omega)))
            have HO := Lib.hid (show zF z k = -1 → ApN T g (zF z) (k + 1) ∧ MetH T g (zF z) (k + 1) = MetH T g (zF z) k from fun e => ⟨PH.out.hole e, metH_hole e⟩)
            have zk : zF z k = z.getD k 0 := rfl
            have WX := Lib.hid (hzw _ (getD_mem hkz))
            rw [← zk] at d WX
            clear nums hw zk
            by_cases h1 : zF z k = -1
            · obtain ⟨P2, E2⟩ := HO.out h1
              have P2 := Lib.hid P2
              have E2 := Lib.hid E2
              rw [h1] at d
              clear h1
              go_wp2
              go_roundw
              case rel => exact ⟨k + 1, c, by omega, by omega, by go_num, P2.out, by rw [E2.out]; exact MH.out, WH.out⟩
              case measure => simp [intOf]; omega
            · have h1' : (zF z k == -1) = false := by simpa using h1
              have DC := DM.out _ WX.out _ WH.out
              by_cases hg : gdom T g (zF z k)
              · rw [DomV_yes hg] at DC
                have DC := Lib.hid DC
                have KY := keyOf_int_mk (P := Try.prog) Try.underlying2 (WalkArith.wf_i64 (n := dom8 T g (zF z k)) (by have := dom8_wf OH.out (g := g) hg.1; omega))
                have AT := metH_at T g (zF z) (dom8 T g (zF z k)) k
                have PU := Lib.hid (metH_put (T := T) (g := g) h1)
                by_cases hs : ∃ j, j < k ∧ zF z j ≠ -1 ∧ dom8 T g (zF z j) = dom8 T g (zF z k)
                · rw [decide_eq_true hs] at AT
                  have NO := Lib.hid (NO.out (FL.out (fun r => by obtain ⟨j, hj, h2, h3⟩ := hs; exact (r k (by omega) h1).2 j hj h2 h3)))
                  clear hs h1 hg PU HO FL YES
                  generalize dom8 T g (zF z k) = dv at *
                  generalize zF z k = zv at *
                  go_wp2_with fail
                  refine DC.out.mono ?_
                  rintro e w2 ⟨rfl, rfl⟩
                  go_wp2_with (at_lookup; refine wpList_lookup_bool _ rfl _ _ 117 rfl 2 4 keys Try.underlying117 Try.underlying4 (zeroB _) w1.heap.size c (MetH T g (zF z) k) rfl MH.out _ _ rfl KY true AT ?_)
                  go_ret
                  exact IffB.no NO.out (chain B1.out WH.out)
                · rw [decide_eq_false hs] at AT
                  have P2 := Lib.hid (PH.out.step hg (fun j hj h2 h3 => hs ⟨j, hj, h2, h3⟩))
                  have hk8 : c < maxLen := by unfold maxLen; omega
                  have LE := Lib.hid WH.out.size
                  clear hs h1 hg HO FL YES NO
                  generalize dom8 T g (zF z k) = dv at *
                  generalize zF z k = zv at *
                  go_wp2_with fail
                  refine DC.out.mono ?_
                  rintro e w2 ⟨rfl, rfl⟩
                  go_wp2_with (first | (at_lookup; refine wpList_lookup_bool _ rfl _ _ 117 rfl 2 4 keys Try.underlying117 Try.underlying4 (zeroB _) w1.heap.size c (MetH T g (zF z) k) rfl MH.out _ _ rfl KY false AT ?_) | (at_mapUpdate; refine wpList_mapUpdate_own _ rfl _ _ _ 117 rfl 2 4 keys Try.underlying117 _ w1.heap.size c _ rfl MH.out hk8 _ _ _ rfl rfl KY _ [] (plainElem_bool Try.underlying4 true) ?_; intro w3 hown3 hgrow3))
                  have B3 := Lib.hid (WH.out.grown hgrow3 LE.out (fun j hj => by cases hj; exact Nat.le_refl _))
                  have OW3 := Lib.hid hown3
                  clear hown3 hgrow3
                  go_roundw
                  case rel => exact ⟨k + 1, c + 1, by omega, by omega, by go_num, P2.out, by rw [PU.out]; exact OW3.out, B3.out⟩
                  case measure => simp [intOf]; omega
              · rw [DomV_no hg] at DC
                have DC := Lib.hid DC
                have NO := Lib.hid (NO.out (FL.out (fun r => hg (r k (by omega) h1).1)))
                clear h1 hg HO FL YES MH
                generalize dA T g (zF z k) = dv at *
                generalize zF z k = zv at *
                go_wp2_with fail
                refine DC.out.mono ?_
                rintro e w2 ⟨rfl, rfl⟩
                go_wp2
                go_ret
                exact IffB.no NO.out (chain B1.out WH.out)
          · obtain rfl : k = n := by omega
            have G := Lib.hid (YES.out PH.out)
            have B2 := Lib.hid (chain B1.out hw)
            clear hw YES NO MH
            go_wp2
            go_ret
            exact IffB.yes G.out B2.out
      · rw [show inB n 0 7 = false from decide_eq_false (by omega)] at IC
        have IC := Lib.hid IC
        have NO := Lib.hid (show ¬ AptP T g z from fun h => h7 (by rw [HN.out]; exact h.2.2.1))
        clear hi h7
        go_wp2_with fail
        refine (IB.out _).mono ?_
        rintro e w2 ⟨rfl, rfl⟩
        go_wp2_with fail
        refine (IC.out _).mono ?_
        rintro e w2 ⟨rfl, rfl⟩
        go_wp2
        go_ret
        exact IffB.no NO.out B1.out
end Go.Proofs.Ytgfpngjfhmiphaa.Tm
