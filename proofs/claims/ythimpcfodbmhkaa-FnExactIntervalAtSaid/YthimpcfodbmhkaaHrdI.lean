/-
  What was heard of an interval: the list of heard nodes, the places of nodes that were heard; the program.
-/
import Derived.Test.YthimpcfodbmhkaaHrdM
namespace Go.Proofs.Ythimpcfodbmhkaa.Ac
open Go.RowKit Go.Proofs.Ythimpcfodbmhkaa.GfI Go.Proofs.Ythimpcfodbmhkaa.GfS Go.Proofs.Ythimpcfodbmhkaa.MixC
open Go.Proofs.Ythimpcfodbmhkaa.Gf2 (Ib wpList_append_int)
open Go.Proofs.Ythimpcfodbmhkaa.Rd (lay chain chainX RetW Rdb rows_words rows_wf GOne AnsI AnsR gone_of_own rows_of_words DInterval shape_Interval mk_Interval)
open Go.Proofs.Ythimpcfodbmhkaa.Sg (BxN)
set_option linter.unusedVariables false
set_option linter.unusedSimpArgs false

def noNd (x : Int) : Bool := !inB x 0 15
theorem noNode (x : Int) (w : World) : Calls Try.prog 102 #[.int .i64 x] w (RetW (.bool (noNd x)) w) := by
  have N := fun w' => isNodeT x w'
  unfold noNd
  generalize inB x 0 15 = b at *
  have N := Lib.hid N
  go_enter Try.func102, Try.ntmps102
  go_wp2_with fail
  refine (N.out _).mono ?_
  rintro e w1 ⟨rfl, rfl⟩
  go_wp2
  go_ret
  exact ⟨rfl, Below.refl _ _⟩
set_option maxRecDepth 100000 in
set_option maxHeartbeats 2000000 in
theorem idxNoNode (a : Option Addr) (cap : Nat) (l : List Int) (w : World) (hl : l.length ≤ 2097152) (h : Words w a l) :
    Calls Try.prog 110 #[.slice a l.length cap, .func (.func 102) #[] #[]] w (IdxF noNd l w) := by
  obtain ⟨n, hn⟩ : ∃ n, n = l.length := ⟨_, rfl⟩
  have HN := Lib.hid hn
  have FND := Lib.hid (show ∀ w' (k : Nat), Below w.heap.size w w' → k < n → noNd (zF l k) = true → (∀ j, j < k → noNd (zF l j) = false) → IdxF noNd l w (.returned (.int .i64 (k : Int))) w' from fun w' k b hk q r => ⟨_, rfl, b, .inl ⟨k, rfl, by rw [← hn]; exact hk, q, r⟩⟩)
  have NON := Lib.hid (show ∀ w', Below w.heap.size w w' → (∀ j, j < n → noNd (zF l j) = false) → IdxF noNd l w (.returned (.int .i64 (-1))) w' from fun w' b r => ⟨_, rfl, b, .inr ⟨rfl, by rw [← hn]; exact r⟩⟩)
  rw [← hn] at hl ⊢
  have HW := Lib.hid h
  clear hn h
  go_enter Try.func110, Try.ntmps110
  go_wp2
  go_loopw [8] (fun i wr => ∃ k : Nat, k ≤ n ∧ i = .int .i64 k ∧ (∀ j, j < k → noNd (zF l j) = false) ∧ Below w.heap.size w wr) (fun i _ => n - (intOf i).toNat)
  case atStart => exact ⟨0, by omega, rfl, fun j hj => absurd hj (Nat.not_lt_zero _), Below.refl _ _⟩
  case round =>
    obtain ⟨k, hk, rfl, R, hw⟩ := hrel
    have HR := Lib.hid R
    have BH := Lib.hid hw
    clear R
    by_cases hlt : k < n
    · have hkz : k < l.length := by rw [← HN.out]; exact hlt
      obtain ⟨b, off, rfl, hB, hc⟩ := (HW.out.below hw).resolve_left (by intro e; rw [e] at hkz; simp at hkz)
      have c0 : wr.cell? ⟨b, off + k, none⟩ = some (.int .i64 (zF l k)) := hc k hkz
      have FD := Lib.hid (fun w' b q => FND.out w' k b hlt q HR.out)
      have NX := Lib.hid (fun (q : noNd (zF l k) = false) => show ∀ j, j < k + 1 → noNd (zF l j) = false from fun j hj => if e : j = k then by rw [e]; exact q else HR.out j (by omega))
      clear hc hw hkz
      generalize zF l k = x at *
      have PR := fun w' => noNode x w'
      cases q : noNd x
      · rw [q] at PR
        have PR := Lib.hid PR
        have G := Lib.hid (NX.out q)
        clear q NX FD
        go_wp2_with fail
        refine (PR.out _).mono ?_
        rintro e w1 ⟨rfl, b1⟩
        have B1 := Lib.hid (chainX w BH.out b1)
        clear b1
        go_wp2
        go_roundw
        case rel => exact ⟨k + 1, by omega, by go_num, G.out, B1.out⟩
        case measure => simp [intOf]; omega
      · rw [q] at PR
        have PR := Lib.hid PR
        have FD := Lib.hid (fun w' b => FD.out w' b q)
        clear q NX
        go_wp2_with fail
        refine (PR.out _).mono ?_
        rintro e w1 ⟨rfl, b1⟩
        have G := Lib.hid (FD.out _ (chainX w BH.out b1))
        clear b1 FD
        go_wp2
        go_ret
        exact G.out
    · obtain rfl : k = n := by omega
      have G := Lib.hid (NON.out _ BH.out HR.out)
      clear hw
      go_wp2
      go_ret
      exact G.out
set_option maxRecDepth 100000 in
set_option maxHeartbeats 2000000 in
theorem conNoNode (a : Option Addr) (cap : Nat) (l : List Int) (w : World) (hl : l.length ≤ 2097152) (h : Words w a l) :
    Calls Try.prog 101 #[.slice a l.length cap, .func (.func 102) #[] #[]] w (IffB (HasP noNd l) w) := by
  have I := Lib.hid (idxNoNode a cap l w hl h)
  clear h
  generalize l.length = n at *
  go_enter Try.func101, Try.ntmps101
  go_wp2_with fail
  refine I.out.mono ?_
  rintro e w1 ⟨i, rfl, b1, ⟨k, rfl, hk, hq, -⟩ | ⟨rfl, N⟩⟩
  · have G := Lib.hid (IffB.yes (P := HasP noNd l) ⟨k, hk, hq⟩ b1)
    have d : decide ((0 : Int) ≤ (k : Int)) = true := decide_eq_true (by omega)
    clear b1 hq hk
    go_wp2
    go_ret
    exact G.out
  · have G := Lib.hid (IffB.no (P := HasP noNd l) (by rintro ⟨j, hj, hq⟩; rw [N j hj] at hq; cases hq) b1)
    clear b1 N
    go_wp2
    go_ret
    exact G.out
set_option maxRecDepth 100000 in
set_option maxHeartbeats 2000000 in
theorem nodesOk (a : Option Addr) (cap : Nat) (h : List Int) (w : World) (hl : h.length ≤ 2097152) (hw : Words w a h) :
    Calls Try.prog 78 #[.slice a h.length cap] w (IffB (OutP h) w) := by
  have IR := Lib.hid (isRising a cap h w hl hw)
  have CP := Lib.hid (fun w' (b : Below w.heap.size w w') => conNoNode a cap h w' hl (hw.below b))
  have NO1 := Lib.hid (fun (q : ¬ RisN (zF h) h.length) => show ¬ OutP h from fun p => q p.1)
  have NO2 := Lib.hid (fun (q : HasP noNd h) => show ¬ OutP h from fun p => by
    obtain ⟨j, hj, e⟩ := q
    have := p.2 j hj
    unfold noNd at e; rw [this] at e; cases e)
  have YES := Lib.hid (fun (q : RisN (zF h) h.length) (r : ¬ HasP noNd h) => show OutP h from ⟨q, fun i hi => by
    cases e : inB (zF h i) 0 15
    · exact absurd ⟨i, hi, by unfold noNd; rw [e]; rfl⟩ r
    · rfl⟩)
  clear hw
  generalize h.length = n at *
  go_enter Try.func78, Try.ntmps78
  go_wp2_with fail
  refine IR.out.mono ?_
  rintro e w1 ⟨r, rfl, hr, b1⟩
  have B1 := Lib.hid b1
  cases r
  · have G := Lib.hid (NO1.out (fun q => by have := hr.2 q; cases this))
    clear hr b1
    go_wp2
    go_ret
    exact IffB.no G.out B1.out
  · have R1 := Lib.hid (hr.1 rfl)
    clear hr b1
    go_wp2_with fail
    refine (CP.out _ B1.out).mono ?_
    rintro e w2 ⟨r, rfl, hr, b2⟩
    have B2 := Lib.hid (chainX w B1.out b2)
    cases r
    · have G := Lib.hid (YES.out R1.out (fun q => by have := hr.2 q; cases this))
      clear hr b2
      go_wp2
      go_ret
      exact IffB.yes G.out B2.out
    · have G := Lib.hid (NO2.out (hr.1 rfl))
      clear hr b2
      go_wp2
      go_ret
      exact IffB.no G.out B2.out
/-- Whether a number stands in a list, by the library. -/
def IdxH (x : Int) (z : List Int) (w : World) (e : Ending) (w' : World) : Prop := ∃ i : Int, e = .returned (.int .i64 i) ∧ w = w' ∧ ((0 ≤ i ∧ x ∈ z) ∨ (i = -1 ∧ x ∉ z))
set_option maxRecDepth 100000 in
theorem slicesIndex (a : Option Addr) (cap : Nat) (z : List Int) (x : Int) (w : World) (hz : z.length ≤ 2097152) (h : Words w a z) :
    Calls Try.prog 111 #[.slice a z.length cap, .int .i64 x] w (IdxH x z w) := by
  obtain ⟨n, hn⟩ : ∃ n, n = z.length := ⟨_, rfl⟩
  have HN := Lib.hid hn
  rw [← hn] at hz ⊢
  clear hn
  go_enter Try.func111, Try.ntmps111
  go_wp2
  go_loop [8] (fun i => ∃ k : Nat, k ≤ n ∧ i = .int .i64 k ∧ x ∉ z.take k) (fun i => n - (intOf i).toNat)
  case atStart => exact ⟨0, by omega, rfl, by simp⟩
  case round =>
    obtain ⟨k, hk, rfl, N⟩ := hrel
    have NH := Lib.hid N
    clear N
    by_cases hlt : k < n
    · have hkz : k < z.length := by rw [← HN.out]; exact hlt
      obtain ⟨b, off, rfl, hB, hcc⟩ := h.resolve_left (by intro e; rw [e] at hkz; simp at hkz)
      have c0 := hcc k hkz
      have HK := Lib.hid hkz
      clear hcc h
      by_cases q : z.getD k 0 = x
      · have R := Lib.hid (show x ∈ z from by rw [← q]; exact getD_mem HK.out)
        generalize z.getD k 0 = y at *
        subst q
        go_wp2
        go_ret
        exact ⟨_, rfl, rfl, .inl ⟨by omega, R.out⟩⟩
      · have N2 := Lib.hid (mem_take_succ HK.out NH.out q)
        generalize z.getD k 0 = y at *
        have q' : (x == y) = false := by simpa using fun e => q e.symm
        clear q
        go_wp2
        go_round
        case rel => exact ⟨k + 1, by omega, by go_num, N2.out⟩
        case measure => simp [intOf]; omega
    · obtain rfl : k = n := by omega
      have R := Lib.hid (show x ∉ z from by have := NH.out; rw [HN.out, List.take_length] at this; exact this)
      clear h
      go_wp2
      go_ret
      exact ⟨_, rfl, rfl, .inr ⟨rfl, R.out⟩⟩
set_option maxRecDepth 100000 in
theorem slicesContains (a : Option Addr) (cap : Nat) (z : List Int) (x : Int) (w : World) (hz : z.length ≤ 2097152) (h : Words w a z) :
    Calls Try.prog 104 #[.slice a z.length cap, .int .i64 x] w (HasB x z w) := by
  have I := Lib.hid (slicesIndex a cap z x w hz h)
  clear h
  go_enter Try.func104, Try.ntmps104
  go_wp2_with fail
  refine I.out.mono ?_
  rintro e w1 ⟨i, rfl, rfl, ⟨h0, N⟩ | ⟨rfl, Y⟩⟩
  · have h' : decide (0 ≤ i) = true := decide_eq_true h0
    have N := Lib.hid N
    go_wp2
    go_ret
    exact ⟨by rw [decide_eq_true N.out]; rfl, rfl⟩
  · have Y := Lib.hid Y
    go_wp2
    go_ret
    exact ⟨by rw [decide_eq_false Y.out]; rfl, rfl⟩
set_option maxRecDepth 100000 in
set_option maxHeartbeats 2000000 in
theorem cloneA (a : Option Addr) (cap : Nat) (l : List Int) (w : World) (hl : l.length ≤ 1000000) (h : Words w a l) :
    Calls Try.prog 103 #[.slice a l.length cap] w (NodR l w) := by
  have q22 : ∀ (w : World) (a : Option Addr) (n c n' c' : Nat), (binOp .eql 54 (.slice a n c) (.slice none n' c')).run Try.prog w = .ok (.bool a.isNone) w := fun w a n c n' c' => Lib.run_eql_slice_nil w _ _ a n c n' c' Try.underlying54
  cases a with
  | none =>
    have e : l = [] := by rcases h with h | ⟨b, off, e, _⟩; exact h; cases e
    subst e
    have G := Lib.hid (show NodR [] w (.returned (.slice none 0 0)) w from ⟨none, 0, rfl, fun _ => rfl, World.ownsRow_nil _ _ _ _, Below.refl _ _⟩)
    clear h
    go_enter Try.func103, Try.ntmps103
    go_wp2
    go_ret
    exact G.out
  | some ad =>
    have LH := Lib.hid (lay w (.cells #[] 2))
    have J0 := Lib.hid (show Ib w.heap.size (w.alloc (.cells #[] 2)) (.slice (some ⟨w.heap.size, 0, none⟩) 0 0) [] from World.ownsRow_made _ #[] 0 (Nat.le_refl _) (by unfold maxLen; omega) (by simp))
    have WH := Lib.hid (h.below LH.out)
    clear h
    go_enter Try.func103, Try.ntmps103
    go_wp2_with (at_builtin; refine wpList_append_listT rfl (.tmp 5) (.tmp 6) 54 Try.underlying54 rfl w.heap.size _ [] l rfl J0.out (some ad) cap rfl WH.out (by simp; omega) (by rw [World.size_alloc]; omega) ?_; intro v' w3 J3 g3)
    have B3 := Lib.hid (LH.out.grown g3 (by rw [World.size_alloc]; omega) (fun c hc => by cases hc; exact Nat.le_refl _))
    rw [List.nil_append] at J3
    obtain ⟨a3, c3, rfl, hn⟩ := Ib.shape2 J3
    have G := Lib.hid (show NodR l w (.returned (.slice a3 l.length c3)) w3 from ⟨a3, c3, rfl, hn, J3, B3.out⟩)
    clear J3 g3
    generalize l.length = n at *
    go_wp2
    go_ret
    exact G.out
set_option maxRecDepth 100000 in
set_option maxHeartbeats 4000000 in
theorem onlyA (a b : Option Addr) (ca cb : Nat) (l h : List Int) (w : World) (hl : l.length ≤ 1000000) (hh : h.length ≤ 2097152) (ha : Words w a l) (hb : Words w b h) :
    Calls Try.prog 79 #[.slice a l.length ca, .slice b h.length cb] w (NodR (onlyL l h) w) := by
  have CN := Lib.hid (cloneA a ca l w hl ha)
  have HA := Lib.hid ha
  have HB := Lib.hid (fun w' x (q : Below w.heap.size w w') => slicesContains b cb h x w' hh (hb.below q))
  have LK := Lib.hid (fun k (q : k ≤ l.length) => onlyK_len (l := l) (h := h) q)
  have K0 := Lib.hid (onlyK_zero l h)
  have KA := Lib.hid (onlyK_all l h)
  have OL : (onlyL l h).length = l.length := by unfold onlyL; simp
  obtain ⟨n, hn⟩ : ∃ n, l.length = n := ⟨_, rfl⟩
  have HN := Lib.hid hn
  have OLH := Lib.hid OL
  rw [hn] at hl LK KA CN ⊢
  generalize h.length = m at *
  clear ha hb OL hn
  go_enter Try.func79, Try.ntmps79
  go_wp2_with fail
  refine CN.out.mono ?_
  rintro e w1 ⟨a1, c1, rfl, -, J1, b1⟩
  have J1 := Lib.hid (show Ib w.heap.size w1 (.slice a1 (onlyK l h 0).length c1) (onlyK l h 0) from by rw [K0.out]; exact J1)
  have B1 := Lib.hid b1
  rw [HN.out]
  clear b1
  go_wp2
  go_loopw [12] (fun i wr => ∃ k : Nat, k ≤ n ∧ i = .int .i64 k ∧ Ib w.heap.size wr (.slice a1 (onlyK l h k).length c1) (onlyK l h k) ∧ Below w.heap.size w wr) (fun i _ => n - (intOf i).toNat)
  case atStart => exact ⟨0, by omega, rfl, J1.out, B1.out⟩
  case round =>
    clear J1 B1
    obtain ⟨k, hk, rfl, J, hw⟩ := hrel
    have BH := Lib.hid hw
    have JH := Lib.hid J
    have LE := hw.size
    by_cases hlt : k < n
    · have hkz : k < l.length := by rw [HN.out]; exact hlt
      obtain ⟨b0, off, rfl, hB, hc⟩ := (HA.out.below hw).resolve_left (by intro e; rw [e] at hkz; simp at hkz)
      have c0 : wr.cell? ⟨b0, off + k, none⟩ = some (.int .i64 (zF l k)) := hc k hkz
      have CT := fun (w' : World) => HB.out wr (zF l k) hw
      have KP := Lib.hid (onlyK_keep (l := l) (h := h) hkz)
      have KH := Lib.hid (onlyK_hole (l := l) (h := h) hkz)
      have LL := LK.out k hk
      have j0 : (0 : Int) ≤ (k : Int) := by omega
      have j1 : (k : Int) < (n : Int) := by omega
      clear hc hw hkz
      unfold HasB at CT
      by_cases q : zF l k ∈ h
      · rw [decide_eq_true q] at CT
        have CT := Lib.hid (CT wr)
        have G := Lib.hid (show Ib w.heap.size wr (.slice a1 (onlyK l h (k + 1)).length c1) (onlyK l h (k + 1)) from by rw [KP.out q]; exact JH.out)
        clear q KP KH J
        generalize zF l k = x at *
        go_wp2_with fail
        refine CT.out.mono ?_
        rintro e w3 ⟨rfl, rfl⟩
        go_wp2
        go_roundw
        case rel => exact ⟨k + 1, by omega, by go_num, G.out, BH.out⟩
        case measure => simp [intOf]; omega
      · rw [decide_eq_false q] at CT
        have CT := Lib.hid (CT wr)
        obtain ⟨g, rfl, hg, hfree, u0, hcell⟩ : ∃ g, a1 = some ⟨g, 0, none⟩ ∧ w.heap.size ≤ g ∧ wr.frozen? ⟨g, k, none⟩ = false ∧ ∃ u, wr.cell? ⟨g, k, none⟩ = some u := by
          rcases J.2 with ⟨e, e0⟩ | ⟨g, cap, cur, e, hg, _⟩
          · rw [LL] at e0; omega
          · cases e
            exact ⟨g, rfl, hg, World.ownsRow.frozenAt J k, by
              have := World.ownsRow.cellAt J k (by rw [LL]; omega)
              have hl2 : k < ((onlyK l h k).map (Value.int .i64)).length := by rw [List.length_map, LL]; exact hlt
              exact ⟨_, this.trans (List.getElem?_eq_getElem hl2)⟩⟩
        have ST := (World.ownsRow.stored J k (.int .i64 (-1))).1
        have G := Lib.hid (show Ib w.heap.size (wr.setCell ⟨g, k, none⟩ (.int .i64 (-1))) (.slice (some ⟨g, 0, none⟩) (onlyK l h (k + 1)).length c1) (onlyK l h (k + 1)) from by
          rw [KH.out q]
          unfold Ib
          rw [List.length_set, List.map_set]
          exact ST)
        have B2 := Lib.hid (BH.out.setCell (p := ⟨g, k, none⟩) hg (.int .i64 (-1)))
        clear q KP KH J ST JH LL
        generalize zF l k = x at *
        go_wp2_with fail
        refine CT.out.mono ?_
        rintro e w3 ⟨rfl, rfl⟩
        go_wp2
        go_roundw
        case rel => exact ⟨k + 1, by omega, by go_num, G.out, B2.out⟩
        case measure => simp [intOf]; omega
    · obtain rfl : k = n := by omega
      rw [KA.out] at JH
      have G := Lib.hid (show NodR (onlyL l h) w (.returned (.slice a1 k c1)) wr from ⟨a1, c1, by rw [OLH.out, HN.out], (fun e => by subst e; exact Ib.none_cap JH.out), JH.out, BH.out⟩)
      clear J hw
      go_wp2
      go_ret
      exact G.out
end Go.Proofs.Ythimpcfodbmhkaa.Ac
