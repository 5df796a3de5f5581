/-
  Acting sets in the program: their nodes in order, which are valid, the first node, where one stands.
-/
import Derived.Test.YthimpcfodbmhkaaActM
import Derived.Test.YthimpcfodbmhkaaLstS
import Derived.Test.YthimpcfodbmhkaaShelfA
namespace Go.Proofs.Ythimpcfodbmhkaa.Rd
theorem BxN1 (w : World) (v : Value) (t : TypeId) : (w.alloc (.cells #[v] t)).cell? ⟨w.heap.size, 0, none⟩ = some v := by simp
end Go.Proofs.Ythimpcfodbmhkaa.Rd
namespace Go.Proofs.Ythimpcfodbmhkaa.Ac
open Go.RowKit Go.Proofs.Ythimpcfodbmhkaa.GfI Go.Proofs.Ythimpcfodbmhkaa.GfS Go.Proofs.Ythimpcfodbmhkaa.MixC
open Go.Proofs.Ythimpcfodbmhkaa.Gf2 (Ib wpList_append_int)
open Go.Proofs.Ythimpcfodbmhkaa.Rd (lay chain chainX RetW Rdb rows_words)
set_option linter.unusedVariables false
set_option linter.unusedSimpArgs false

/-- The first place at which p holds, or -1. -/
def IdxF (p : Int → Bool) (l : List Int) (w : World) (e : Ending) (w' : World) : Prop := ∃ i : Int, e = .returned (.int .i64 i) ∧ Below w.heap.size w w' ∧
  ((∃ k : Nat, i = k ∧ k < l.length ∧ p (zF l k) = true ∧ ∀ j, j < k → p (zF l j) = false) ∨ (i = -1 ∧ ∀ j, j < l.length → p (zF l j) = false))
def HasP (p : Int → Bool) (l : List Int) : Prop := ∃ j, j < l.length ∧ p (zF l j) = true
def isHole (x : Int) : Bool := x == -1
def noPl (x : Int) : Bool := !inB x (-1) 15
theorem nodl_filter (l : List Int) : nodl l = l.filter fun x => !isHole x := rfl
theorem holeFn (x : Int) (w : World) : Calls Try.prog 95 #[.int .i64 x] w (RetW (.bool (isHole x)) w) := by
  unfold isHole
  go_enter Try.func95, Try.ntmps95
  go_wp2
  go_ret
  exact ⟨rfl, Below.refl _ _⟩
theorem holeEq (x : Int) (w : World) : Calls Try.prog 95 #[.int .i64 x] w (fun e w' => e = .returned (.bool (isHole x)) ∧ ∃ q, w' = w.drewN q) := by
  unfold isHole
  go_enter Try.func95, Try.ntmps95
  go_wp2
  go_ret
  exact ⟨rfl, 0, rfl⟩
theorem isNodeT (n : Int) (w : World) : Calls Try.prog 90 #[.int .i64 n] w fun e w' => e = .returned (.bool (inB n 0 15)) ∧ w = w' := by
  go_enter Try.func90, Try.ntmps90
  go_wp2_with fail
  refine (Wi.isWithin n 0 15 (by omega) _).mono ?_
  rintro e w1 ⟨rfl, rfl⟩
  go_wp2
  go_ret
  exact ⟨rfl, rfl⟩
def isNd (x : Int) : Bool := inB x 0 15
theorem isNodeR (n : Int) (w : World) : Calls Try.prog 90 #[.int .i64 n] w (RetW (.bool (isNd n)) w) := (isNodeT n w).mono (by rintro e w' ⟨rfl, rfl⟩; exact ⟨rfl, Below.refl _ _⟩)
set_option maxRecDepth 100000 in
set_option maxHeartbeats 1000000 in
theorem isNoPlace (x : Int) (w : World) : Calls Try.prog 87 #[.int .i64 x] w (RetW (.bool (noPl x)) w) := by
  have N := fun w' => isNodeT x w'
  unfold noPl
  by_cases h : x = -1
  · subst h
    clear N
    go_enter Try.func87, Try.ntmps87
    go_wp2
    go_ret
    exact ⟨rfl, Below.refl _ _⟩
  · have h' : (x != -1) = true := by simpa using h
    have e : inB x (-1) 15 = inB x 0 15 := by unfold inB; rw [Bool.eq_iff_iff, decide_eq_true_iff, decide_eq_true_iff]; omega
    rw [e]
    clear e h
    generalize inB x 0 15 = ok at *
    have N := Lib.hid N
    go_enter Try.func87, Try.ntmps87
    go_wp2_with fail
    refine (N.out _).mono ?_
    rintro e w1 ⟨rfl, rfl⟩
    go_wp2
    go_ret
    exact ⟨rfl, Below.refl _ _⟩
set_option maxRecDepth 100000 in
set_option maxHeartbeats 2000000 in
theorem idxHole (a : Option Addr) (cap : Nat) (l : List Int) (w : World) (hl : l.length ≤ 2097152) (h : Words w a l) :
    Calls Try.prog 89 #[.slice a l.length cap, .func (.func 95) #[] #[]] w (IdxF isHole l w) := by
  obtain ⟨n, hn⟩ : ∃ n, n = l.length := ⟨_, rfl⟩
  have HN := Lib.hid hn
  have FND := Lib.hid (show ∀ w' (k : Nat), Below w.heap.size w w' → k < n → isHole (zF l k) = true → (∀ j, j < k → isHole (zF l j) = false) → IdxF isHole l w (.returned (.int .i64 (k : Int))) w' from fun w' k b hk q r => ⟨_, rfl, b, .inl ⟨k, rfl, by rw [← hn]; exact hk, q, r⟩⟩)
  have NON := Lib.hid (show ∀ w', Below w.heap.size w w' → (∀ j, j < n → isHole (zF l j) = false) → IdxF isHole l w (.returned (.int .i64 (-1))) w' from fun w' b r => ⟨_, rfl, b, .inr ⟨rfl, by rw [← hn]; exact r⟩⟩)
  rw [← hn] at hl ⊢
  have HW := Lib.hid h
  clear hn h
  go_enter Try.func89, Try.ntmps89
  go_wp2
  go_loopw [8] (fun i wr => ∃ k : Nat, k ≤ n ∧ i = .int .i64 k ∧ (∀ j, j < k → isHole (zF l j) = false) ∧ Below w.heap.size w wr) (fun i _ => n - (intOf i).toNat)
  case atStart => exact ⟨0, by omega, rfl, fun j hj => absurd hj (Nat.not_lt_zero _), Below.refl _ _⟩
  case round =>
    obtain ⟨k, hk, rfl, R, hw⟩ := hrel
    have HR := Lib.hid R
    have BH := Lib.hid hw
    clear R
    by_cases hlt : k < n
    · have hkz : k < l.length := by rw [← HN.out]; exact hlt
      obtain ⟨b, off, rfl, hB, hc⟩ := (HW.out.below hw).resolve_left (by intro e; rw [e] at hkz; simp at hkz)
      have c0 : wr.cell? ⟨b, off + k, none⟩ = some (.int .i64 (zF l k)) := hc k hkz
      have FD := Lib.hid (fun w' b q => FND.out w' k b hlt q HR.out)
      have NX := Lib.hid (fun (q : isHole (zF l k) = false) => show ∀ j, j < k + 1 → isHole (zF l j) = false from fun j hj => if e : j = k then by rw [e]; exact q else HR.out j (by omega))
      clear hc hw hkz
      generalize zF l k = x at *
      have PR := fun w' => holeFn x w'
      cases q : isHole x
      · rw [q] at PR
        have PR := Lib.hid PR
        have G := Lib.hid (NX.out q)
        clear q NX FD
        go_wp2_with fail
        refine (PR.out _).mono ?_
        rintro e w1 ⟨rfl, b1⟩
        have B1 := Lib.hid (chainX w BH.out b1)
        clear b1
        go_wp2
        go_roundw
        case rel => exact ⟨k + 1, by omega, by go_num, G.out, B1.out⟩
        case measure => simp [intOf]; omega
      · rw [q] at PR
        have PR := Lib.hid PR
        have FD := Lib.hid (fun w' b => FD.out w' b q)
        clear q NX
        go_wp2_with fail
        refine (PR.out _).mono ?_
        rintro e w1 ⟨rfl, b1⟩
        have G := Lib.hid (FD.out _ (chainX w BH.out b1))
        clear b1 FD
        go_wp2
        go_ret
        exact G.out
    · obtain rfl : k = n := by omega
      have G := Lib.hid (NON.out _ BH.out HR.out)
      clear hw
      go_wp2
      go_ret
      exact G.out
set_option maxRecDepth 100000 in
set_option maxHeartbeats 2000000 in
theorem idxPlace (a : Option Addr) (cap : Nat) (l : List Int) (w : World) (hl : l.length ≤ 2097152) (h : Words w a l) :
    Calls Try.prog 89 #[.slice a l.length cap, .func (.func 87) #[] #[]] w (IdxF noPl l w) := by
  obtain ⟨n, hn⟩ : ∃ n, n = l.length := ⟨_, rfl⟩
  have HN := Lib.hid hn
  have FND := Lib.hid (show ∀ w' (k : Nat), Below w.heap.size w w' → k < n → noPl (zF l k) = true → (∀ j, j < k → noPl (zF l j) = false) → IdxF noPl l w (.returned (.int .i64 (k : Int))) w' from fun w' k b hk q r => ⟨_, rfl, b, .inl ⟨k, rfl, by rw [← hn]; exact hk, q, r⟩⟩)
  have NON := Lib.hid (show ∀ w', Below w.heap.size w w' → (∀ j, j < n → noPl (zF l j) = false) → IdxF noPl l w (.returned (.int .i64 (-1))) w' from fun w' b r => ⟨_, rfl, b, .inr ⟨rfl, by rw [← hn]; exact r⟩⟩)
  rw [← hn] at hl ⊢
  have HW := Lib.hid h
  clear hn h
  go_enter Try.func89, Try.ntmps89
  go_wp2
  go_loopw [8] (fun i wr => ∃ k : Nat, k ≤ n ∧ i = .int .i64 k ∧ (∀ j, j < k → noPl (zF l j) = false) ∧ Below w.heap.size w wr) (fun i _ => n - (intOf i).toNat)
  case atStart => exact ⟨0, by omega, rfl, fun j hj => absurd hj (Nat.not_lt_zero _), Below.refl _ _⟩
  case round =>
    obtain ⟨k, hk, rfl, R, hw⟩ := hrel
    have HR := Lib.hid R
    have BH := Lib.hid hw
    clear R
    by_cases hlt : k < n
    · have hkz : k < l.length := by rw [← HN.out]; exact hlt
      obtain ⟨b, off, rfl, hB, hc⟩ := (HW.out.below hw).resolve_left (by intro e; rw [e] at hkz; simp at hkz)
      have c0 : wr.cell? ⟨b, off + k, none⟩ = some (.int .i64 (zF l k)) := hc k hkz
      have FD := Lib.hid (fun w' b q => FND.out w' k b hlt q HR.out)
      have NX := Lib.hid (fun (q : noPl (zF l k) = false) => show ∀ j, j < k + 1 → noPl (zF l j) = false from fun j hj => if e : j = k then by rw [e]; exact q else HR.out j (by omega))
      clear hc hw hkz
      generalize zF l k = x at *
      have PR := fun w' => isNoPlace x w'
      cases q : noPl x
      · rw [q] at PR
        have PR := Lib.hid PR
        have G := Lib.hid (NX.out q)
        clear q NX FD
        go_wp2_with fail
        refine (PR.out _).mono ?_
        rintro e w1 ⟨rfl, b1⟩
        have B1 := Lib.hid (chainX w BH.out b1)
        clear b1
        go_wp2
        go_roundw
        case rel => exact ⟨k + 1, by omega, by go_num, G.out, B1.out⟩
        case measure => simp [intOf]; omega
      · rw [q] at PR
        have PR := Lib.hid PR
        have FD := Lib.hid (fun w' b => FD.out w' b q)
        clear q NX
        go_wp2_with fail
        refine (PR.out _).mono ?_
        rintro e w1 ⟨rfl, b1⟩
        have G := Lib.hid (FD.out _ (chainX w BH.out b1))
        clear b1 FD
        go_wp2
        go_ret
        exact G.out
    · obtain rfl : k = n := by omega
      have G := Lib.hid (NON.out _ BH.out HR.out)
      clear hw
      go_wp2
      go_ret
      exact G.out
set_option maxRecDepth 100000 in
set_option maxHeartbeats 2000000 in
theorem idxNode (a : Option Addr) (cap : Nat) (l : List Int) (w : World) (hl : l.length ≤ 2097152) (h : Words w a l) :
    Calls Try.prog 89 #[.slice a l.length cap, .func (.func 90) #[] #[]] w (IdxF isNd l w) := by
  obtain ⟨n, hn⟩ : ∃ n, n = l.length := ⟨_, rfl⟩
  have HN := Lib.hid hn
  have FND := Lib.hid (show ∀ w' (k : Nat), Below w.heap.size w w' → k < n → isNd (zF l k) = true → (∀ j, j < k → isNd (zF l j) = false) → IdxF isNd l w (.returned (.int .i64 (k : Int))) w' from fun w' k b hk q r => ⟨_, rfl, b, .inl ⟨k, rfl, by rw [← hn]; exact hk, q, r⟩⟩)
  have NON := Lib.hid (show ∀ w', Below w.heap.size w w' → (∀ j, j < n → isNd (zF l j) = false) → IdxF isNd l w (.returned (.int .i64 (-1))) w' from fun w' b r => ⟨_, rfl, b, .inr ⟨rfl, by rw [← hn]; exact r⟩⟩)
  rw [← hn] at hl ⊢
  have HW := Lib.hid h
  clear hn h
  go_enter Try.func89, Try.ntmps89
  go_wp2
  go_loopw [8] (fun i wr => ∃ k : Nat, k ≤ n ∧ i = .int .i64 k ∧ (∀ j, j < k → isNd (zF l j) = false) ∧ Below w.heap.size w wr) (fun i _ => n - (intOf i).toNat)
  case atStart => exact ⟨0, by omega, rfl, fun j hj => absurd hj (Nat.not_lt_zero _), Below.refl _ _⟩
  case round =>
    obtain ⟨k, hk, rfl, R, hw⟩ := hrel
    have HR := Lib.hid R
    have BH := Lib.hid hw
    clear R
    by_cases hlt : k < n
    · have hkz : k < l.length := by rw [← HN.out]; exact hlt
      obtain ⟨b, off, rfl, hB, hc⟩ := (HW.out.below hw).resolve_left (by intro e; rw [e] at hkz; simp at hkz)
      have c0 : wr.cell? ⟨b, off + k, none⟩ = some (.int .i64 (zF l k)) := hc k hkz
      have FD := Lib.hid (fun w' b q => FND.out w' k b hlt q HR.out)
      have NX := Lib.hid (fun (q : isNd (zF l k) = false) => show ∀ j, j < k + 1 → isNd (zF l j) = false from fun j hj => if e : j = k then by rw [e]; exact q else HR.out j (by omega))
      clear hc hw hkz
      generalize zF l k = x at *
      have PR := fun w' => isNodeR x w'
      cases q : isNd x
      · rw [q] at PR
        have PR := Lib.hid PR
        have G := Lib.hid (NX.out q)
        clear q NX FD
        go_wp2_with fail
        refine (PR.out _).mono ?_
        rintro e w1 ⟨rfl, b1⟩
        have B1 := Lib.hid (chainX w BH.out b1)
        clear b1
        go_wp2
        go_roundw
        case rel => exact ⟨k + 1, by omega, by go_num, G.out, B1.out⟩
        case measure => simp [intOf]; omega
      · rw [q] at PR
        have PR := Lib.hid PR
        have FD := Lib.hid (fun w' b => FD.out w' b q)
        clear q NX
        go_wp2_with fail
        refine (PR.out _).mono ?_
        rintro e w1 ⟨rfl, b1⟩
        have G := Lib.hid (FD.out _ (chainX w BH.out b1))
        clear b1 FD
        go_wp2
        go_ret
        exact G.out
    · obtain rfl : k = n := by omega
      have G := Lib.hid (NON.out _ BH.out HR.out)
      clear hw
      go_wp2
      go_ret
      exact G.out
set_option maxRecDepth 100000 in
set_option maxHeartbeats 2000000 in
theorem conPlace (a : Option Addr) (cap : Nat) (l : List Int) (w : World) (hl : l.length ≤ 2097152) (h : Words w a l) :
    Calls Try.prog 86 #[.slice a l.length cap, .func (.func 87) #[] #[]] w (IffB (HasP noPl l) w) := by
  have I := Lib.hid (idxPlace a cap l w hl h)
  clear h
  generalize l.length = n at *
  go_enter Try.func86, Try.ntmps86
  go_wp2_with fail
  refine I.out.mono ?_
  rintro e w1 ⟨i, rfl, b1, ⟨k, rfl, hk, hq, -⟩ | ⟨rfl, N⟩⟩
  · have G := Lib.hid (IffB.yes (P := HasP noPl l) ⟨k, hk, hq⟩ b1)
    have d : decide ((0 : Int) ≤ (k : Int)) = true := decide_eq_true (by omega)
    clear b1 hq hk
    go_wp2
    go_ret
    exact G.out
  · have G := Lib.hid (IffB.no (P := HasP noPl l) (by rintro ⟨j, hj, hq⟩; rw [N j hj] at hq; cases hq) b1)
    clear b1 N
    go_wp2
    go_ret
    exact G.out
set_option maxRecDepth 100000 in
set_option maxHeartbeats 2000000 in
theorem indexA (a : Option Addr) (cap : Nat) (l : List Int) (x : Int) (w : World) (hl : l.length ≤ 2097152) (h : Words w a l) :
    Calls Try.prog 91 #[.slice a l.length cap, .int .i64 x] w (RetW (.int .i64 (placeV l x)) w) := by
  obtain ⟨n, hn⟩ : ∃ n, n = l.length := ⟨_, rfl⟩
  have HN := Lib.hid hn
  rw [← hn] at hl ⊢
  clear hn
  go_enter Try.func91, Try.ntmps91
  go_wp2
  go_loop [8] (fun i => ∃ k : Nat, k ≤ n ∧ i = .int .i64 k ∧ x ∉ l.take k) (fun i => n - (intOf i).toNat)
  case atStart => exact ⟨0, by omega, rfl, by simp⟩
  case round =>
    obtain ⟨k, hk, rfl, R⟩ := hrel
    have HR := Lib.hid R
    clear R
    by_cases hlt : k < n
    · have hkz : k < l.length := by rw [← HN.out]; exact hlt
      obtain ⟨b, off, rfl, hB, hc⟩ := h.resolve_left (by intro e; rw [e] at hkz; simp at hkz)
      have c0 : w.cell? ⟨b, off + k, none⟩ = some (.int .i64 (zF l k)) := hc k hkz
      by_cases e : zF l k = x
      · have G := Lib.hid (show RetW (.int .i64 (placeV l x)) w (.returned (.int .i64 (k : Int))) w from ⟨by rw [placeV_first hkz HR.out e], Below.refl _ _⟩)
        rw [e] at c0
        clear hc h hkz e
        generalize placeV l x = v at *
        go_wp2
        go_ret
        exact G.out
      · have G := Lib.hid (mem_take_succ hkz HR.out e)
        have d : (x == zF l k) = false := by simpa using fun q => e q.symm
        clear hc h hkz e
        generalize zF l k = y at *
        go_wp2
        go_round
        case rel => exact ⟨k + 1, by omega, by go_num, G.out⟩
        case measure => simp [intOf]; omega
    · obtain rfl : k = n := by omega
      have G := Lib.hid (show RetW (.int .i64 (placeV l x)) w (.returned (.int .i64 (-1))) w from ⟨by rw [placeV_none (l := l) (x := x) (by have := HR.out; rwa [HN.out, List.take_length] at this)], Below.refl _ _⟩)
      clear h
      generalize placeV l x = v at *
      go_wp2
      go_ret
      exact G.out
theorem ownsRow_cut {w : World} {base : Nat} {e : TypeId} {g cap n m : Nat} {xs : List Value} (h : w.ownsRow base e 1 (.slice (some ⟨g, 0, none⟩) n cap) n xs) (hm : m ≤ n) :
    w.ownsRow base e 1 (.slice (some ⟨g, 0, none⟩) m cap) m (xs.take m) := by
  obtain ⟨hl, ⟨e0, _⟩ | ⟨g', cap', cur, e0, hb, h1, hn, hc, hs, ht⟩⟩ := h
  · cases e0
  · cases e0
    refine ⟨by rw [List.length_take, hl]; omega, .inr ⟨g, cap, cur, rfl, hb, h1, by omega, hc, hs, ?_⟩⟩
    rw [← ht, List.take_take, Nat.mul_one, Nat.mul_one, Nat.min_eq_left hm]
/-- The library's DeleteFunc on a list of the call's own: the holes go. -/
theorem delA (B : Nat) (a : Option Addr) (c : Nat) (zs : List Int) (w : World) (h : Ib B w (.slice a zs.length c) zs) (hl : zs.length ≤ 1000000) :
    Calls Try.prog 93 #[.slice a zs.length c, .func (.func 95) #[] #[]] w fun e w' => ∃ a' c', e = .returned (.slice a' (nodl zs).length c') ∧ Ib B w' (.slice a' (nodl zs).length c') (nodl zs) ∧ ∃ r, w.grownBy w' r ∧ ∀ g, r = some g → B ≤ g := by
  rcases h.2 with ⟨e, h1⟩ | ⟨g, cap, cur, e, hg, hb, h1, h2, h3, h4⟩
  · have hz : zs = [] := List.eq_nil_of_length_eq_zero h1
    subst hz
    obtain ⟨rfl, -, rfl⟩ : a = none ∧ 0 = 0 ∧ c = 0 := by simpa using e
    have I := Lib.hid (idxHole none 0 [] w (by simp) (.inl rfl))
    have J := Lib.hid h
    clear h e h1
    go_enter Try.func93, Try.ntmps93
    go_wp2_with fail
    refine I.out.mono ?_
    rintro e w1 ⟨i, rfl, b1, ⟨k, rfl, hk, -⟩ | ⟨rfl, -⟩⟩
    · simp at hk
    · have G := Lib.hid (show ∃ a' c', (Ending.returned (.slice none 0 0)) = .returned (.slice a' (nodl []).length c') ∧ Ib B w1 (.slice a' (nodl []).length c') (nodl []) ∧ ∃ r, w.grownBy w1 r ∧ ∀ g, r = some g → B ≤ g from
        ⟨none, 0, rfl, World.ownsRow_nil _ _ _ _, none, ⟨b1.os, b1.tape, b1.output, b1.size, fun k hk _ => b1.block k hk⟩, fun g hg => by cases hg⟩)
      clear b1
      go_wp2
      go_ret
      exact G.out
  · obtain ⟨rfl, -, rfl⟩ : a = some ⟨g, 0, none⟩ ∧ zs.length = zs.length ∧ c = cap := by simpa using e
    have hH := holds_of_blockI (ss := zs) hb (by rw [Nat.mul_one] at h4; exact h4)
    have eg : ∀ args w, (callFunc 95 args).run Try.prog w = .ok (.enter 95 args) w := enters_of Try.func95 (by kernel_rfl) rfl
    have gives : ∀ W x, FnGives Try.prog 95 #[] #[.int .i64 x] (.bool (isHole x)) W := fun W x => holeEq x W
    have C := AnyE.slices_DeleteFunc ShA.del10 (Value.int .i64) (fun _ => rfl) isHole 95 #[] eg 0 Try.zeroValue2 g 0 c zs.toArray w (fun W x _ => gives W x) (fun n os dk x _ => gives _ x) hH (by simp; omega) (by simpa using h1)
    have hfl : (zs.toArray.toList.filter fun x => !isHole x) = nodl zs := rfl
    rw [hfl] at C
    have C2 : Calls Try.prog 93 #[.slice (some ⟨g, 0, none⟩) zs.length c, .func (.func 95) #[] #[]] w _ := C
    refine C2.mono ?_
    rintro e w' ⟨rfl, q, rfl⟩
    have hle := nodl_len zs
    have hlen : (nodl zs ++ List.replicate (zs.toArray.size - (nodl zs).length) 0).length = zs.length := by simp; omega
    have O := ownsRow_sortedI (w := w) (base := B) (n := q) (os := #[]) (ss := zs) (ts := nodl zs ++ List.replicate (zs.toArray.size - (nodl zs).length) 0) hlen hg hb h1 h2 h3
    rw [Go.Sort.grow_empty] at O
    have G := grownBy_sortedI (w := w) (g := g) (n := q) (os := #[]) (nodl zs ++ List.replicate (zs.toArray.size - (nodl zs).length) 0).toArray
    rw [Go.Sort.grow_empty] at G
    refine ⟨_, _, rfl, ?_, some g, G, fun g' e => by cases e; exact hg⟩
    have K := ownsRow_cut O hle
    rw [List.map_append, List.take_left' (by simp)] at K
    exact K
/-- Room for n numbers, of the call's own. -/
theorem growA (n : Nat) (w : World) (hn : n ≤ 1000000) : Calls Try.prog 107 #[.slice none 0 0, .int .i64 n] w fun e w' => ∃ v, e = .returned v ∧ Ib w.heap.size w' v [] ∧ Below w.heap.size w w' := by
  by_cases h0 : n = 0
  · subst h0
    refine (Any8.slices_Grow_room ShA.grow4 none 0 0 0 w (by omega) (by omega) (by omega) (by omega)).mono ?_
    rintro e w' ⟨rfl, rfl⟩
    exact ⟨_, rfl, World.ownsRow_nil _ _ _ _, Below.refl _ _⟩
  · obtain ⟨i0, hi, hz0, hz1, hz2⟩ := info_parts info2
    refine (Any8.slices_Grow_grow ShA.grow4 i0 (.int .i64 0) hi hz0 (by rw [hz1]; omega) none 0 0 n [] w (by omega) (by omega) (by rw [hz2]; omega) (by omega) (by simp) (fun _ => rfl) (fun a e => by cases e)).mono ?_
    rintro e w' ⟨rfl, rfl⟩
    refine ⟨_, rfl, ⟨by simp, .inr ⟨w.heap.size, _, _, rfl, Nat.le_refl _, Go.heap_alloc_new w.drew _, Nat.zero_le _, grownCap_le_maxLen _ _ _ _ (by unfold maxLen; omega), ?_, by simp⟩⟩, ((Below.refl _ w).drew).trans (lay w.drew _)⟩
    have := grownCap_ge w (0 + n) 0 (ShA.grow4_ren.t 25)
    have e1 : (Value.int .i64 0).cells.size = 1 := rfl
    rw [Array.size_append, Array.size_append, Go.size_zeroCells, Go.size_zeroCells, e1]
    show 0 + _ + _ = _
    omega
theorem run_append_own_noneC {P : Program} {w : World} (base : Nat) (t ty e : TypeId) (i : TypeInfo) (size : Nat) (ht : P.underlying t = some (.slice e)) (hi : P.info? e = some i)
    (v : Value) (n c : Nat) (xs : List Value) (hown : w.ownsRow base e size v n xs) :
    (Builtin.append_ #[t, t] ty #[v, .slice none 0 c]).run P w = .ok v w := by
  rcases hown.2 with ⟨rfl, rfl⟩ | ⟨g, cap, cur, rfl, _, _, hnc, _⟩
  · simp [Builtin.append_, run_underlying ht, sizeOf, typeInfo, hi, Builtin.lenOf, Builtin.firstCells]
  · simp [Builtin.append_, run_underlying ht, sizeOf, typeInfo, hi, Builtin.lenOf, Builtin.firstCells, hnc, storeCells]
theorem wpList_append_own_noneC {P : Program} {w : World} {ops : Array Oper} {rest : List Oper} {o : Oper} {a : Act} {Q : Exit → Act → World → Prop} (hgd : o.guard = none) (s x : Operand) (t : TypeId)
    (ho : o.op = .call { callee := .builtin .append, args := #[s, x], argTypes := #[t, t] })
    (base : Nat) (e : TypeId) (i : TypeInfo) (size : Nat) (ht : P.underlying t = some (.slice e)) (hi : P.info? e = some i)
    (v : Value) (n c : Nat) (xs : List Value) (hs : a.eval s = v) (hown : w.ownsRow base e size v n xs) (hx : a.eval x = .slice none 0 c)
    (h : wpList P ops Q rest (a.put o.dst v) w) : wpList P ops Q (o :: rest) a w := by
  refine wpList_plain hgd fun K hK => ?_
  have hrun := run_append_own_noneC (P := P) (w := w) base t o.type e i size ht hi v n c xs hown
  unfold Oper.wp
  simp [execOp, ho, resolve, invoke, builtin, hs, hx, hrun, Result.andThen]
  exact hK _ _ h
/-- A list of numbers behind another of the call's own. -/
theorem wpList_append_listT {w : World} {ops : Array Oper} {rest : List Oper} {o : Oper} {a : Act} {Q : Exit → Act → World → Prop} (hgd : o.guard = none) (s x : Operand) (T : TypeId) (hT : Try.prog.underlying T = some (.slice 2))
    (ho : o.op = .call { callee := .builtin .append, args := #[s, x], argTypes := #[T, T] }) (B : Nat) (v : Value) (zs ls : List Int) (hs : a.eval s = v) (hb : Ib B w v zs) (al : Option Addr) (c : Nat)
    (hx : a.eval x = .slice al ls.length c) (hw : Words w al ls) (hlen : zs.length + ls.length ≤ 1000000) (hB : B ≤ w.heap.size)
    (h : ∀ v' w', Ib B w' v' (zs ++ ls) → w.grownBy w' v.ownBlock → wpList Try.prog ops Q rest (a.put o.dst v') w') : wpList Try.prog ops Q (o :: rest) a w := by
  obtain ⟨i0, hi, hz0, hz1, hz2⟩ := info_parts info2
  have go : ∀ ad : Addr, al = some ad → (∀ j u, (ls.map (Value.int .i64))[j]? = some u → w.cell? (ad.add j) = some u) → wpList Try.prog ops Q (o :: rest) a w := by
    intro ad e hN
    subst e
    refine wpList_append_own _ hgd s x T ho B 2 i0 (.int .i64 0) 1 8 hT hi hz0 hz1 hz2 rfl (by decide) v zs.length (zs.map (Value.int .i64)) hs hb ad ls.length c (ls.map (Value.int .i64)) hx (by simp) hN (by intro u hu; obtain ⟨y, _, rfl⟩ := List.mem_map.1 hu; rfl) (by unfold maxLen; omega) (by omega) hB ?_
    intro v' w' ho' hg' _
    refine h v' w' ?_ hg'
    unfold Ib
    rw [List.length_append, List.map_append]
    exact ho'
  by_cases he : ls = []
  · subst he
    cases al with
    | none =>
      refine wpList_append_own_noneC hgd s x T ho B 2 i0 1 hT hi v zs.length c (zs.map (Value.int .i64)) hs hb hx ?_
      exact h v w (by rw [List.append_nil]; exact hb) ⟨rfl, rfl, rfl, Nat.le_refl _, fun _ _ _ => rfl⟩
    | some ad => exact go ad rfl (fun j u hu => by simp at hu)
  · obtain ⟨b, off, rfl, hBb, nums⟩ := hw.resolve_left he
    refine go _ rfl (fun j u hu => ?_)
    obtain ⟨y, hy, rfl⟩ := (by simpa using hu : ∃ y, ls[j]? = some y ∧ Value.int .i64 y = u)
    have hj : j < ls.length := (List.getElem?_eq_some_iff.1 hy).1
    have := nums j hj
    rw [List.getD_eq_getElem?_getD, hy] at this
    rw [Addr.add_lit]
    exact this
theorem flat_succ {ls : List (List Int)} {k : Nat} {x : List Int} (h : ls[k]? = some x) : (ls.take (k + 1)).flatten = (ls.take k).flatten ++ x := by
  rw [List.take_add_one, h]; simp
theorem flat_le (ls : List (List Int)) (k : Nat) : (ls.take k).flatten.length ≤ ls.flatten.length := by
  have e : ls.flatten = (ls.take k).flatten ++ (ls.drop k).flatten := by rw [← List.flatten_append, List.take_append_drop]
  rw [e, List.length_append]; omega
set_option maxRecDepth 100000 in
set_option maxHeartbeats 4000000 in
theorem concatA (a : Option Addr) (cap : Nat) (ls : List (List Int)) (w : World) {fr : Bool} {lo : Nat} (hn : ls.length ≤ 1000) (ht : ls.flatten.length ≤ 1000000) (hr : Rd.Rows fr lo w a ls) :
    Calls Try.prog 94 #[.slice a ls.length cap] w (NodR ls.flatten w) := by
  have RH := Lib.hid hr
  have GET := Lib.hid (fun k (h : k < ls.length) => Rd.get_lt h)
  have SUC := Lib.hid (fun k x (h : ls[k]? = some x) => flat_succ h)
  have LE := Lib.hid (fun k => Nat.le_trans (flat_le ls k) ht)
  have ALL := Lib.hid (show (ls.take ls.length).flatten = ls.flatten by rw [List.take_length])
  obtain ⟨n, hnn⟩ : ∃ n, n = ls.length := ⟨_, rfl⟩
  rw [← hnn] at hn GET ALL ⊢
  clear hnn hr
  go_enter Try.func94, Try.ntmps94
  go_wp2
  go_loop [3, 11] (fun c i => ∃ k : Nat, k ≤ n ∧ i = .int .i64 k ∧ c = .int .i64 ((ls.take k).flatten.length : Nat)) (fun _ i => n - (intOf i).toNat)
  case atStart => exact ⟨0, by omega, rfl, rfl⟩
  case round =>
    obtain ⟨k, hk, rfl, rfl⟩ := hrel
    by_cases hlt : k < n
    · obtain ⟨x, hx⟩ := GET.out k hlt
      obtain ⟨b, off, cs, rfl, -, hB, ⟨g1, a1, k1, ⟨rfl, z1⟩, f1⟩, hcc⟩ := RH.out.at' hx
      have c0 : w.cell? ⟨b, off + k, none⟩ = some (.slice a1 x.length k1) := by have := hcc 0 _ rfl; rwa [show off + k * Rdb.size (List Int) + 0 = off + k from by show off + k * 1 + 0 = _; omega] at this
      have S1 := SUC.out k x hx
      have L1 := LE.out (k + 1)
      have G := Lib.hid (show (ls.take (k + 1)).flatten.length = (ls.take k).flatten.length + x.length from by rw [S1, List.length_append])
      rw [G.out] at L1
      clear hcc f1 hx S1 ht
      generalize (ls.take k).flatten.length = c at *
      generalize x.length = m at *
      go_wp2
      go_round
      case rel => exact ⟨k + 1, by omega, by go_num, by rw [G.out]; go_num⟩
      case measure => simp [intOf]; omega
    · obtain rfl : k = n := by omega
      have GR := Lib.hid (growA (ls.take k).flatten.length w (LE.out k))
      generalize hc : (ls.take k).flatten.length = c at *
      clear hc
      go_wp2_with fail
      refine GR.out.mono ?_
      rintro e w1 ⟨v1, rfl, J1, b1⟩
      have J1 := Lib.hid J1
      have B1 := Lib.hid b1
      clear b1
      go_wp2
      go_loopw [6, 27] (fun v i wr => ∃ j : Nat, j ≤ k ∧ i = .int .i64 j ∧ Ib w.heap.size wr v (ls.take j).flatten ∧ Below w.heap.size w wr) (fun _ i _ => k - (intOf i).toNat)
      case atStart => exact ⟨0, by omega, rfl, J1.out, B1.out⟩
      case round =>
        clear J1 B1
        obtain ⟨j, hj, rfl, J, hw⟩ := hrel
        have BH := Lib.hid hw
        by_cases hlt2 : j < k
        · obtain ⟨x, hx⟩ := GET.out j hlt2
          obtain ⟨b, off, cs, rfl, -, hB, ⟨g1, a1, k1, ⟨rfl, z1⟩, f1⟩, hcc⟩ := (RH.out.below hw).at' hx
          have c0 : wr.cell? ⟨b, off + j, none⟩ = some (.slice a1 x.length k1) := by have := hcc 0 _ rfl; rwa [show off + j * Rdb.size (List Int) + 0 = off + j from by show off + j * 1 + 0 = _; omega] at this
          have S1 := Lib.hid (SUC.out j x hx)
          have L1 := LE.out (j + 1)
          rw [S1.out, List.length_append] at L1
          have W1 := Lib.hid (rows_words f1)
          have JH := Lib.hid J
          have LS := hw.size
          clear hcc f1 hx J hw ht
          generalize (ls.take j).flatten = zs at *
          go_wp2_with (at_builtin; refine wpList_append_listT rfl (.tmp 31) (.tmp 32) 54 Try.underlying54 rfl w.heap.size _ zs x rfl JH.out a1 k1 rfl W1.out (by omega) (by omega) ?_; intro v' w4 J4 g4)
          have B4 := Lib.hid (BH.out.grown g4 (by omega) (fun c hc => by
            rcases JH.out.2 with ⟨e, _⟩ | ⟨g, _, _, e, hg, _⟩
            · rw [e] at hc; cases hc
            · rw [e] at hc; cases hc; exact hg))
          have J4H := Lib.hid J4
          clear J4 g4
          go_roundw
          case rel => exact ⟨j + 1, by omega, by go_num, by rw [S1.out]; exact J4H.out, B4.out⟩
          case measure => simp [intOf]; omega
        · obtain rfl : j = k := by omega
          rw [ALL.out] at J
          obtain ⟨a2, c2, rfl, hn2⟩ := Ib.shape2 J
          have G := Lib.hid (show NodR ls.flatten w (.returned (.slice a2 ls.flatten.length c2)) wr from ⟨a2, c2, rfl, hn2, J, hw⟩)
          clear J hw
          generalize ls.flatten.length = c3 at *
          go_wp2
          go_ret
          exact G.out
theorem NodR.chain {l : List Int} {w w1 : World} {v : Value} {w2 : World} (b : Below w.heap.size w w1) (h : NodR l w1 (.returned v) w2) : ∃ a c, v = .slice a l.length c ∧ (a = none → c = 0) ∧ Ib w.heap.size w2 (.slice a l.length c) l ∧ Below w.heap.size w w2 := by
  obtain ⟨a, c, e, hn, J, b2⟩ := h
  refine ⟨a, c, Ending.returned.inj e, hn, ?_, Rd.chainX w b b2⟩
  obtain ⟨h1, h2⟩ := J
  refine ⟨h1, h2.imp id ?_⟩
  rintro ⟨g, cap, cur, e, hg, r⟩
  exact ⟨g, cap, cur, e, Nat.le_trans b.size hg, r⟩
theorem Ib.none_cap {B : Nat} {w : World} {n c : Nat} {zs : List Int} (h : Ib B w (.slice none n c) zs) : c = 0 := by
  rcases h.2 with ⟨e, _⟩ | ⟨g, cap, cur, e, _⟩
  · cases e; rfl
  · cases e
set_option maxRecDepth 100000 in
set_option maxHeartbeats 2000000 in
theorem nodesIn (a : Option Addr) (cap : Nat) (ls : List (List Int)) (w : World) {fr : Bool} {lo : Nat} (hn : ls.length ≤ 1000) (ht : ls.flatten.length ≤ 1000000) (hr : Rd.Rows fr lo w a ls) :
    Calls Try.prog 62 #[.slice a ls.length cap] w (NodR (nodesL ls) w) := by
  have C := Lib.hid (concatA a cap ls w hn ht hr)
  have NL := nodl_len ls.flatten
  unfold nodesL
  clear hr
  generalize ls.flatten = zs at *
  generalize ls.length = n at *
  go_enter Try.func62, Try.ntmps62
  go_wp2_with fail
  refine C.out.mono ?_
  rintro e w1 ⟨a1, c1, rfl, -, J1, b1⟩
  have B1 := Lib.hid b1
  have D := Lib.hid (delA w.heap.size a1 c1 zs w1 J1 ht)
  have HH := Lib.hid J1
  clear J1 b1
  generalize zs.length = m at *
  go_wp2_with fail
  refine D.out.mono ?_
  rintro e w2 ⟨a2, c2, rfl, J2, r2, g2, h2⟩
  have B2 := Lib.hid (B1.out.grown g2 B1.out.size h2)
  generalize nodl zs = ys at *
  have T := Lib.hid (sortI w.heap.size a2 c2 ys w2 J2 (by omega))
  clear J2 g2
  go_wp2_with fail
  refine T.out.mono ?_
  rintro e w3 ⟨rfl, J3, r3, g3, h3⟩
  have B3 := Lib.hid (B2.out.grown g3 B2.out.size h3)
  have G := Lib.hid (show NodR (srt ys) w (.returned (.slice a2 ys.length c2)) w3 from ⟨a2, c2, by rw [srt_len], (fun e => by subst e; exact Ib.none_cap J3), by rw [srt_len]; exact J3, B3.out⟩)
  clear J3 g3
  generalize ys.length = k at *
  go_wp2
  go_ret
  exact G.out
theorem rows_one {fr : Bool} {lo : Nat} {w : World} {a : Option Addr} {l : List Int} {cap : Nat} {t : TypeId} (hl : l.length ≤ 1000000) (hc : l.length ≤ cap) (h : Rd.Rows fr lo w a l) :
    Rd.Rows false 0 (w.alloc (.cells #[.slice a l.length cap] t)) (some ⟨w.heap.size, 0, none⟩) [l] := by
  refine .inr ⟨w.heap.size, 0, rfl, Nat.zero_le _, by simp, (fun e => by cases e), fun i x hx => ?_⟩
  have hi : i < 1 := (List.getElem?_eq_some_iff.1 hx).1
  obtain rfl : i = 0 := by omega
  obtain rfl : l = x := by simpa using hx
  refine ⟨[.slice a l.length cap], ⟨by omega, a, cap, ⟨rfl, hc⟩, (h.below (lay w _)).weak (Nat.zero_le _) (by simp)⟩, fun c v hv => ?_⟩
  have hc1 : c < 1 := (List.getElem?_eq_some_iff.1 hv).1
  obtain rfl : c = 0 := by omega
  obtain rfl : Value.slice a l.length cap = v := by simpa using hv
  simp
theorem nodesL_one (l : List Int) : nodesL [l] = srt (nodl l) := by unfold nodesL; simp
/-- The nodes of one set. -/
theorem nodesOne (a : Option Addr) (cap : Nat) (l : List Int) (w : World) {fr : Bool} {lo : Nat} (hl : l.length ≤ 1000000) (hc : l.length ≤ cap) (h : Rd.Rows fr lo w a l) :
    Calls Try.prog 62 #[.slice (some ⟨w.heap.size, 0, none⟩) 1 1] (w.alloc (.cells #[.slice a l.length cap] 54)) fun e w' => ∃ v, e = .returned v ∧ (∃ a c, v = .slice a (srt (nodl l)).length c ∧ (a = none → c = 0) ∧ Ib w.heap.size w' (.slice a (srt (nodl l)).length c) (srt (nodl l)) ∧ Below w.heap.size w w') := by
  have := nodesIn (some ⟨w.heap.size, 0, none⟩) 1 [l] _ (by simp) (by simpa using hl) (rows_one (t := 54) hl hc h)
  refine Calls.mono this ?_
  rintro e w' H
  obtain ⟨a', c', rfl, r⟩ := H
  rw [nodesL_one] at r ⊢
  exact ⟨_, rfl, NodR.chain (lay w _) ⟨a', c', rfl, r⟩⟩
set_option maxRecDepth 100000 in
set_option maxHeartbeats 2000000 in
theorem isOk (a : Option Addr) (cap : Nat) (l : List Int) (w : World) {fr : Bool} {lo : Nat} (hl : l.length ≤ 2097152) (hc : l.length ≤ cap) (h : Rd.Rows fr lo w a l) :
    Calls Try.prog 54 #[.slice a l.length cap] w (IffB (ActP l) w) := by
  have WI := fun w' => Wi.isWithin (l.length : Int) 1 7 (by omega) w'
  have NO1 := Lib.hid (fun (q : inB (l.length : Int) 1 7 = false) => show ¬ ActP l from fun p => by have := inB_iff.2 (show (1 : Int) ≤ (l.length : Int) ∧ (l.length : Int) ≤ 7 by have := p.1; omega); rw [q] at this; cases this)
  have IN := Lib.hid (fun (q : inB (l.length : Int) 1 7 = true) => show 1 ≤ l.length ∧ l.length ≤ 7 by have := inB_iff.1 q; omega)
  have CP := Lib.hid (fun w' (b : Below w.heap.size w w') => conPlace a cap l w' (by omega) (rows_words (h.below b)))
  have NI := Lib.hid (fun (q : l.length ≤ 7) w' (b : Below w.heap.size w w') => nodesOne a cap l w' (by omega) hc (h.below b))
  have NO2 := Lib.hid (fun (q : HasP noPl l) => show ¬ ActP l from fun p => by
    obtain ⟨j, hj, e⟩ := q
    have := p.2.1 _ (show zF l j ∈ l from getD_mem hj)
    unfold noPl at e; rw [this] at e; cases e)
  have IN2 := Lib.hid (fun (q : ¬ HasP noPl l) => show ∀ z, z ∈ l → inB z (-1) 15 = true from fun z hz => by
    obtain ⟨i, hi, rfl⟩ := List.getElem_of_mem hz
    cases e : inB l[i] (-1) 15
    · exact absurd ⟨i, hi, by unfold noPl zF; rw [List.getD_eq_getElem?_getD, List.getElem?_eq_getElem hi]; show (!inB l[i] (-1) 15) = true; rw [e]; rfl⟩ q
    · rfl)
  have RS := Lib.hid (ris_srt (nodl l))
  have SL : (srt (nodl l)).length ≤ l.length := by rw [srt_len]; exact nodl_len l
  have FIN := Lib.hid (fun (p : 1 ≤ l.length ∧ l.length ≤ 7) (q : ∀ z, z ∈ l → inB z (-1) 15 = true) => show ActP l ↔ (nodl l).Nodup from ⟨fun h => h.2.2, fun h => ⟨p, q, h⟩⟩)
  clear h
  generalize hLL : l.length = n at *
  clear hLL
  cases hin : inB (n : Int) 1 7
  · rw [hin] at WI
    have WI := Lib.hid WI
    have G := Lib.hid (NO1.out hin)
    clear hin
    go_enter Try.func54, Try.ntmps54
    go_wp2_with fail
    refine (WI.out _).mono ?_
    rintro e w1 ⟨rfl, rfl⟩
    go_wp2
    go_ret
    exact IffB.no G.out (Below.refl _ _)
  · rw [hin] at WI
    have WI := Lib.hid WI
    have H17 := Lib.hid (IN.out hin)
    clear hin
    go_enter Try.func54, Try.ntmps54
    go_wp2_with fail
    refine (WI.out _).mono ?_
    rintro e w1 ⟨rfl, rfl⟩
    go_wp2_with fail
    refine (CP.out _ (Below.refl _ _)).mono ?_
    rintro e w2 ⟨r, rfl, hr, b2⟩
    have B2 := Lib.hid b2
    cases r
    · have IN3 := Lib.hid (IN2.out (fun q => by have := hr.2 q; cases this))
      clear hr b2
      go_wp2_with fail
      refine (NI.out H17.out.2 _ B2.out).mono ?_
      rintro e w3 ⟨v3, rfl, a3, c3, rfl, hn3, J3, b3⟩
      have B3 := Lib.hid (chainX w B2.out b3)
      have LN : (srt (nodl l)).length ≤ 7 := Nat.le_trans SL H17.out.2
      have IR := Lib.hid (isRising a3 c3 (srt (nodl l)) w3 (by omega) (Gf2.Ib.own (w0 := w2) J3 (Nat.le_refl _)).1.words)
      clear J3 b3 hn3
      generalize (srt (nodl l)).length = m at *
      go_wp2_with fail
      refine IR.out.mono ?_
      rintro e w4 ⟨r, rfl, hr, b4⟩
      have B4 := Lib.hid (chainX w B3.out b4)
      have G := Lib.hid (show IffB (ActP l) w (.returned (.bool r)) w4 from ⟨r, rfl, hr.trans (RS.out.trans (FIN.out H17.out IN3.out).symm), B4.out⟩)
      clear hr b4
      go_wp2
      go_ret
      exact G.out
    · have G := Lib.hid (NO2.out (hr.1 rfl))
      clear hr b2
      go_wp2
      go_ret
      exact IffB.no G.out B2.out
set_option maxRecDepth 100000 in
set_option maxHeartbeats 2000000 in
theorem takenA (a : Option Addr) (cap : Nat) (l : List Int) (w : World) {fr : Bool} {lo : Nat} (hl : l.length ≤ 1000000) (hc : l.length ≤ cap) (h : Rd.Rows fr lo w a l) :
    Calls Try.prog 56 #[.slice a l.length cap] w (RetW (.int .i64 ((nodl l).length : Nat)) w) := by
  have NI := Lib.hid (nodesOne a cap l w hl hc h)
  rw [← srt_len (nodl l)]
  clear h
  generalize l.length = n at *
  generalize (srt (nodl l)).length = m at *
  go_enter Try.func56, Try.ntmps56
  go_wp2_with fail
  refine NI.out.mono ?_
  rintro e w3 ⟨v3, rfl, a3, c3, rfl, -, -, b3⟩
  have B3 := Lib.hid b3
  clear b3
  go_wp2
  go_ret
  exact ⟨rfl, B3.out⟩
set_option maxRecDepth 100000 in
set_option maxHeartbeats 2000000 in
theorem leaderA (a : Option Addr) (cap : Nat) (l : List Int) (w : World) (hl : l.length ≤ 1000000) (hin : ∀ z, z ∈ l → inB z (-1) 15 = true) (h : Words w a l) :
    Calls Try.prog 58 #[.slice a l.length cap] w (RetW (.int .i64 (leadV l)) w) := by
  have I := Lib.hid (idxNode a cap l w (by omega) h)
  have ND := Lib.hid (fun j (hj : j < l.length) => show isNd (zF l j) = true ↔ zF l j ≠ -1 from by
    have := inB_iff.1 (hin _ (show zF l j ∈ l from getD_mem hj))
    unfold isNd
    rw [inB_iff]; omega)
  have FD := Lib.hid (fun k (hk : k < l.length) (q : isNd (zF l k) = true) (r : ∀ j, j < k → isNd (zF l j) = false) => show leadV l = zF l k from leadV_first hk (fun i hi => Classical.byContradiction fun e => by have := (ND.out i (by omega)).2 e; rw [r i hi] at this; cases this) ((ND.out k hk).1 q))
  have FN := Lib.hid (fun (r : ∀ j, j < l.length → isNd (zF l j) = false) => show leadV l = -1 from leadV_none (fun i hi => Classical.byContradiction fun e => by have := (ND.out i hi).2 e; rw [r i hi] at this; cases this))
  have HW := Lib.hid h
  have CELL := Lib.hid (fun w' k (b : Below w.heap.size w w') (hk : k < l.length) => show ∃ b off, a = some ⟨b, off, none⟩ ∧ w'.cell? ⟨b, off + k, none⟩ = some (.int .i64 (zF l k)) from by
    obtain ⟨b', off, rfl, hB, hc⟩ := (HW.out.below b).resolve_left (by intro e; rw [e] at hk; simp at hk)
    exact ⟨b', off, rfl, hc k hk⟩)
  clear h hin HW ND
  generalize hLL : l.length = n at *
  go_enter Try.func58, Try.ntmps58
  go_wp2_with fail
  refine I.out.mono ?_
  rintro e w1 ⟨i, rfl, b1, ⟨k, rfl, hk, hq, hj⟩ | ⟨rfl, N⟩⟩
  · rw [hLL] at hk
    have F := FD.out k hk hq hj
    obtain ⟨b, off, rfl, c0⟩ := CELL.out w1 k b1 hk
    have G := Lib.hid (show RetW (.int .i64 (leadV l)) w (.returned (.int .i64 (zF l k))) w1 from ⟨by rw [F], b1⟩)
    have d : decide ((k : Int) < 0) = false := decide_eq_false (by omega)
    have j0 : (0 : Int) ≤ (k : Int) := by omega
    have j1 : (k : Int) < (n : Int) := by omega
    clear hq hj F b1 hLL FD FN CELL I
    generalize zF l k = x at *
    generalize leadV l = v at *
    go_wp2
    go_ret
    exact G.out
  · rw [hLL] at N
    have G := Lib.hid (show RetW (.int .i64 (leadV l)) w (.returned (.int .i64 (-1))) w1 from ⟨by rw [FN.out N], b1⟩)
    clear N b1 hLL
    generalize leadV l = v at *
    go_wp2
    go_ret
    exact G.out
set_option maxRecDepth 100000 in
set_option maxHeartbeats 2000000 in
theorem placeA (a : Option Addr) (cap : Nat) (l : List Int) (x : Int) (w : World) (hl : l.length ≤ 1000000) (hx : x ≠ -1) (h : Words w a l) :
    Calls Try.prog 60 #[.slice a l.length cap, .int .i64 x] w (RetW (.int .i64 (placeV l x)) w) := by
  have I := Lib.hid (indexA a cap l x w (by omega) h)
  have d : (x == -1) = false := by simpa using hx
  clear h hx
  generalize placeV l x = v at *
  generalize l.length = n at *
  go_enter Try.func60, Try.ntmps60
  go_wp2_with fail
  refine I.out.mono ?_
  rintro e w1 ⟨rfl, b1⟩
  have B1 := Lib.hid b1
  clear b1
  go_wp2
  go_ret
  exact ⟨rfl, B1.out⟩
theorem placeA_hole (a : Option Addr) (n cap : Nat) (w : World) :
    Calls Try.prog 60 #[.slice a n cap, .int .i64 (-1)] w (RetW (.int .i64 (-1)) w) := by
  go_enter Try.func60, Try.ntmps60
  go_wp2
  go_ret
  exact ⟨rfl, Below.refl _ _⟩
end Go.Proofs.Ythimpcfodbmhkaa.Ac
