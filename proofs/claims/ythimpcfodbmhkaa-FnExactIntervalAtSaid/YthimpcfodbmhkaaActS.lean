/-
  Acting sets in the model: whether one is valid, its nodes, the first one, where one stands.
-/
import Derived.Test.YthimpcfodbmhkaaActM
namespace Go.Proofs.Ythimpcfodbmhkaa.Ac
open Go.RowKit Go.Proofs.Ythimpcfodbmhkaa.GfI Go.Proofs.Ythimpcfodbmhkaa.GfS Go.Proofs.Ythimpcfodbmhkaa.MixC
open Go.Proofs.Ythimpcfodbmhkaa.Gf2 (Ib wpList_append_int)
open Go.Proofs.Ythimpcfodbmhkaa.Rd (lay chain chainX RetW below_drewN')
set_option linter.unusedVariables false
set_option linter.unusedSimpArgs false

theorem inB_nn {x : Int} (h : inB x (-1) 15 = true) : (0 ≤ x) ↔ x ≠ -1 := by have := inB_iff.1 h; omega
/-- A Bool that tells whether P; draws alone. -/
def IffQ (P : Prop) (w : World) (e : Ending) (w' : World) : Prop := ∃ b, e = .returned (.bool b) ∧ (b = true ↔ P) ∧ ∃ q, w' = w.drewN q
theorem IffQ.yes {P : Prop} {w w' : World} (h : P) (b : ∃ q, w' = w.drewN q) : IffQ P w (.returned (.bool true)) w' := ⟨true, rfl, by simp [h], b⟩
theorem IffQ.no {P : Prop} {w w' : World} (h : ¬ P) (b : ∃ q, w' = w.drewN q) : IffQ P w (.returned (.bool false)) w' := ⟨false, rfl, by simp [h], b⟩
theorem drw {w wr : World} (h : ∃ q, wr = w.drewN q) (n : Nat) : ∃ q, wr.drewN n = w.drewN q := by obtain ⟨q, rfl⟩ := h; exact ⟨q + n, by rw [World.drewN_drewN]⟩
theorem drw_below {w wr : World} (h : ∃ q, wr = w.drewN q) : Below w.heap.size w wr := by obtain ⟨q, rfl⟩ := h; exact below_drewN' (Below.refl _ _) q
set_option maxRecDepth 100000 in
set_option maxHeartbeats 2000000 in
theorem l12OkQ (a : Option Addr) (cap : Nat) (l : List Int) (w : World) (hl : l.length ≤ 2097152) (hcap : l.length ≤ cap) (h : Words w a l) :
    Calls Try.prog 53 #[.slice a l.length cap] w (IffQ (ActP l) w) := by
  have AP := Lib.hid (fun (h1 : 1 ≤ l.length) (h7 : l.length ≤ 7) => actP_iff h1 h7)
  have NO := Lib.hid (fun (q : ¬ (1 ≤ l.length ∧ l.length ≤ 7)) (p : ActP l) => q p.1)
  obtain ⟨n, hn⟩ : ∃ n, n = l.length := ⟨_, rfl⟩
  have HN := Lib.hid hn
  rw [← hn] at hl hcap ⊢
  by_cases h1 : n < 1
  · have G := Lib.hid (NO.out (by rw [← hn]; omega))
    have d1 : decide ((n : Int) < 1) = true := decide_eq_true (by omega)
    clear hn h AP NO
    go_enter Try.func53, Try.ntmps53
    go_wp2
    go_ret
    exact IffQ.no G.out ⟨0, rfl⟩
  · have d1 : decide ((n : Int) < 1) = false := decide_eq_false (by omega)
    by_cases h7 : 7 < n
    · have G := Lib.hid (NO.out (by rw [← hn]; omega))
      have d2 : decide ((7 : Int) < (n : Int)) = true := decide_eq_true (by omega)
      clear hn h AP NO
      go_enter Try.func53, Try.ntmps53
      go_wp2
      go_ret
      exact IffQ.no G.out ⟨0, rfl⟩
    · have d2 : decide ((7 : Int) < (n : Int)) = false := decide_eq_false (by omega)
      have AP := Lib.hid (show ActP l ↔ ActN l n from by rw [HN.out]; exact AP.out (by omega) (by omega))
      have HW := Lib.hid h
      clear hn h NO
      go_enter Try.func53, Try.ntmps53
      go_wp2
      go_loopw [3] (fun i wr => ∃ k : Nat, k ≤ n ∧ i = .int .i64 k ∧ ActN l k ∧ ∃ q, wr = w.drewN q) (fun i _ => n - (intOf i).toNat)
      case atStart => exact ⟨0, by omega, rfl, ActN.zero l, 0, rfl⟩
      case round =>
        obtain ⟨k, hk, rfl, R, hw⟩ := hrel
        have HR := Lib.hid R
        have BA := Lib.hid hw
        replace hw := drw_below hw
        clear R d1 d2
        by_cases hlt : k < n
        · have hkz : k < l.length := by rw [← HN.out]; exact hlt
          have WT0 := (HW.out.below hw)
          obtain ⟨b, off, rfl, hB, hc⟩ := WT0.resolve_left (by intro e; rw [e] at hkz; simp at hkz)
          have c0 : wr.cell? ⟨b, off + k, none⟩ = some (.int .i64 (zF l k)) := hc k hkz
          have TK : (l.take k).length = k := by rw [List.length_take]; omega
          have WT := Lib.hid (show ∀ v, Below wr.heap.size wr v → Words v (some ⟨b, off, none⟩) (l.take k) from fun v bv => by
            refine .inr ⟨b, off, rfl, Nat.lt_of_lt_of_le hB bv.size, fun i hi => ?_⟩
            have hik : i < k := by omega
            have e := (bv.cell (p := ⟨b, off + i, none⟩) hB).trans (hc i (by omega))
            rw [e, List.getD_eq_getElem?_getD, List.getD_eq_getElem?_getD, List.getElem?_take_of_lt hik])
          have LH := Lib.hid (fun v (K : Words v (some ⟨b, off, none⟩) (l.take k)) => (show Calls Try.prog 85 #[.slice (some ⟨b, off, none⟩) k cap, .int .i64 (zF l k)] v (HasB (zF l k) (l.take k) v) from by have := l00Has (some ⟨b, off, none⟩) cap (l.take k) (zF l k) v (by omega) K; rwa [TK] at this))
          have NOT := Lib.hid (fun (q : ¬ (inB (zF l k) (-1) 15 = true ∧ (0 ≤ zF l k → zF l k ∉ l.take k))) (p : ActP l) => q (AP.out.1 p k hlt))
          have YES := Lib.hid (fun (p : inB (zF l k) (-1) 15 = true) (q : 0 ≤ zF l k → zF l k ∉ l.take k) => HR.out.step p q)
          have IN := fun w' => l00In (zF l k) (-1) 15 w'
          have j0 : (0 : Int) ≤ (k : Int) := by omega
          have j1 : (k : Int) < (n : Int) := by omega
          have j2 : (k : Int) ≤ (cap : Int) := by omega
          clear hc hw WT0 hkz TK
          generalize hz : zF l k = x at *
          clear hz
          cases I1 : inB x (-1) 15
          · have G := Lib.hid (NOT.out (fun q => by rw [I1] at q; cases q.1))
            rw [I1] at IN
            have IN := Lib.hid IN
            clear I1 NOT YES LH
            go_wp2
            go_quiet (((go_at_call 80; first | (with_reducible exact Calls.quiet_of_same ((IN.out _).mono fun _ _ q => ⟨q.1, q.2.symm⟩)))))
            go_wp2
            go_ret
            exact IffQ.no G.out (drw BA.out _)
          · by_cases hx : 0 ≤ x
            · have dx : decide ((0 : Int) ≤ x) = true := decide_eq_true hx
              by_cases hm : x ∈ l.take k
              · have G := Lib.hid (NOT.out (fun q => q.2 hx hm))
                have LH := Lib.hid (fun v (K : Words v (some ⟨b, off, none⟩) (l.take k)) => (show Calls Try.prog 85 #[.slice (some ⟨b, off, none⟩) k cap, .int .i64 x] v (fun e v' => e = .returned (.bool true) ∧ v' = v) from (LH.out v K).mono (fun _ _ q => ⟨by rw [q.1, decide_eq_true hm], q.2.symm⟩)))
                have LW := Lib.hid (fun q => LH.out (wr.drewN q) (WT.out _ (below_drewN' (Below.refl _ _) q)))
                rw [I1] at IN
                have IN := Lib.hid IN
                clear I1 NOT YES hm
                go_wp2
                go_quiet ((first | (go_at_call 80; exact Calls.quiet_of_same ((IN.out _).mono fun _ _ q => ⟨q.1, q.2.symm⟩)) | (go_at_call 85; exact Calls.quiet_of_same (LW.out _))))
                go_wp2
                go_ret
                exact IffQ.no G.out (drw BA.out _)
              · have G := Lib.hid (YES.out I1 (fun _ => hm))
                have LH := Lib.hid (fun v (K : Words v (some ⟨b, off, none⟩) (l.take k)) => (show Calls Try.prog 85 #[.slice (some ⟨b, off, none⟩) k cap, .int .i64 x] v (fun e v' => e = .returned (.bool false) ∧ v' = v) from (LH.out v K).mono (fun _ _ q => ⟨by rw [q.1, decide_eq_false hm], q.2.symm⟩)))
                have LW := Lib.hid (fun q => LH.out (wr.drewN q) (WT.out _ (below_drewN' (Below.refl _ _) q)))
                rw [I1] at IN
                have IN := Lib.hid IN
                clear I1 NOT YES hm
                go_wp2
                go_quiet ((first | (go_at_call 80; exact Calls.quiet_of_same ((IN.out _).mono fun _ _ q => ⟨q.1, q.2.symm⟩)) | (go_at_call 85; exact Calls.quiet_of_same (LW.out _))))
                go_wp2
                go_roundw
                case rel => exact ⟨k + 1, by omega, by go_num, G.out, drw BA.out _⟩
                case measure => simp [intOf]; omega
            · have dx : decide ((0 : Int) ≤ x) = false := decide_eq_false hx
              have G := Lib.hid (YES.out I1 (fun p => absurd p hx))
              rw [I1] at IN
              have IN := Lib.hid IN
              clear I1 NOT YES LH
              go_wp2
              go_quiet (((go_at_call 80; first | (with_reducible exact Calls.quiet_of_same ((IN.out _).mono fun _ _ q => ⟨q.1, q.2.symm⟩)))))
              go_wp2
              go_roundw
              case rel => exact ⟨k + 1, by omega, by go_num, G.out, drw BA.out _⟩
              case measure => simp [intOf]; omega
        · obtain rfl : k = n := by omega
          have G := Lib.hid (AP.out.2 HR.out)
          clear hw
          go_wp2
          go_ret
          exact IffQ.yes G.out BA.out
theorem l12Ok (a : Option Addr) (cap : Nat) (l : List Int) (w : World) (hl : l.length ≤ 2097152) (hcap : l.length ≤ cap) (h : Words w a l) :
    Calls Try.prog 53 #[.slice a l.length cap] w (IffB (ActP l) w) := (l12OkQ a cap l w hl hcap h).mono fun e w' q => by
  obtain ⟨b, e1, hb, d⟩ := q
  exact ⟨b, e1, hb, drw_below d⟩
/-- .. for a region that draws. -/
theorem l12OkD (a : Option Addr) (cap : Nat) (l : List Int) (w : World) (hl : l.length ≤ 2097152) (hcap : l.length ≤ cap) (h : Words w a l) :
    Calls Try.prog 53 #[.slice a l.length cap] w (fun e w' => e = .returned (.bool (decide (ActP l))) ∧ ∃ q, w' = w.drewN q) := (l12OkQ a cap l w hl hcap h).mono fun e w' q => by
  obtain ⟨b, e1, hb, d⟩ := q
  refine ⟨?_, d⟩
  rw [e1]
  by_cases p : ActP l
  · rw [decide_eq_true p, hb.2 p]
  · rw [decide_eq_false p]
    cases b
    · rfl
    · exact absurd (hb.1 rfl) p
set_option maxRecDepth 100000 in
set_option maxHeartbeats 2000000 in
theorem l12Taken (a : Option Addr) (cap : Nat) (l : List Int) (w : World) (hl : l.length ≤ 2097152) (hin : ∀ z, z ∈ l → inB z (-1) 15 = true) (h : Words w a l) :
    Calls Try.prog 55 #[.slice a l.length cap] w (RetW (.int .i64 ((nodl l).length : Nat)) w) := by
  obtain ⟨n, hn⟩ : ∃ n, n = l.length := ⟨_, rfl⟩
  have HN := Lib.hid hn
  have HI := Lib.hid hin
  rw [← hn] at hl ⊢
  clear hn hin
  go_enter Try.func55, Try.ntmps55
  go_wp2
  go_loop [3, 4] (fun c i => ∃ k : Nat, k ≤ n ∧ i = .int .i64 k ∧ c = .int .i64 ((nodl (l.take k)).length : Nat)) (fun _ i => n - (intOf i).toNat)
  case atStart => exact ⟨0, by omega, rfl, by simp [nodl]⟩
  case round =>
    obtain ⟨k, hk, rfl, rfl⟩ := hrel
    have LE : (nodl (l.take k)).length ≤ k := by have := nodl_len (l.take k); rw [List.length_take] at this; omega
    by_cases hlt : k < n
    · have hkz : k < l.length := by rw [← HN.out]; exact hlt
      obtain ⟨b, off, rfl, hB, hc⟩ := h.resolve_left (by intro e; rw [e] at hkz; simp at hkz)
      have c0 : w.cell? ⟨b, off + k, none⟩ = some (.int .i64 (zF l k)) := hc k hkz
      have TS := Lib.hid (show l.take (k + 1) = l.take k ++ [zF l k] from take_snoc l k hkz)
      have NN := inB_nn (HI.out _ (show zF l k ∈ l from getD_mem hkz))
      clear hc h hkz
      by_cases e : zF l k = -1
      · have G := Lib.hid (show (nodl (l.take (k + 1))).length = (nodl (l.take k)).length from by rw [TS.out, e, nodl_snoc_hole])
        have d : decide ((0 : Int) ≤ zF l k) = false := decide_eq_false (fun q => NN.1 q e)
        clear NN TS
        generalize zF l k = x at *
        generalize (nodl (l.take k)).length = c at *
        clear e
        go_wp2
        go_round
        case rel => exact ⟨k + 1, by omega, by go_num, by rw [G.out]⟩
        case measure => simp [intOf]; omega
      · have G := Lib.hid (show (nodl (l.take (k + 1))).length = (nodl (l.take k)).length + 1 from by rw [TS.out, nodl_snoc e]; simp)
        have d : decide ((0 : Int) ≤ zF l k) = true := decide_eq_true (NN.2 e)
        clear NN TS
        generalize zF l k = x at *
        have G2 := Lib.hid G.out
        generalize (nodl (l.take k)).length = c at *
        clear e
        go_wp2
        go_round
        case rel => exact ⟨k + 1, by omega, by go_num, by rw [G2.out]; go_num⟩
        case measure => simp [intOf]; omega
    · obtain rfl : k = n := by omega
      have E : l.take k = l := by rw [HN.out]; exact List.take_length
      rw [E]
      generalize (nodl l).length = c at *
      clear h E
      go_wp2
      go_ret
      exact ⟨rfl, Below.refl _ _⟩
set_option maxRecDepth 100000 in
set_option maxHeartbeats 2000000 in
theorem l12Leader (a : Option Addr) (cap : Nat) (l : List Int) (w : World) (hl : l.length ≤ 2097152) (hin : ∀ z, z ∈ l → inB z (-1) 15 = true) (h : Words w a l) :
    Calls Try.prog 57 #[.slice a l.length cap] w (RetW (.int .i64 (leadV l)) w) := by
  obtain ⟨n, hn⟩ : ∃ n, n = l.length := ⟨_, rfl⟩
  have HN := Lib.hid hn
  have HI := Lib.hid hin
  rw [← hn] at hl ⊢
  clear hn hin
  go_enter Try.func57, Try.ntmps57
  go_wp2
  go_loop [3] (fun i => ∃ k : Nat, k ≤ n ∧ i = .int .i64 k ∧ ∀ i, i < k → zF l i = -1) (fun i => n - (intOf i).toNat)
  case atStart => exact ⟨0, by omega, rfl, fun i hi => absurd hi (Nat.not_lt_zero _)⟩
  case round =>
    obtain ⟨k, hk, rfl, R⟩ := hrel
    have HR := Lib.hid R
    clear R
    by_cases hlt : k < n
    · have hkz : k < l.length := by rw [← HN.out]; exact hlt
      obtain ⟨b, off, rfl, hB, hc⟩ := h.resolve_left (by intro e; rw [e] at hkz; simp at hkz)
      have c0 : w.cell? ⟨b, off + k, none⟩ = some (.int .i64 (zF l k)) := hc k hkz
      have NN := inB_nn (HI.out _ (show zF l k ∈ l from getD_mem hkz))
      by_cases e : zF l k = -1
      · have G := Lib.hid (show ∀ i, i < k + 1 → zF l i = -1 from fun i hi => if q : i = k then by rw [q]; exact e else HR.out i (by omega))
        have d : decide ((0 : Int) ≤ zF l k) = false := decide_eq_false (fun q => NN.1 q e)
        clear NN hc h hkz e
        generalize zF l k = x at *
        go_wp2
        go_round
        case rel => exact ⟨k + 1, by omega, by go_num, G.out⟩
        case measure => simp [intOf]; omega
      · have G := Lib.hid (show RetW (.int .i64 (leadV l)) w (.returned (.int .i64 (zF l k))) w from ⟨by rw [leadV_first hkz HR.out e], Below.refl _ _⟩)
        have d : decide ((0 : Int) ≤ zF l k) = true := decide_eq_true (NN.2 e)
        clear NN hc h hkz e
        generalize leadV l = v at *
        generalize zF l k = x at *
        go_wp2
        go_ret
        exact G.out
    · obtain rfl : k = n := by omega
      have G := Lib.hid (show RetW (.int .i64 (leadV l)) w (.returned (.int .i64 (-1))) w from ⟨by rw [leadV_none (l := l) (fun i hi => HR.out i (by rw [HN.out]; exact hi))], Below.refl _ _⟩)
      clear h
      generalize leadV l = v at *
      go_wp2
      go_ret
      exact G.out
def RetE (v : Value) (w : World) (e : Ending) (w' : World) : Prop := e = .returned v ∧ w' = w
theorem RetE.w {v : Value} {w : World} {e : Ending} {w' : World} (h : RetE v w e w') : RetW v w e w' := by obtain ⟨h1, rfl⟩ := h; exact ⟨h1, Below.refl _ _⟩
set_option maxRecDepth 100000 in
set_option maxHeartbeats 2000000 in
theorem l12PlaceE (a : Option Addr) (cap : Nat) (l : List Int) (x : Int) (w : World) (hl : l.length ≤ 2097152) (hx : 0 ≤ x) (h : Words w a l) :
    Calls Try.prog 59 #[.slice a l.length cap, .int .i64 x] w (RetE (.int .i64 (placeV l x)) w) := by
  obtain ⟨n, hn⟩ : ∃ n, n = l.length := ⟨_, rfl⟩
  have HN := Lib.hid hn
  have dx : decide ((0 : Int) ≤ x) = true := decide_eq_true hx
  rw [← hn] at hl ⊢
  clear hn
  go_enter Try.func59, Try.ntmps59
  go_wp2
  go_loop [5] (fun i => ∃ k : Nat, k ≤ n ∧ i = .int .i64 k ∧ x ∉ l.take k) (fun i => n - (intOf i).toNat)
  case atStart => exact ⟨0, by omega, rfl, by simp⟩
  case round =>
    obtain ⟨k, hk, rfl, R⟩ := hrel
    have HR := Lib.hid R
    clear R
    by_cases hlt : k < n
    · have hkz : k < l.length := by rw [← HN.out]; exact hlt
      obtain ⟨b, off, rfl, hB, hc⟩ := h.resolve_left (by intro e; rw [e] at hkz; simp at hkz)
      have c0 : w.cell? ⟨b, off + k, none⟩ = some (.int .i64 (zF l k)) := hc k hkz
      by_cases e : zF l k = x
      · have G := Lib.hid (show RetE (.int .i64 (placeV l x)) w (.returned (.int .i64 (k : Int))) w from ⟨by rw [placeV_first hkz HR.out e], rfl⟩)
        rw [e] at c0
        clear hc h hkz e
        generalize placeV l x = v at *
        go_wp2
        go_ret
        exact G.out
      · have G := Lib.hid (mem_take_succ hkz HR.out e)
        have d : (zF l k == x) = false := by simpa using e
        clear hc h hkz e
        generalize zF l k = y at *
        go_wp2
        go_round
        case rel => exact ⟨k + 1, by omega, by go_num, G.out⟩
        case measure => simp [intOf]; omega
    · obtain rfl : k = n := by omega
      have G := Lib.hid (show RetE (.int .i64 (placeV l x)) w (.returned (.int .i64 (-1))) w from ⟨by rw [placeV_none (l := l) (x := x) (by have := HR.out; rwa [HN.out, List.take_length] at this)], rfl⟩)
      clear h
      generalize placeV l x = v at *
      go_wp2
      go_ret
      exact G.out
/-- Of a node below 0: none. -/
theorem l12PlaceNegE (a : Option Addr) (cap : Nat) (l : List Int) (x : Int) (w : World) (hl : l.length ≤ 2097152) (hx : x < 0) :
    Calls Try.prog 59 #[.slice a l.length cap, .int .i64 x] w (RetE (.int .i64 (-1)) w) := by
  obtain ⟨n, hn⟩ : ∃ n, n = l.length := ⟨_, rfl⟩
  have dx : decide ((0 : Int) ≤ x) = false := decide_eq_false (by omega)
  rw [← hn] at hl ⊢
  clear hn
  go_enter Try.func59, Try.ntmps59
  go_wp2
  go_loop [5] (fun i => ∃ k : Nat, k ≤ n ∧ i = .int .i64 k) (fun i => n - (intOf i).toNat)
  case atStart => exact ⟨0, by omega, rfl⟩
  case round =>
    obtain ⟨k, hk, rfl⟩ := hrel
    by_cases hlt : k < n
    · go_wp2
      go_round
      case rel => exact ⟨k + 1, by omega, by go_num⟩
      case measure => simp [intOf]; omega
    · obtain rfl : k = n := by omega
      go_wp2
      go_ret
      exact ⟨rfl, rfl⟩
theorem l12Place (a : Option Addr) (cap : Nat) (l : List Int) (x : Int) (w : World) (hl : l.length ≤ 2097152) (hx : 0 ≤ x) (h : Words w a l) :
    Calls Try.prog 59 #[.slice a l.length cap, .int .i64 x] w (RetW (.int .i64 (placeV l x)) w) := (l12PlaceE a cap l x w hl hx h).mono fun _ _ q => q.w
theorem l12PlaceNeg (a : Option Addr) (cap : Nat) (l : List Int) (x : Int) (w : World) (hl : l.length ≤ 2097152) (hx : x < 0) :
    Calls Try.prog 59 #[.slice a l.length cap, .int .i64 x] w (RetW (.int .i64 (-1)) w) := (l12PlaceNegE a cap l x w hl hx).mono fun _ _ q => q.w
set_option maxRecDepth 100000 in
set_option maxHeartbeats 2000000 in
theorem l12Members (a : Option Addr) (cap : Nat) (l : List Int) (w : World) (hl : l.length ≤ 90000) (hin : ∀ z, z ∈ l → inB z (-1) 15 = true) (h : Words w a l) :
    Calls Try.prog 61 #[.slice a l.length cap] w (ListR (putAll [] (nodl l)) w) := by
  obtain ⟨n, hn⟩ : ∃ n, n = l.length := ⟨_, rfl⟩
  have HN := Lib.hid hn
  have HI := Lib.hid hin
  have HW := Lib.hid h
  have LH := Lib.hid (lay w (.cells #[] 2))
  have S0 := Lib.hid (show ∃ a c, (Value.slice (some ⟨w.heap.size, 0, none⟩) 0 0) = .slice a (putAll [] (nodl (l.take 0))).length c ∧ Words (w.alloc (.cells #[] 2)) a (putAll [] (nodl (l.take 0))) from ⟨_, _, rfl, .inl rfl⟩)
  rw [← hn] at hl ⊢
  clear hn hin h
  go_enter Try.func61, Try.ntmps61
  go_wp2
  go_loopw [3, 4] (fun v i wr => ∃ k : Nat, k ≤ n ∧ i = .int .i64 k ∧ (∃ a c, v = .slice a (putAll [] (nodl (l.take k))).length c ∧ Words wr a (putAll [] (nodl (l.take k)))) ∧ Below w.heap.size w wr) (fun _ i _ => n - (intOf i).toNat)
  case atStart => exact ⟨0, by omega, rfl, S0.out, LH.out⟩
  case round =>
    clear S0 LH
    obtain ⟨k, hk, rfl, ⟨a2, c2, rfl, W2⟩, hw⟩ := hrel
    have WH := Lib.hid hw
    have W2H := Lib.hid W2
    have LE : (putAll [] (nodl (l.take k))).length ≤ k := by
      have h1 := putAll_len (nodl (l.take k)) []; have h2 := nodl_len (l.take k); rw [List.length_take] at h2; simp at h1; omega
    by_cases hlt : k < n
    · have hkz : k < l.length := by rw [← HN.out]; exact hlt
      obtain ⟨b, off, rfl, hB, hc⟩ := (HW.out.below hw).resolve_left (by intro e; rw [e] at hkz; simp at hkz)
      have c0 : wr.cell? ⟨b, off + k, none⟩ = some (.int .i64 (zF l k)) := hc k hkz
      have TS := Lib.hid (show l.take (k + 1) = l.take k ++ [zF l k] from take_snoc l k hkz)
      have NN := inB_nn (HI.out _ (show zF l k ∈ l from getD_mem hkz))
      clear hc hkz W2
      by_cases e : zF l k = -1
      · have G := Lib.hid (show nodl (l.take (k + 1)) = nodl (l.take k) from by rw [TS.out, e, nodl_snoc_hole])
        have d : decide ((0 : Int) ≤ zF l k) = false := decide_eq_false (fun q => NN.1 q e)
        have S1 := Lib.hid (show ∃ a c, (Value.slice a2 (putAll [] (nodl (l.take k))).length c2) = .slice a (putAll [] (nodl (l.take (k + 1)))).length c ∧ Words wr a (putAll [] (nodl (l.take (k + 1)))) from ⟨a2, c2, by rw [G.out], by rw [G.out]; exact W2H.out⟩)
        clear NN TS hw G e
        generalize zF l k = x at *
        generalize (putAll [] (nodl (l.take k))).length = m at *
        go_wp2
        go_roundw
        case rel => exact ⟨k + 1, by omega, by go_num, S1.out, WH.out⟩
        case measure => simp [intOf]; omega
      · have G := Lib.hid (show putAll [] (nodl (l.take (k + 1))) = put (zF l k) (putAll [] (nodl (l.take k))) from by rw [TS.out, nodl_snoc e, putAll_snoc])
        have d : decide ((0 : Int) ≤ zF l k) = true := decide_eq_true (NN.2 e)
        have PT := Lib.hid (l00Put a2 c2 (putAll [] (nodl (l.take k))) (zF l k) wr (by omega) W2H.out)
        clear NN TS hw e
        generalize hp : putAll [] (nodl (l.take k)) = ps at *
        clear hp
        generalize zF l k = x at *
        go_wp2_with fail
        refine PT.out.mono ?_
        rintro e w3 ⟨a3, c3, rfl, W3, b3⟩
        have B3 := Lib.hid (chain WH.out b3)
        have S1 := Lib.hid (show ∃ a c, (Value.slice a3 (put x ps).length c3) = .slice a (putAll [] (nodl (l.take (k + 1)))).length c ∧ Words w3 a (putAll [] (nodl (l.take (k + 1)))) from ⟨a3, c3, by rw [G.out], by rw [G.out]; exact W3⟩)
        clear W3 b3 G PT
        go_wp2
        go_roundw
        case rel => exact ⟨k + 1, by omega, by go_num, S1.out, B3.out⟩
        case measure => simp [intOf]; omega
    · obtain rfl : k = n := by omega
      have E : l.take k = l := by rw [HN.out]; exact List.take_length
      rw [E] at W2H ⊢
      clear hw W2 E
      generalize putAll [] (nodl l) = ps at *
      go_wp2
      go_ret
      exact ⟨a2, c2, rfl, W2H.out, WH.out⟩
end Go.Proofs.Ythimpcfodbmhkaa.Ac
