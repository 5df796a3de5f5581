/-
  A number into a rising list: the model's function.
-/
import Derived.Test.YtgfpngjfhmiphaaTwt2
namespace Go.Proofs.Ytgfpngjfhmiphaa.Tm
open Go.RowKit Go.Proofs.Ytgfpngjfhmiphaa.GfI Go.Proofs.Ytgfpngjfhmiphaa.GfS Go.Proofs.Ytgfpngjfhmiphaa.MixC
open Go.Proofs.Ytgfpngjfhmiphaa.Gf2 (Ib wpList_append_int)
open Go.Proofs.Ytgfpngjfhmiphaa.It (lay chain)
set_option linter.unusedVariables false
set_option linter.unusedSimpArgs false

theorem put_lt {n : Int} {s : List Int} : ∀ {t : List Int}, (∀ z, z ∈ t → z < n) → put n (t ++ s) = t ++ put n s
  | [], _ => rfl
  | a :: t, h => by
    have h1 := h a List.mem_cons_self
    show put n (a :: (t ++ s)) = a :: (t ++ put n s)
    conv => lhs; unfold put
    rw [if_neg (by omega), put_lt (fun z hz => h z (List.mem_cons_of_mem _ hz))]
theorem put_ge {n : Int} {s : List Int} : ∀ {t : List Int}, (∃ z, z ∈ t ∧ n ≤ z) → put n (t ++ s) = put n t ++ s
  | [], h => by obtain ⟨z, hz, _⟩ := h; cases hz
  | a :: t, h => by
    show put n (a :: (t ++ s)) = put n (a :: t) ++ s
    unfold put
    by_cases h1 : n ≤ a
    · rw [if_pos h1, if_pos h1]; split <;> rfl
    · rw [if_neg h1, if_neg h1, put_ge (t := t) (by
        obtain ⟨z, hz, hn⟩ := h
        rcases List.mem_cons.1 hz with rfl | hz
        · exact absurd hn h1
        · exact ⟨z, hz, hn⟩)]; rfl
/-- What is built when the numbers t have been met. -/
structure PutI (n : Int) (t : List Int) (d : Bool) (zs : List Int) : Prop where
  no : d = false → zs = t ∧ ∀ z, z ∈ t → z < n
  yes : d = true → zs = put n t ∧ ∃ z, z ∈ t ∧ n ≤ z
theorem PutI.lt {n : Int} {t zs : List Int} {y : Int} (h : PutI n t false zs) (hy : y < n) : PutI n (t ++ [y]) false (zs ++ [y]) := by
  obtain ⟨e, k⟩ := h.no rfl
  exact ⟨fun _ => ⟨by rw [e], fun z hz => by
    rcases List.mem_append.1 hz with hz | hz
    · exact k z hz
    · have : z = y := by simpa using hz
      omega⟩, fun q => by cases q⟩
theorem PutI.gt {n : Int} {t zs : List Int} {y : Int} (h : PutI n t false zs) (hy : n < y) : PutI n (t ++ [y]) true (zs ++ [n] ++ [y]) := by
  obtain ⟨e, k⟩ := h.no rfl
  refine ⟨(fun q => by cases q), fun _ => ⟨?_, y, by simp, by omega⟩⟩
  rw [put_lt k, e]; unfold put; rw [if_pos (by omega), if_pos hy]; simp
theorem PutI.eq {n : Int} {t zs : List Int} {y : Int} (h : PutI n t false zs) (hy : y = n) : PutI n (t ++ [y]) true (zs ++ [y]) := by
  obtain ⟨e, k⟩ := h.no rfl
  refine ⟨(fun q => by cases q), fun _ => ⟨?_, y, by simp, by omega⟩⟩
  rw [put_lt k, e]; unfold put; rw [if_pos (by omega), if_neg (by omega)]
theorem PutI.more {n : Int} {t zs : List Int} {y : Int} (h : PutI n t true zs) : PutI n (t ++ [y]) true (zs ++ [y]) := by
  obtain ⟨e, z, hz, k⟩ := h.yes rfl
  refine ⟨(fun q => by cases q), fun _ => ⟨?_, z, by simp [hz], k⟩⟩
  rw [put_ge ⟨z, hz, k⟩, e]
theorem PutI.last {n : Int} {t zs : List Int} (h : PutI n t false zs) : zs ++ [n] = put n t := by
  obtain ⟨e, k⟩ := h.no rfl
  have := put_lt (s := []) k
  rw [List.append_nil] at this
  rw [this, e]; rfl
theorem PutI.len {n : Int} {t zs : List Int} {d : Bool} (h : PutI n t d zs) : zs.length ≤ t.length + 1 := by
  cases d
  · rw [(h.no rfl).1]; omega
  · rw [(h.yes rfl).1]; exact put_len n t
/-- A list handed back. -/
def ListR (zs : List Int) (w : World) (e : Ending) (w' : World) : Prop := ∃ a cap, e = .returned (.slice a zs.length cap) ∧ Words w' a zs ∧ Below w.heap.size w w'
theorem ListR.of {w0 w : World} {v : Value} {zs : List Int} (h : Ib w0.heap.size w v zs) (b : Below w0.heap.size w0 w) : ListR zs w0 (.returned v) w := by
  obtain ⟨a, L, cap, rfl⟩ := h.shape
  obtain ⟨O, rfl⟩ := Gf2.Ib.own (w0 := w0) h (Nat.le_refl _)
  exact ⟨a, cap, rfl, O.words, b⟩

set_option maxRecDepth 100000 in
set_option maxHeartbeats 2000000 in
theorem l00Put (a : Option Addr) (cap : Nat) (l : List Int) (n : Int) (w : World) (hl : l.length ≤ 100000) (h : Words w a l) :
    Calls Try.prog 95 #[.slice a l.length cap, .int .i64 n] w (ListR (put n l) w) := by
  obtain ⟨m, hm⟩ := (⟨_, rfl⟩ : ∃ m, m = l.length)
  have HM := Lib.hid hm
  have HW := Lib.hid h
  have LH := Lib.hid (lay w (.cells #[] 2))
  have J0 := Lib.hid (show Ib w.heap.size (w.alloc (.cells #[] 2)) (.slice (some ⟨w.heap.size, 0, none⟩) 0 0) [] from World.ownsRow_made _ #[] 0 (Nat.le_refl _) (by unfold maxLen; omega) (by simp))
  rw [← hm] at hl ⊢
  clear hm h
  go_enter Try.func95, Try.ntmps95
  go_wp2
  go_loopw [5, 6, 7] (fun v d i wr => ∃ (k : Nat) (b : Bool) (zs : List Int), k ≤ m ∧ i = .int .i64 k ∧ d = .bool b ∧ PutI n (l.take k) b zs ∧ Ib w.heap.size wr v zs ∧ Below w.heap.size w wr) (fun _ _ i _ => m - (intOf i).toNat)
  case atStart => exact ⟨0, false, [], by omega, rfl, rfl, ⟨fun _ => ⟨rfl, fun z hz => by cases hz⟩, fun q => by cases q⟩, J0.out, LH.out⟩
  case round =>
    clear J0 LH
    obtain ⟨k, b, zs, hk, rfl, rfl, P, J, hw⟩ := hrel
    have PH := Lib.hid P
    have WH := Lib.hid hw
    have zl : zs.length ≤ 100001 := by have := P.len; rw [List.length_take] at this; omega
    have LE := hw.size
    clear P
    by_cases hlt : k < m
    · have hkl : k < l.length := by rw [← HM.out]; exact hlt
      obtain ⟨bb, off, rfl, hB, nums⟩ := HW.out.resolve_left (by intro e; rw [e] at hkl; simp at hkl)
      have d0 := nums k hkl
      have TS := Lib.hid (take_snoc l k hkl)
      generalize l.getD k 0 = y at *
      have CELL := Lib.hid (fun w' (b : Below w.heap.size w w') => (b.cell (p := ⟨bb, off + k, none⟩) hB).trans d0)
      have d := CELL.out _ hw
      clear nums hw d0
      have JH := Lib.hid J
      cases b
      · by_cases h1 : y < n
        · have G := Lib.hid (PH.out.lt h1)
          clear J
          go_wp2_with (at_builtin; refine wpList_append_int rfl (.tmp 35) (.tmp 40) rfl w.heap.size _ zs rfl y JH.out rfl (by omega) (by omega) ?_; intro v' w3 J3 g3)
          have B3 := Lib.hid (WH.out.trans (Below.mono (JH.out.grown (by omega) _ g3) (Nat.le_refl _)))
          have J3H := Lib.hid J3
          clear J3 g3
          go_roundw
          case rel => exact ⟨k + 1, false, _, by omega, by go_num, rfl, by rw [TS.out]; exact G.out, J3H.out, B3.out⟩
          case measure => simp [intOf]; omega
        · by_cases h2 : n < y
          · have G := Lib.hid (PH.out.gt h2)
            clear J
            go_wp2_with (first
              | (at_builtin; refine wpList_append_int rfl (.tmp 31) (.tmp 33) rfl w.heap.size _ zs rfl n JH.out rfl (by omega) (by omega) ?_; intro v' w3 J3 g3; have B3 := Lib.hid (WH.out.trans (Below.mono (JH.out.grown (by omega) _ g3) (Nat.le_refl _))); have d3 := CELL.out w3 B3.out; have sz3 := B3.out.size; have J3H := Lib.hid J3; clear J3 g3)
              | (at_builtin; refine wpList_append_int rfl (.tmp 35) (.tmp 40) rfl w.heap.size _ (zs ++ [n]) rfl y J3H.out rfl (by simp; omega) (by omega) ?_; intro v'' w4 J4 g4))
            have B4 := Lib.hid (B3.out.trans (Below.mono (J3H.out.grown (by omega) _ g4) (Nat.le_refl _)))
            have J4H := Lib.hid J4
            clear J4 g4
            go_roundw
            case rel => exact ⟨k + 1, true, _, by omega, by go_num, rfl, by rw [TS.out]; exact G.out, J4H.out, B4.out⟩
            case measure => simp [intOf]; omega
          · have G := Lib.hid (PH.out.eq (y := y) (by omega))
            obtain rfl : y = n := by omega
            clear J h1 h2
            go_wp2_with (at_builtin; refine wpList_append_int rfl (.tmp 35) (.tmp 40) rfl w.heap.size _ zs rfl y JH.out rfl (by omega) (by omega) ?_; intro v' w3 J3 g3)
            have B3 := Lib.hid (WH.out.trans (Below.mono (JH.out.grown (by omega) _ g3) (Nat.le_refl _)))
            have J3H := Lib.hid J3
            clear J3 g3
            go_roundw
            case rel => exact ⟨k + 1, true, _, by omega, by go_num, rfl, by rw [TS.out]; exact G.out, J3H.out, B3.out⟩
            case measure => simp [intOf]; omega
      · have G := Lib.hid (PH.out.more (y := y))
        clear J
        go_wp2_with (at_builtin; refine wpList_append_int rfl (.tmp 35) (.tmp 40) rfl w.heap.size _ zs rfl y JH.out rfl (by omega) (by omega) ?_; intro v' w3 J3 g3)
        have B3 := Lib.hid (WH.out.trans (Below.mono (JH.out.grown (by omega) _ g3) (Nat.le_refl _)))
        have J3H := Lib.hid J3
        clear J3 g3
        go_roundw
        case rel => exact ⟨k + 1, true, _, by omega, by go_num, rfl, by rw [TS.out]; exact G.out, J3H.out, B3.out⟩
        case measure => simp [intOf]; omega
    · obtain rfl : k = m := by omega
      have E : l.take k = l := by rw [HM.out]; exact List.take_length
      rw [E] at PH
      have JH := Lib.hid J
      clear J hw E
      cases b
      · have G := Lib.hid (PH.out.last)
        go_wp2_with (at_builtin; refine wpList_append_int rfl (.tmp 44) (.tmp 46) rfl w.heap.size _ zs rfl n JH.out rfl (by omega) (by omega) ?_; intro v' w3 J3 g3)
        have B3 := Lib.hid (WH.out.trans (Below.mono (JH.out.grown (by omega) _ g3) (Nat.le_refl _)))
        have J3H := Lib.hid (show Ib w.heap.size w3 v' (put n l) from by rw [← G.out]; exact J3)
        clear J3 g3
        go_ret
        exact ListR.of J3H.out B3.out
      · have G := (PH.out.yes rfl).1
        subst G
        go_wp2
        go_ret
        exact ListR.of JH.out WH.out
end Go.Proofs.Ytgfpngjfhmiphaa.Tm
