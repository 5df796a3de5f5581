/-
  Whether a string is a name: the program's answer (strings.TrimFunc by a name's runes) and the model's (byte by byte).
-/
import Derived.Test.YtbckdfoapmjilaaGreatDoorNam
import Derived.Test.YtbckdfoapmjilaaGreatDoorShelfT
import Derived.Test.YtbckdfoapmjilaaGreatDoorWithin
import Derived.Test.YtbckdfoapmjilaaGreatDoorRdI
namespace Go.Proofs.YtbckdfoapmjilaaGreatDoor.Nam
open Go.RowKit Go.Lib Go.Proofs.YtbckdfoapmjilaaGreatDoor.GfI Go.Proofs.YtbckdfoapmjilaaGreatDoor.GfS Go.Proofs.YtbckdfoapmjilaaGreatDoor.Rd
set_option linter.unusedVariables false
set_option linter.unusedSimpArgs false

/-- utf8's two tables lie as the library lays them. -/
abbrev Tabs (w : World) : Prop := Lib.Utf8Tabs 0 1 w
def nameB (s : ByteArray) : Bool := inB s.size 1 8 && decide ((trimF isN s).size = 0)
theorem isEmpty_sz (s : ByteArray) : s.toList.isEmpty = decide (s.size = 0) := by
  rw [Lib.toList_data, Lib.size_eq]
  cases s.data.toList <;> simp
theorem isNameRune (w : World) : PredAt Tryz.prog 129 #[] encR isN w := fun W r _ => by
  unfold FnGives isN
  by_cases h1 : 97 ≤ r <;> by_cases h2 : r ≤ 122 <;> by_cases h3 : 48 ≤ r <;> by_cases h4 : r ≤ 57
  all_goals
    first
    | (exfalso; omega)
    | (have z1 : (97 : Int) ≤ (r : Int) ↔ 97 ≤ r := by omega
       have z2 : (r : Int) ≤ 122 ↔ r ≤ 122 := by omega
       have z3 : (48 : Int) ≤ (r : Int) ↔ 48 ≤ r := by omega
       have z4 : (r : Int) ≤ 57 ↔ r ≤ 57 := by omega
       go_enter Tryz.func129, Tryz.ntmps129
       go_wp2
       go_ret
       exact ⟨by simp [h1, h2, h3, h4], 0, rfl⟩)
set_option maxHeartbeats 1000000 in
theorem implNameOk (s : ByteArray) (hs : s.size ≤ 9223372036854775807) (w : World) (hT : Tabs w) :
    Calls Tryz.prog 111 #[.string s] w fun e w' => e = .returned (.bool (nameB s)) ∧ Below w.heap.size w w' := by
  have hC := Lib.hid (Go.Proofs.YtbckdfoapmjilaaGreatDoor.ShT.strings_TrimFunc 129 #[] (enters_of Tryz.func129 (by kernel_rfl) rfl) _ s w hs hT (isNameRune w))
  have hI := Lib.hid (Wi.isWithin (s.size : Int) 1 8 (by omega) w)
  have hE := Lib.hid (isEmpty_sz (trimF isN s))
  obtain ⟨v, hv⟩ : ∃ v, nameB s = v := ⟨_, rfl⟩
  rw [hv]
  unfold nameB at hv
  cases hb : inB (s.size : Int) 1 8
  · rw [hb] at hI hv
    rw [Bool.false_and] at hv
    subst hv
    clear hC hE
    go_enter Tryz.func111, Tryz.ntmps111
    go_wp2_with (go_at_call 43; refine hI.out.mono ?_; rintro e w' ⟨rfl, rfl⟩)
    go_ret
    exact ⟨rfl, Below.refl _ _⟩
  · rw [hb] at hI hv
    rw [Bool.true_and, ← hE.out] at hv
    generalize trimF isN s = t at *
    clear hE
    go_enter Tryz.func111, Tryz.ntmps111
    go_wp2_with (first | (go_at_call 43; refine hI.out.mono ?_; rintro e w' ⟨rfl, rfl⟩) | (go_at_call 128; refine hC.out.mono ?_; rintro e w2 ⟨rfl, b2⟩; have B2 := Lib.hid b2; clear b2))
    go_ret
    exact ⟨rfl, B2.out⟩
/-- The model's way: byte by byte. -/
theorem specName (s : ByteArray) (w : World) :
    Calls Tryz.prog 108 #[.string s] w fun e w' => e = .returned (.bool (nameB s)) ∧ w = w' := by
  have hE := Lib.hid (trim_none s)
  obtain ⟨v, hv⟩ : ∃ v, nameB s = v := ⟨_, rfl⟩
  rw [hv]
  unfold nameB at hv
  by_cases h1 : s.size < 1
  · rw [show inB (s.size : Int) 1 8 = false from decide_eq_false (by omega), Bool.false_and] at hv
    subst hv
    go_enter Tryz.func108, Tryz.ntmps108
    go_wp2
    go_ret
    exact ⟨rfl, rfl⟩
  · by_cases h8 : 8 < s.size
    · rw [show inB (s.size : Int) 1 8 = false from decide_eq_false (by omega), Bool.false_and] at hv
      subst hv
      go_enter Tryz.func108, Tryz.ntmps108
      go_wp2
      go_ret
      exact ⟨rfl, rfl⟩
    · rw [inB_yes (by omega) (by omega), Bool.true_and] at hv
      have HY := Lib.hid (show (∀ i, i < s.size → isN (byt s i) = true) → v = true from fun h => by rw [← hv]; exact decide_eq_true (hE.out.2 h))
      have HN := Lib.hid (show ∀ i, i < s.size → isN (byt s i) = false → v = false from fun i hi h => by
        rw [← hv]; exact decide_eq_false fun q => by have := hE.out.1 q i hi; rw [h] at this; cases this)
      clear hE hv
      go_enter Tryz.func108, Tryz.ntmps108
      go_wp2
      go_loopw [3] (fun i wr => ∃ k : Nat, k ≤ s.size ∧ i = .int .i64 k ∧ wr = w ∧ ∀ j, j < k → isN (byt s j) = true) (fun i _ => s.size - (intOf i).toNat)
      case atStart => exact ⟨0, by omega, rfl, rfl, fun j hj => absurd hj (Nat.not_lt_zero _)⟩
      case round =>
        obtain ⟨k, hk, rfl, rfl, HP⟩ := hrel
        have HP := Lib.hid HP
        by_cases hlt : k < s.size
        · obtain ⟨c, hc⟩ : ∃ c : Nat, byt s k = c := ⟨_, rfl⟩
          have hix : ∀ W, (Instr.index 9 (.string s) (.int .i64 (k : Int))).run Tryz.prog W = .ok (.int .u8 (c : Int)) W := fun W => by
            rw [run_index_string _ _ _ _ _ Tryz.underlying9, dif_pos ⟨by omega, by omega⟩, ← hc]
            congr 3
            unfold byt
            rw [List.getD_eq_getElem?_getD, List.getElem?_eq_getElem (by rw [← Lib.size_eq]; exact hlt)]
            rfl
          have HC := Lib.hid hc
          clear hc
          by_cases E : isN c = true
          · have RL := Lib.hid (show ∀ j, j < k + 1 → isN (byt s j) = true from fun j hj => if e : j = k then by rw [e, HC.out]; exact E else HP.out j (by omega))
            have Q : (97 ≤ c ∧ c ≤ 122) ∨ (c < 97 ∧ 48 ≤ c ∧ c ≤ 57) := by unfold isN at E; simp at E; omega
            clear E
            rcases Q with ⟨q1, q2⟩ | ⟨q1, q2, q3⟩
            all_goals
              go_wp2
              go_roundw
              case rel => exact ⟨k + 1, by omega, by go_num, by trivial, RL.out⟩
              case measure => simp [intOf]; omega
          · have F := Lib.hid (HN.out k hlt (by rw [HC.out]; simpa using E))
            have Q : (122 < c) ∨ (c < 97 ∧ 57 < c) ∨ (c < 97 ∧ c < 48) := by unfold isN at E; simp at E; omega
            clear E
            rcases Q with q1 | ⟨q1, q2⟩ | ⟨q1, q2⟩
            all_goals
              go_wp2
              go_ret
              exact ⟨by rw [F.out]; rfl, rfl⟩
        · obtain rfl : k = s.size := by omega
          have F := Lib.hid (HY.out HP.out)
          go_wp2
          go_ret
          exact ⟨by rw [F.out]; rfl, rfl⟩
theorem specNameOk (s : ByteArray) (w : World) :
    Calls Tryz.prog 66 #[.string s] w fun e w' => e = .returned (.bool (nameB s)) ∧ w = w' := by
  have H := Lib.hid (specName s)
  generalize nameB s = v at *
  go_enter Tryz.func66, Tryz.ntmps66
  go_wp2_with (go_at_call 108; refine (H.out _).mono ?_; rintro e w' ⟨rfl, rfl⟩)
  go_ret
  exact ⟨rfl, rfl⟩
end Go.Proofs.YtbckdfoapmjilaaGreatDoor.Nam
