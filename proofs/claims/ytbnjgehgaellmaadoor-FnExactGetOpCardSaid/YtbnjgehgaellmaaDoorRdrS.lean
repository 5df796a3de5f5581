/-
  Readers of numbers and texts: the program's and the model's, case by case (written by tools/gen/rdr.py).
-/
import Derived.Test.YtbnjgehgaellmaaDoorLawGetText
import Derived.Test.YtbnjgehgaellmaaDoorRdI
import Derived.BigQuiet
namespace Go.Proofs.YtbnjgehgaellmaaDoor.Rd
open Go.RowKit Go.ChangeShapes Go.WideShapes Go.Proofs.YtbnjgehgaellmaaDoor.Gt
open Go.Proofs.YtbnjgehgaellmaaDoor.Sg (BxN)
set_option linter.unusedVariables false
set_option linter.unusedSimpArgs false

def rdN (s : ByteArray) (p : Nat) : Option (Int × Nat) := get (s.extract p s.size) 0
/-- A text at the head of t. -/
def txt (t : ByteArray) : Option (ByteArray × Nat) := match get t 0 with
  | none => none
  | some (v, l) => if v ≤ (t.size : Int) - l then some (t.extract l (l + v.toNat), l + v.toNat) else none
def rdT (s : ByteArray) (p : Nat) : Option (ByteArray × Nat) := txt (s.extract p s.size)
def RdP (B : Nat) (s : ByteArray) (p : Nat) (f : Bool) (V : Value) (w : World) (e : Ending) (w' : World) : Prop := e = .returned V ∧ BxN w' B [.string s, .int .i64 (p : Nat), .bool f] ∧ w.grownBy w' (some B)
theorem bxDrewN {w : World} {b : Nat} {vs : List Value} (h : BxN w b vs) (n : Nat) : BxN (w.drewN n) b vs := ⟨h.lt, h.cells, h.free⟩
theorem grownPut (w : World) (n B i : Nat) (v : Value) : w.grownBy ((w.drewN n).setCell ⟨B, i, none⟩ v) (some B) :=
  ⟨rfl, rfl, rfl, by simp, fun k hk hne => Below.heap_setCell _ _ _ _ (fun e => hne (congrArg some e))⟩
theorem ext_sz (s : ByteArray) (p : Nat) (hp : p ≤ s.size) : (s.extract p s.size).size = s.size - p := by
  rw [Lib.size_eq, Lib.extract_data, List.length_take, List.length_drop, ← Lib.size_eq]; omega
theorem run_slice_from (W : World) (t : TypeId) (s : ByteArray) (p : Nat) (h : Tryd.prog.underlying t = some .string) (hp : p ≤ s.size) : (Instr.slice t (.string s) (some (.int .i64 (p : Nat))) none none).run Tryd.prog W = .ok (.string (s.extract p s.size)) W := by
  rw [run_slice_string_from_if W t s .i64 (p : Nat) h, if_pos ⟨by omega, by omega⟩, Int.toNat_natCast]
theorem rdN_le {s : ByteArray} {p l : Nat} {v : Int} (hp : p ≤ s.size) (h : rdN s p = some (v, l)) : p + l ≤ s.size ∧ 0 ≤ v ∧ v ≤ 4611686018427387904 := by
  have := get_some h; have := ext_sz s p hp; omega
theorem rdT_le {s v : ByteArray} {p l : Nat} (hp : p ≤ s.size) (h : rdT s p = some (v, l)) : p + l ≤ s.size := by
  unfold rdT txt at h
  have z := ext_sz s p hp
  split at h
  · cases h
  · rename_i v0 l0 hg
    have := get_some hg
    split at h
    · simp only [Option.some.injEq, Prod.mk.injEq] at h; omega
    · cases h
theorem spec_getN_none (t : ByteArray) (ht : t.size ≤ 1000000000) (hg : get t 0 = none) (w : World) : Calls Tryd.prog 14 #[.string t] w fun e w' => e = .returned (.tuple #[.int .i64 0, .int .i64 0, .bool false]) ∧ w' = w :=
  (specGetVar t ht w).mono fun e w' q => ⟨by rw [q.1, hg]; rfl, q.2.symm⟩
theorem spec_getN_some (t : ByteArray) (ht : t.size ≤ 1000000000) {v : Int} {l : Nat} (hg : get t 0 = some (v, l)) (w : World) : Calls Tryd.prog 14 #[.string t] w fun e w' => e = .returned (.tuple #[.int .i64 v, .int .i64 (l : Nat), .bool true]) ∧ w' = w :=
  (specGetVar t ht w).mono fun e w' q => ⟨by rw [q.1, hg, ← out0], q.2.symm⟩
theorem spec_getN_any (t : ByteArray) (ht : t.size ≤ 1000000000) : ∃ (v : Int) (l : Nat) (b : Bool), ∀ w, Calls Tryd.prog 14 #[.string t] w fun e w' => e = .returned (.tuple #[.int .i64 v, .int .i64 (l : Nat), .bool b]) ∧ w' = w := by
  rcases hg : get t 0 with _ | ⟨v, l⟩
  · exact ⟨0, 0, false, fun w => spec_getN_none t ht hg w⟩
  · exact ⟨v, l, true, fun w => spec_getN_some t ht hg w⟩
theorem spec_getT_none (t : ByteArray) (ht : t.size ≤ 1000000000) (hg : txt t = none) (w : World) : Calls Tryd.prog 15 #[.string t] w fun e w' => e = .returned (.tuple #[.string ⟨#[]⟩, .int .i64 0, .bool false]) ∧ w' = w := by
  unfold txt at hg
  split at hg
  · rename_i h; exact (specGetText_none t ht h w).mono fun e w' q => ⟨q.1, q.2.symm⟩
  · rename_i v l h
    split at hg
    · cases hg
    · have := get_some h
      obtain ⟨m, rfl⟩ := Int.eq_ofNat_of_zero_le this.1
      exact (specGetText_long t ht l m h (by omega) w).mono fun e w' q => ⟨q.1, q.2.symm⟩
theorem spec_getT_some (t : ByteArray) (ht : t.size ≤ 1000000000) {v : ByteArray} {l : Nat} (hg : txt t = some (v, l)) (w : World) : Calls Tryd.prog 15 #[.string t] w fun e w' => e = .returned (.tuple #[.string v, .int .i64 (l : Nat), .bool true]) ∧ w' = w := by
  unfold txt at hg
  split at hg
  · cases hg
  · rename_i v0 l0 h
    split at hg
    · have := get_some h
      obtain ⟨m, rfl⟩ := Int.eq_ofNat_of_zero_le this.1
      simp only [Option.some.injEq, Prod.mk.injEq, Int.toNat_natCast] at hg
      obtain ⟨rfl, rfl⟩ := hg
      exact (specGetText_good t ht l0 m h (by omega) w).mono fun e w' q => ⟨q.1.trans (by rw [Int.natCast_add]), q.2.symm⟩
    · cases hg
theorem spec_getT_any (t : ByteArray) (ht : t.size ≤ 1000000000) : ∃ (v : ByteArray) (l : Nat) (b : Bool), ∀ w, Calls Tryd.prog 15 #[.string t] w fun e w' => e = .returned (.tuple #[.string v, .int .i64 (l : Nat), .bool b]) ∧ w' = w := by
  rcases hg : txt t with _ | ⟨v, l⟩
  · exact ⟨⟨#[]⟩, 0, false, fun w => spec_getT_none t ht hg w⟩
  · exact ⟨v, l, true, fun w => spec_getT_some t ht hg w⟩
theorem impl_getN_none (t : ByteArray) (ht : t.size ≤ 1000000000) (hg : get t 0 = none) (w : World) : Calls Tryd.prog 26 #[.string t] w fun e w' => e = .returned (.tuple #[.int .i64 0, .int .i64 0, .bool false]) ∧ w' = w :=
  (implGetVar t ht w).mono fun e w' q => ⟨by rw [q.1, hg]; rfl, q.2.symm⟩
theorem impl_getN_some (t : ByteArray) (ht : t.size ≤ 1000000000) {v : Int} {l : Nat} (hg : get t 0 = some (v, l)) (w : World) : Calls Tryd.prog 26 #[.string t] w fun e w' => e = .returned (.tuple #[.int .i64 v, .int .i64 (l : Nat), .bool true]) ∧ w' = w :=
  (implGetVar t ht w).mono fun e w' q => ⟨by rw [q.1, hg, ← out0], q.2.symm⟩
theorem impl_getN_any (t : ByteArray) (ht : t.size ≤ 1000000000) : ∃ (v : Int) (l : Nat) (b : Bool), ∀ w, Calls Tryd.prog 26 #[.string t] w fun e w' => e = .returned (.tuple #[.int .i64 v, .int .i64 (l : Nat), .bool b]) ∧ w' = w := by
  rcases hg : get t 0 with _ | ⟨v, l⟩
  · exact ⟨0, 0, false, fun w => impl_getN_none t ht hg w⟩
  · exact ⟨v, l, true, fun w => impl_getN_some t ht hg w⟩
theorem impl_getT_none (t : ByteArray) (ht : t.size ≤ 1000000000) (hg : txt t = none) (w : World) : Calls Tryd.prog 27 #[.string t] w fun e w' => e = .returned (.tuple #[.string ⟨#[]⟩, .int .i64 0, .bool false]) ∧ w' = w := by
  unfold txt at hg
  split at hg
  · rename_i h; exact (implGetText_none t ht h w).mono fun e w' q => ⟨q.1, q.2.symm⟩
  · rename_i v l h
    split at hg
    · cases hg
    · have := get_some h
      obtain ⟨m, rfl⟩ := Int.eq_ofNat_of_zero_le this.1
      exact (implGetText_long t ht l m h (by omega) w).mono fun e w' q => ⟨q.1, q.2.symm⟩
theorem impl_getT_some (t : ByteArray) (ht : t.size ≤ 1000000000) {v : ByteArray} {l : Nat} (hg : txt t = some (v, l)) (w : World) : Calls Tryd.prog 27 #[.string t] w fun e w' => e = .returned (.tuple #[.string v, .int .i64 (l : Nat), .bool true]) ∧ w' = w := by
  unfold txt at hg
  split at hg
  · cases hg
  · rename_i v0 l0 h
    split at hg
    · have := get_some h
      obtain ⟨m, rfl⟩ := Int.eq_ofNat_of_zero_le this.1
      simp only [Option.some.injEq, Prod.mk.injEq, Int.toNat_natCast] at hg
      obtain ⟨rfl, rfl⟩ := hg
      exact (implGetText_good t ht l0 m h (by omega) w).mono fun e w' q => ⟨q.1.trans (by rw [Int.natCast_add]), q.2.symm⟩
    · cases hg
theorem impl_getT_any (t : ByteArray) (ht : t.size ≤ 1000000000) : ∃ (v : ByteArray) (l : Nat) (b : Bool), ∀ w, Calls Tryd.prog 27 #[.string t] w fun e w' => e = .returned (.tuple #[.string v, .int .i64 (l : Nat), .bool b]) ∧ w' = w := by
  rcases hg : txt t with _ | ⟨v, l⟩
  · exact ⟨⟨#[]⟩, 0, false, fun w => impl_getT_none t ht hg w⟩
  · exact ⟨v, l, true, fun w => impl_getT_some t ht hg w⟩
set_option maxRecDepth 100000 in
set_option maxHeartbeats 2000000 in
theorem spec_num_none (B : Nat) (s : ByteArray) (p : Nat) (f : Bool) (hs : s.size ≤ 1048576) (hp : p ≤ s.size) (hg : rdN s p = none) (w : World) (X : BxN w B [.string s, .int .i64 (p : Nat), .bool f]) : Calls Tryd.prog 7 #[.pointer (some ⟨B, 0, none⟩)] w (RdP B s (p : Nat) true (.int .i64 0) w) := by
  have SZ := ext_sz s p hp
  have hsl : ∀ W, (Instr.slice 9 (.string s) (some (.int .i64 (p : Nat))) none none).run Tryd.prog W = .ok (.string (s.extract p s.size)) W := fun W => by
    rw [run_slice_from W 9 s p Tryd.underlying9 hp]
  have x0 := X.cells 0 _ rfl
  have x1 := X.cells 1 _ rfl
  have x2 := X.cells 2 _ rfl
  have GT := Lib.hid (fun w => spec_getN_none (s.extract p s.size) (by omega) hg w)
  clear hg
  go_enter Tryd.func7, Tryd.ntmps7
  go_wp2
  go_quiet ((go_at_call 14; exact Calls.quiet_of_same (GT.out _)))
  have X1 := bxDrewN X nq
  have x0 := X1.cells 0 _ rfl
  have x1 := X1.cells 1 _ rfl
  have x2 := X1.cells 2 _ rfl
  have xf := fun i => X1.free i
  have R := Lib.hid (show RdP B s (p : Nat) true (.int .i64 0) w (.returned (.int .i64 0)) ((w.drewN nq).setCell ⟨B, 2, none⟩ (.bool true)) from ⟨rfl, X1.put 2 (by show 2 < 3; omega) _, grownPut w nq B 2 _⟩)
  clear X X1
  go_wp2
  go_ret
  exact R.out

set_option maxRecDepth 100000 in
set_option maxHeartbeats 2000000 in
theorem spec_num_some (B : Nat) (s : ByteArray) (p : Nat) (f : Bool) (v : Int) (l : Nat) (hs : s.size ≤ 1048576) (hp : p ≤ s.size) (hg : rdN s p = some (v, l)) (w : World) (X : BxN w B [.string s, .int .i64 (p : Nat), .bool f]) : Calls Tryd.prog 7 #[.pointer (some ⟨B, 0, none⟩)] w (RdP B s (p + l : Nat) f (.int .i64 v) w) := by
  have SZ := ext_sz s p hp
  have hsl : ∀ W, (Instr.slice 9 (.string s) (some (.int .i64 (p : Nat))) none none).run Tryd.prog W = .ok (.string (s.extract p s.size)) W := fun W => by
    rw [run_slice_from W 9 s p Tryd.underlying9 hp]
  have x0 := X.cells 0 _ rfl
  have x1 := X.cells 1 _ rfl
  have x2 := X.cells 2 _ rfl
  have LB := rdN_le hp hg
  have GT := Lib.hid (fun w => spec_getN_some (s.extract p s.size) (by omega) hg w)
  clear hg
  go_enter Tryd.func7, Tryd.ntmps7
  go_wp2
  go_quiet ((go_at_call 14; exact Calls.quiet_of_same (GT.out _)))
  have X1 := bxDrewN X nq
  have x0 := X1.cells 0 _ rfl
  have x1 := X1.cells 1 _ rfl
  have x2 := X1.cells 2 _ rfl
  have xf := fun i => X1.free i
  have R := Lib.hid (show RdP B s (p + l : Nat) f (.int .i64 v) w (.returned (.int .i64 v)) ((w.drewN nq).setCell ⟨B, 1, none⟩ (.int .i64 ((p + l : Nat) : Int))) from ⟨rfl, X1.put 1 (by show 1 < 3; omega) _, grownPut w nq B 1 _⟩)
  have qw : IntKind.i64.wrap ((p : Int) + (l : Int)) = ((p + l : Nat) : Int) := by rw [IntKind.wrap_i64]; omega
  clear X X1
  go_wp2
  go_ret
  exact R.out

set_option maxRecDepth 100000 in
set_option maxHeartbeats 2000000 in
theorem spec_str_none (B : Nat) (s : ByteArray) (p : Nat) (f : Bool) (hs : s.size ≤ 1048576) (hp : p ≤ s.size) (hg : rdT s p = none) (w : World) (X : BxN w B [.string s, .int .i64 (p : Nat), .bool f]) : Calls Tryd.prog 8 #[.pointer (some ⟨B, 0, none⟩)] w (RdP B s (p : Nat) true (.string ⟨#[]⟩) w) := by
  have SZ := ext_sz s p hp
  have hsl : ∀ W, (Instr.slice 9 (.string s) (some (.int .i64 (p : Nat))) none none).run Tryd.prog W = .ok (.string (s.extract p s.size)) W := fun W => by
    rw [run_slice_from W 9 s p Tryd.underlying9 hp]
  have x0 := X.cells 0 _ rfl
  have x1 := X.cells 1 _ rfl
  have x2 := X.cells 2 _ rfl
  have GT := Lib.hid (fun w => spec_getT_none (s.extract p s.size) (by omega) hg w)
  clear hg
  go_enter Tryd.func8, Tryd.ntmps8
  go_wp2
  go_quiet ((go_at_call 15; exact Calls.quiet_of_same (GT.out _)))
  have X1 := bxDrewN X nq
  have x0 := X1.cells 0 _ rfl
  have x1 := X1.cells 1 _ rfl
  have x2 := X1.cells 2 _ rfl
  have xf := fun i => X1.free i
  have R := Lib.hid (show RdP B s (p : Nat) true (.string ⟨#[]⟩) w (.returned (.string ⟨#[]⟩)) ((w.drewN nq).setCell ⟨B, 2, none⟩ (.bool true)) from ⟨rfl, X1.put 2 (by show 2 < 3; omega) _, grownPut w nq B 2 _⟩)
  clear X X1
  go_wp2
  go_ret
  exact R.out

set_option maxRecDepth 100000 in
set_option maxHeartbeats 2000000 in
theorem spec_str_some (B : Nat) (s : ByteArray) (p : Nat) (f : Bool) (v : ByteArray) (l : Nat) (hs : s.size ≤ 1048576) (hp : p ≤ s.size) (hg : rdT s p = some (v, l)) (w : World) (X : BxN w B [.string s, .int .i64 (p : Nat), .bool f]) : Calls Tryd.prog 8 #[.pointer (some ⟨B, 0, none⟩)] w (RdP B s (p + l : Nat) f (.string v) w) := by
  have SZ := ext_sz s p hp
  have hsl : ∀ W, (Instr.slice 9 (.string s) (some (.int .i64 (p : Nat))) none none).run Tryd.prog W = .ok (.string (s.extract p s.size)) W := fun W => by
    rw [run_slice_from W 9 s p Tryd.underlying9 hp]
  have x0 := X.cells 0 _ rfl
  have x1 := X.cells 1 _ rfl
  have x2 := X.cells 2 _ rfl
  have LB := rdT_le hp hg
  have GT := Lib.hid (fun w => spec_getT_some (s.extract p s.size) (by omega) hg w)
  clear hg
  go_enter Tryd.func8, Tryd.ntmps8
  go_wp2
  go_quiet ((go_at_call 15; exact Calls.quiet_of_same (GT.out _)))
  have X1 := bxDrewN X nq
  have x0 := X1.cells 0 _ rfl
  have x1 := X1.cells 1 _ rfl
  have x2 := X1.cells 2 _ rfl
  have xf := fun i => X1.free i
  have R := Lib.hid (show RdP B s (p + l : Nat) f (.string v) w (.returned (.string v)) ((w.drewN nq).setCell ⟨B, 1, none⟩ (.int .i64 ((p + l : Nat) : Int))) from ⟨rfl, X1.put 1 (by show 1 < 3; omega) _, grownPut w nq B 1 _⟩)
  have qw : IntKind.i64.wrap ((p : Int) + (l : Int)) = ((p + l : Nat) : Int) := by rw [IntKind.wrap_i64]; omega
  clear X X1
  go_wp2
  go_ret
  exact R.out

end Go.Proofs.YtbnjgehgaellmaaDoor.Rd
