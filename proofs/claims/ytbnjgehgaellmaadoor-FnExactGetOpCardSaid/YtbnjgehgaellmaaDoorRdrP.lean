/-
  The program's readers: what they hand back, and where they panic (written by tools/gen/rdrp.py).
-/
import Derived.Test.YtbnjgehgaellmaaDoorRdrS
import Derived.WalkSmall
import Derived.BigQuiet
namespace Go.Proofs.YtbnjgehgaellmaaDoor.Rd
open Go.RowKit Go.ChangeShapes Go.WideShapes Go.Proofs.YtbnjgehgaellmaaDoor.Gt
open Go.Proofs.YtbnjgehgaellmaaDoor.Sg (BxN)
set_option linter.unusedVariables false
set_option linter.unusedSimpArgs false

/-- What errUnread's cell holds. -/
def ErrAt (T : TypeId) (V : Value) (w : World) : Prop := w.cell? ⟨0, 0, none⟩ = some (.iface T V) ∧ 0 < w.heap.size
theorem ErrAt.grown {T : TypeId} {V : Value} {w w' : World} {r : Option Nat} (h : ErrAt T V w) (g : w.grownBy w' r) (hr : r ≠ some 0) : ErrAt T V w' :=
  ⟨g.cell h.1 (fun e => hr e.symm), Nat.lt_of_lt_of_le h.2 g.size⟩
theorem ErrAt.later {T : TypeId} {V : Value} {w w' : World} (h : ErrAt T V w) (b : Below w.heap.size w w') : ErrAt T V w' := ⟨(b.cell (p := ⟨0, 0, none⟩) h.2).trans h.1, Nat.lt_of_lt_of_le h.2 b.size⟩
def RdQ (B : Nat) (s : ByteArray) (p : Nat) (V : Value) (w : World) (e : Ending) (w' : World) : Prop := e = .returned V ∧ BxN w' B [.string s, .int .i64 (p : Nat)] ∧ w.grownBy w' (some B)
def RdX (B : Nat) (T : TypeId) (V : Value) (w : World) (e : Ending) (w' : World) : Prop := e = .panicked [{ v := .iface T V, recovered := false }] ∧ w.grownBy w' (some B)
theorem grownDrew (w : World) (n B : Nat) : w.grownBy (w.drewN n) (some B) := by
  have := grownPut w n B 0 (.int .i64 0)
  exact ⟨this.os, this.tape, this.output, Nat.le_refl _, fun b _ _ => rfl⟩

set_option maxRecDepth 100000 in
set_option maxHeartbeats 4000000 in
theorem want_yes (B : Nat) (w : World) : Calls Tryd.prog 19 #[.pointer (some ⟨B, 0, none⟩), .bool true] w fun e w' => e = .returned (.tuple #[]) ∧ w' = w := by
  go_enter Tryd.func19, Tryd.ntmps19
  go_wp2
  first | go_end0 | refine bodyPost_ret (results_none rfl _ _ _) rfl ?_
  exact ⟨rfl, rfl⟩

set_option maxRecDepth 100000 in
set_option maxHeartbeats 4000000 in
theorem want_no (B : Nat) (T : TypeId) (V : Value) (w : World) (h : ErrAt T V w) : Calls Tryd.prog 19 #[.pointer (some ⟨B, 0, none⟩), .bool false] w fun e w' => e = .panicked [{ v := .iface T V, recovered := false }] ∧ w' = w := by
  have hc := h.1
  go_enter Tryd.func19, Tryd.ntmps19
  go_wp2
  exact ⟨rfl, ⟨rfl, rfl⟩⟩

set_option maxRecDepth 100000 in
set_option maxHeartbeats 4000000 in
theorem pan_num (B : Nat) (s : ByteArray) (p : Nat) (T : TypeId) (V : Value) (hs : s.size ≤ 1048576) (hp : p ≤ s.size) (hg : rdN s p = none) (w : World) (X : BxN w B [.string s, .int .i64 (p : Nat)]) (hE : ErrAt T V w) : Calls Tryd.prog 20 #[.pointer (some ⟨B, 0, none⟩)] w (RdX B T V w) := by
  have SZ := ext_sz s p hp
  have hsl : ∀ W, (Instr.slice 9 (.string s) (some (.int .i64 (p : Nat))) none none).run Tryd.prog W = .ok (.string (s.extract p s.size)) W := fun W => by
    rw [run_slice_from W 9 s p Tryd.underlying9 hp]
  have x0 := X.cells 0 _ rfl
  have x1 := X.cells 1 _ rfl
  have GT := Lib.hid (fun w => impl_getN_none (s.extract p s.size) (by omega) hg w)
  clear hg
  go_enter Tryd.func20, Tryd.ntmps20
  go_wp2
  go_quiet ((go_at_call 26; exact Calls.quiet_of_same (GT.out _)))
  have X1 := bxDrewN X nq
  have x0 := X1.cells 0 _ rfl
  have x1 := X1.cells 1 _ rfl
  have xf := fun i => X1.free i
  have WN := Lib.hid (want_no B T V (w.drewN nq) (hE.grown (grownDrew w nq (B + 1)) (by simp)))
  have G := Lib.hid (grownDrew w nq B)
  clear X X1
  generalize w.drewN nq = wd at *
  go_wp2_with fail
  refine WN.out.mono ?_
  rintro e w2 ⟨rfl, rfl⟩
  go_wp2
  exact ⟨rfl, ⟨rfl, G.out⟩⟩

set_option maxRecDepth 100000 in
set_option maxHeartbeats 4000000 in
theorem got_num (B : Nat) (s : ByteArray) (p : Nat) (v : Int) (l : Nat) (hs : s.size ≤ 1048576) (hp : p ≤ s.size) (hg : rdN s p = some (v, l)) (w : World) (X : BxN w B [.string s, .int .i64 (p : Nat)]) : Calls Tryd.prog 20 #[.pointer (some ⟨B, 0, none⟩)] w (RdQ B s (p + l) (.int .i64 v) w) := by
  have SZ := ext_sz s p hp
  have hsl : ∀ W, (Instr.slice 9 (.string s) (some (.int .i64 (p : Nat))) none none).run Tryd.prog W = .ok (.string (s.extract p s.size)) W := fun W => by
    rw [run_slice_from W 9 s p Tryd.underlying9 hp]
  have x0 := X.cells 0 _ rfl
  have x1 := X.cells 1 _ rfl
  have LB := rdN_le hp hg
  have GT := Lib.hid (fun w => impl_getN_some (s.extract p s.size) (by omega) hg w)
  clear hg
  go_enter Tryd.func20, Tryd.ntmps20
  go_wp2
  go_quiet ((go_at_call 26; exact Calls.quiet_of_same (GT.out _)))
  have X1 := bxDrewN X nq
  have x0 := X1.cells 0 _ rfl
  have x1 := X1.cells 1 _ rfl
  have xf := fun i => X1.free i
  have R := Lib.hid (show RdQ B s (p + l) (.int .i64 v) w (.returned (.int .i64 v)) ((w.drewN nq).setCell ⟨B, 1, none⟩ (.int .i64 ((p + l : Nat) : Int))) from ⟨rfl, X1.put 1 (by show 1 < 2; omega) _, grownPut w nq B 1 _⟩)
  have qw : IntKind.i64.wrap ((p : Int) + (l : Int)) = ((p + l : Nat) : Int) := by rw [IntKind.wrap_i64]; omega
  have WY := Lib.hid (want_yes B (w.drewN nq))
  clear X X1
  generalize w.drewN nq = wd at *
  go_wp2_with fail
  refine WY.out.mono ?_
  rintro e w2 ⟨rfl, rfl⟩
  go_wp2
  go_ret
  exact R.out

set_option maxRecDepth 100000 in
set_option maxHeartbeats 4000000 in
theorem pan_str (B : Nat) (s : ByteArray) (p : Nat) (T : TypeId) (V : Value) (hs : s.size ≤ 1048576) (hp : p ≤ s.size) (hg : rdT s p = none) (w : World) (X : BxN w B [.string s, .int .i64 (p : Nat)]) (hE : ErrAt T V w) : Calls Tryd.prog 21 #[.pointer (some ⟨B, 0, none⟩)] w (RdX B T V w) := by
  have SZ := ext_sz s p hp
  have hsl : ∀ W, (Instr.slice 9 (.string s) (some (.int .i64 (p : Nat))) none none).run Tryd.prog W = .ok (.string (s.extract p s.size)) W := fun W => by
    rw [run_slice_from W 9 s p Tryd.underlying9 hp]
  have x0 := X.cells 0 _ rfl
  have x1 := X.cells 1 _ rfl
  have GT := Lib.hid (fun w => impl_getT_none (s.extract p s.size) (by omega) hg w)
  clear hg
  go_enter Tryd.func21, Tryd.ntmps21
  go_wp2
  go_quiet ((go_at_call 27; exact Calls.quiet_of_same (GT.out _)))
  have X1 := bxDrewN X nq
  have x0 := X1.cells 0 _ rfl
  have x1 := X1.cells 1 _ rfl
  have xf := fun i => X1.free i
  have WN := Lib.hid (want_no B T V (w.drewN nq) (hE.grown (grownDrew w nq (B + 1)) (by simp)))
  have G := Lib.hid (grownDrew w nq B)
  clear X X1
  generalize w.drewN nq = wd at *
  go_wp2_with fail
  refine WN.out.mono ?_
  rintro e w2 ⟨rfl, rfl⟩
  go_wp2
  exact ⟨rfl, ⟨rfl, G.out⟩⟩

set_option maxRecDepth 100000 in
set_option maxHeartbeats 4000000 in
theorem got_str (B : Nat) (s : ByteArray) (p : Nat) (v : ByteArray) (l : Nat) (hs : s.size ≤ 1048576) (hp : p ≤ s.size) (hg : rdT s p = some (v, l)) (w : World) (X : BxN w B [.string s, .int .i64 (p : Nat)]) : Calls Tryd.prog 21 #[.pointer (some ⟨B, 0, none⟩)] w (RdQ B s (p + l) (.string v) w) := by
  have SZ := ext_sz s p hp
  have hsl : ∀ W, (Instr.slice 9 (.string s) (some (.int .i64 (p : Nat))) none none).run Tryd.prog W = .ok (.string (s.extract p s.size)) W := fun W => by
    rw [run_slice_from W 9 s p Tryd.underlying9 hp]
  have x0 := X.cells 0 _ rfl
  have x1 := X.cells 1 _ rfl
  have LB := rdT_le hp hg
  have GT := Lib.hid (fun w => impl_getT_some (s.extract p s.size) (by omega) hg w)
  clear hg
  go_enter Tryd.func21, Tryd.ntmps21
  go_wp2
  go_quiet ((go_at_call 27; exact Calls.quiet_of_same (GT.out _)))
  have X1 := bxDrewN X nq
  have x0 := X1.cells 0 _ rfl
  have x1 := X1.cells 1 _ rfl
  have xf := fun i => X1.free i
  have R := Lib.hid (show RdQ B s (p + l) (.string v) w (.returned (.string v)) ((w.drewN nq).setCell ⟨B, 1, none⟩ (.int .i64 ((p + l : Nat) : Int))) from ⟨rfl, X1.put 1 (by show 1 < 2; omega) _, grownPut w nq B 1 _⟩)
  have qw : IntKind.i64.wrap ((p : Int) + (l : Int)) = ((p + l : Nat) : Int) := by rw [IntKind.wrap_i64]; omega
  have WY := Lib.hid (want_yes B (w.drewN nq))
  clear X X1
  generalize w.drewN nq = wd at *
  go_wp2_with fail
  refine WY.out.mono ?_
  rintro e w2 ⟨rfl, rfl⟩
  go_wp2
  go_ret
  exact R.out
end Go.Proofs.YtbnjgehgaellmaaDoor.Rd
