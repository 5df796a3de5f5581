/-
  The parts of a tree in memory: a map, a box for each device and bucket, a row of parts for each bucket; the small functions on a part.
-/
import Derived.Test.YtoikdonecbpjaaaTup
import Derived.Test.YtoikdonecbpjaaaMatRes2
import Derived.Handy
namespace Go.Proofs.Ytoikdonecbpjaaa.Tm
open Go.RowKit Go.Proofs.Ytoikdonecbpjaaa.GfI Go.Proofs.Ytoikdonecbpjaaa.GfS Go.Proofs.Ytoikdonecbpjaaa.MixC
open Go.Proofs.Ytoikdonecbpjaaa.It (lay chain)
open Go.Proofs.Ytoikdonecbpjaaa.Sg (BxN)
set_option linter.unusedVariables false
set_option linter.unusedSimpArgs false

def holdB (g k : Int) : Bool := decide (k = g - 1 ∨ g = 3 ∧ k = 1)
/-- An answer, and the world as it was. -/
def Same (v : Value) (w : World) (e : Ending) (w' : World) : Prop := e = .returned v ∧ w = w'
set_option maxRecDepth 100000 in
theorem mayHold (g k : Int) (h1 : 1 ≤ g) (h3 : g ≤ 3) (w : World) : Calls Try.prog 129 #[.int .i64 g, .int .i64 k] w (Same (.bool (holdB g k)) w) := by
  have E : IntKind.i64.wrap (g - 1) = g - 1 := by rw [IntKind.wrap_i64]; omega
  by_cases a : k = g - 1
  · have R : holdB g k = true := decide_eq_true (.inl a)
    have a' : (k == g - 1) = true := by simpa using a
    rw [R]
    clear R a
    go_enter Try.func129, Try.ntmps129
    go_wp2
    go_ret
    exact ⟨rfl, rfl⟩
  · have a' : (k == g - 1) = false := by simpa using a
    by_cases b : g = 3
    · subst b
      by_cases c : k = 1
      · subst c
        rw [show holdB 3 1 = true from rfl]
        go_enter Try.func129, Try.ntmps129
        go_wp2
        go_ret
        exact ⟨rfl, rfl⟩
      · have R : holdB 3 k = false := decide_eq_false (by omega)
        have c' : (k == 1) = false := by simpa using c
        have a2 : (k == 2) = false := a'
        rw [R]
        clear R a c a'
        go_enter Try.func129, Try.ntmps129
        go_wp2
        go_ret
        exact ⟨rfl, rfl⟩
    · have R : holdB g k = false := decide_eq_false (by omega)
      have b' : (g == 3) = false := by simpa using b
      rw [R]
      clear R a b
      go_enter Try.func129, Try.ntmps129
      go_wp2
      go_ret
      exact ⟨rfl, rfl⟩

theorem asLL (v : Value) (w : World) : (Instr.typeAssert (.iface 120 v) 92 120 true).run Try.prog w = .ok (.tuple #[v, .bool true]) w := by kernel_rfl
theorem asBL (v : Value) (w : World) : (Instr.typeAssert (.iface 121 v) 92 120 true).run Try.prog w = .ok (.tuple #[.pointer none, .bool false]) w := by kernel_rfl
theorem asBB (v : Value) (w : World) : (Instr.typeAssert (.iface 121 v) 92 121 true).run Try.prog w = .ok (.tuple #[v, .bool true]) w := by kernel_rfl
theorem asNL (w : World) : (Instr.typeAssert .nilIface 92 120 true).run Try.prog w = .ok (.tuple #[.pointer none, .bool false]) w := by kernel_rfl
theorem asNB (w : World) : (Instr.typeAssert .nilIface 92 121 true).run Try.prog w = .ok (.tuple #[.pointer none, .bool false]) w := by kernel_rfl

set_option maxRecDepth 100000 in
theorem kindOf (T : TD) (p q : Nat) (x : Int) (w : World) (hb : ∀ j, j < T.bn → w.cell? ⟨q + 2 * j, 2, none⟩ = some (.int .i64 (T.bg j))) :
    Calls Try.prog 110 #[thg T p q T.dn T.bn x] w (Same (.int .i64 (T.kd x)) w) := by
  rcases thg_cases (T := T) p q x with ⟨i, hi, hx, hk, ht⟩ | ⟨j, hj, hx, hk, ht⟩ | ⟨hk, ht⟩
  · rw [ht, hk]
    clear ht hk hb hi hx
    have A := asLL (.pointer (some ⟨p + 2 * i, 0, none⟩)) w
    go_enter Try.func110, Try.ntmps110
    go_wp2
    go_ret
    exact ⟨rfl, rfl⟩
  · rw [ht, hk]
    have c2 := hb j hj
    clear ht hk hb hj hx
    generalize T.bg j = g at *
    generalize q + 2 * j = b at *
    have A := asBL (.pointer (some ⟨b, 0, none⟩)) w
    have A2 := asBB (.pointer (some ⟨b, 0, none⟩)) w
    go_enter Try.func110, Try.ntmps110
    go_wp2
    go_ret
    exact ⟨rfl, rfl⟩
  · rw [ht, hk]
    clear ht hk hb
    have A := asNL w
    have A2 := asNB w
    go_enter Try.func110, Try.ntmps110
    go_wp2
    go_ret
    exact ⟨rfl, rfl⟩

set_option maxRecDepth 100000 in
theorem hang_no (b c r : Nat) (w : World) (c0 : w.cell? ⟨b, 0, none⟩ = some (.pointer (some ⟨r, 0, none⟩))) :
    Calls Try.prog 178 #[.pointer (some ⟨b, 0, none⟩), .pointer (some ⟨c, 0, none⟩)] w (Same (.bool false) w) := by
  go_enter Try.func178, Try.ntmps178
  go_wp2
  go_ret
  exact ⟨rfl, rfl⟩
set_option maxRecDepth 100000 in
theorem hang_yes (b c : Nat) (w : World) (c0 : w.cell? ⟨b, 0, none⟩ = some (.pointer none)) (f0 : w.frozen? ⟨b, 0, none⟩ = false) :
    Calls Try.prog 178 #[.pointer (some ⟨b, 0, none⟩), .pointer (some ⟨c, 0, none⟩)] w (fun e w' => e = .returned (.bool true) ∧ w' = w.setCell ⟨b, 0, none⟩ (.pointer (some ⟨c, 0, none⟩))) := by
  go_enter Try.func178, Try.ntmps178
  go_wp2
  go_ret
  exact ⟨rfl, rfl⟩
end Go.Proofs.Ytoikdonecbpjaaa.Tm
