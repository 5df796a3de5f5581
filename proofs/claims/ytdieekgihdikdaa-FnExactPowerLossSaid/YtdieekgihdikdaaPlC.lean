/-
  Whether a list has the number of a write that does not wait.
-/
import Derived.Test.YtdieekgihdikdaaDkI
namespace Go.Proofs.Ytdieekgihdikdaa.Rd
open Go.RowKit Go.ChangeShapes Go.WideShapes Go.Proofs.Ytdieekgihdikdaa.GfI Go.Proofs.Ytdieekgihdikdaa.GfS
open Go.Proofs.Ytdieekgihdikdaa.Sg (BxN)
set_option linter.unusedVariables false
set_option linter.unusedSimpArgs false

def nowr (m : Nat) (x : Int) : Bool := !inD m x
set_option maxRecDepth 100000 in
set_option maxHeartbeats 4000000 in
theorem noWrite (n m : Nat) (a0 a1 : Option Addr) (c0 c1 : Nat) (bb : Nat) (x : Int) (w : World) (hb0 : BxN w bb [.slice a0 n c0, .slice a1 m c1]) :
    Calls Try.prog 51 #[.int .i64 x, .pointer (some ⟨bb, 0, none⟩)] w (RetW (.bool (nowr m x)) w) := by
  have d1 := hb0.cells 1 _ rfl
  clear hb0
  unfold nowr inD
  by_cases q : x < 0
  · have q' : decide (x < 0) = true := decide_eq_true q
    rw [decide_eq_false (by omega)]
    clear q
    go_enter Try.func51, Try.ntmps51
    go_wp2
    go_ret
    exact ⟨rfl, Below.refl _ _⟩
  · have q' : decide (x < 0) = false := decide_eq_false q
    by_cases r : (m : Int) ≤ x
    · have r' : decide ((m : Int) ≤ x) = true := decide_eq_true r
      rw [decide_eq_false (by omega)]
      clear q r
      go_enter Try.func51, Try.ntmps51
      go_wp2
      go_ret
      exact ⟨rfl, Below.refl _ _⟩
    · have r' : decide ((m : Int) ≤ x) = false := decide_eq_false r
      rw [decide_eq_true (by omega)]
      clear q r
      go_enter Try.func51, Try.ntmps51
      go_wp2
      go_ret
      exact ⟨rfl, Below.refl _ _⟩
set_option maxRecDepth 100000 in
set_option maxHeartbeats 1000000 in
theorem ctKeep_idx (ns ms : Nat) (pa pb : Option Addr) (es fs bb : Nat) (a : Option Addr) (cap : Nat) (l : List Int) (w : World) (hl : l.length ≤ 2097152) {fr : Bool} {lo : Nat} (hc : Rows fr lo w a l) (hb0 : BxN w bb [.slice pa ns es, .slice pb ms fs]) :
    Calls Try.prog 99 #[.slice a l.length cap, .func (.func 51) #[] #[.pointer (some ⟨bb, 0, none⟩)]] w (IdxW (∃ x, x ∈ l ∧ (nowr ms) x = true) w) := by
  have HL := Lib.hid (fun k (h : k < l.length) => get_lt h)
  have NO := Lib.hid (fun (h : ∀ i x, i < l.length → l[i]? = some x → (nowr ms) x = false) => (show ¬ ∃ x, x ∈ l ∧ (nowr ms) x = true from none_of h))
  have MEM := Lib.hid (fun k x (h : l[k]? = some x) => List.mem_of_getElem? h)
  obtain ⟨n, hn⟩ : ∃ n, n = l.length := ⟨_, rfl⟩
  rw [← hn] at hl HL NO ⊢
  clear hn
  go_enter Try.func99, Try.ntmps99
  go_wp2
  go_loopw [8] (fun i wr => ∃ k : Nat, k ≤ n ∧ i = .int .i64 k ∧ (∀ i x, i < k → l[i]? = some x → (nowr ms) x = false) ∧ Below w.heap.size w wr) (fun i _ => n - (intOf i).toNat)
  case atStart => exact ⟨0, by omega, rfl, fun i x hi => absurd hi (Nat.not_lt_zero _), Below.refl _ _⟩
  case round =>
    obtain ⟨k, hk, rfl, HN, hw⟩ := hrel
    have HN := Lib.hid HN
    have HW := Lib.hid hw
    by_cases hlt : k < n
    · obtain ⟨x, hx⟩ := HL.out k hlt
      obtain ⟨b, off, cs, rfl, -, hB, hr, hcc⟩ := (hc.below hw).at' hx
      have r := hr
      obtain ⟨rfl, f0_0⟩ := hr
      have c0 : wr.cell? ⟨b, off + k, none⟩ = some (.int .i64 x) := by have := hcc 0 _ rfl; rwa [show off + k * Rdb.size Int + 0 = off + k from by show off + k * 1 + 0 = _; omega] at this
      have P := noWrite ns ms pa pb es fs bb x wr (hb0.later hw)
      have HX := Lib.hid hx
      clear hcc hc hw hx r
      cases hp : (nowr ms) x
      · rw [hp] at P
        have P := Lib.hid P
        have HN2 := Lib.hid (show ∀ i y, i < k + 1 → l[i]? = some y → (nowr ms) y = false from fun i y hi hy => by
          by_cases e : i = k
          · subst e; rw [HX.out] at hy; cases hy; exact hp
          · exact HN.out i y (by omega) hy)
        clear hp
        go_wp2_with fail
        refine P.out.mono ?_
        rintro e w1 ⟨rfl, b1⟩
        have B1 := Lib.hid (chainX w HW.out b1)
        clear b1 P
        go_wp2
        go_roundw
        case rel => exact ⟨k + 1, by omega, by go_num, HN2.out, B1.out⟩
        case measure => simp [intOf]; omega
      · rw [hp] at P
        have P := Lib.hid P
        have Y := Lib.hid (show ∃ x, x ∈ l ∧ (nowr ms) x = true from ⟨x, MEM.out k x HX.out, hp⟩)
        clear hp
        go_wp2_with fail
        refine P.out.mono ?_
        rintro e w1 ⟨rfl, b1⟩
        have B1 := Lib.hid (chainX w HW.out b1)
        clear b1 P
        go_wp2
        go_ret
        exact ⟨_, rfl, B1.out, .inl ⟨by omega, Y.out⟩⟩
    · obtain rfl : k = n := by omega
      have N := Lib.hid (NO.out HN.out)
      clear hc hw
      go_wp2
      go_ret
      exact ⟨_, rfl, HW.out, .inr ⟨rfl, N.out⟩⟩
set_option maxRecDepth 100000 in
set_option maxHeartbeats 1000000 in
theorem ctKeep (ns ms : Nat) (pa pb : Option Addr) (es fs bb : Nat) (a : Option Addr) (cap : Nat) (l : List Int) (w : World) (hl : l.length ≤ 2097152) {fr : Bool} {lo : Nat} (hc : Rows fr lo w a l) (hb0 : BxN w bb [.slice pa ns es, .slice pb ms fs]) :
    Calls Try.prog 53 #[.slice a l.length cap, .func (.func 51) #[] #[.pointer (some ⟨bb, 0, none⟩)]] w (IffB (∃ x, x ∈ l ∧ (nowr ms) x = true) w) := by
  have I := Lib.hid (ctKeep_idx ns ms pa pb es fs bb a cap l w hl hc hb0)
  clear hc
  go_enter Try.func53, Try.ntmps53
  go_wp2_with fail
  refine I.out.mono ?_
  rintro e w1 ⟨i, rfl, b1, ⟨h0, Y⟩ | ⟨rfl, N⟩⟩
  · have h' : decide (0 ≤ i) = true := decide_eq_true h0
    have Y := Lib.hid Y
    have B := Lib.hid b1
    clear b1
    go_wp2
    go_ret
    exact IffB.yes Y.out B.out
  · have N := Lib.hid N
    have B := Lib.hid b1
    clear b1
    go_wp2
    go_ret
    exact IffB.no N.out B.out
end Go.Proofs.Ytdieekgihdikdaa.Rd
