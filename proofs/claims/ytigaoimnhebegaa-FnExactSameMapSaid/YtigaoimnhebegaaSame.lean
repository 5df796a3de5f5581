/-
  Whether two lists of numbers, two matrices are the same: what the program's and the model's functions return.
-/
import Derived.Test.YtigaoimnhebegaaMatOk
import Derived.WalkLawsBesides
namespace Go.Proofs.Ytigaoimnhebegaa.Sa
open Go.RowKit Go.Proofs.Ytigaoimnhebegaa.At Go.Proofs.Ytigaoimnhebegaa.MixC Go.Proofs.Ytigaoimnhebegaa.Ml Go.Proofs.Ytigaoimnhebegaa.Mo
set_option linter.unusedVariables false

def same (xs ys : List Int) : Bool := decide (xs = ys)
def BoolQ (b : Bool) (w : World) (e : Ending) (w' : World) : Prop := e = .returned (.bool b) ∧ ∃ q, w' = w.drewN q
theorem same_len {xs ys : List Int} (h : ¬ xs.length = ys.length) : same xs ys = false := decide_eq_false (fun e => h (by rw [e]))
theorem same_at {xs ys : List Int} {k : Nat} (h : ¬ xs.getD k 0 = ys.getD k 0) : same xs ys = false := decide_eq_false (fun e => h (by rw [e]))
theorem same_all {xs ys : List Int} (hl : xs.length = ys.length) (h : ∀ k, k < xs.length → xs.getD k 0 = ys.getD k 0) : same xs ys = true := by
  refine decide_eq_true (List.ext_getElem hl fun i h1 h2 => ?_)
  have := h i h1
  rwa [List.getD_eq_getElem?_getD, List.getD_eq_getElem?_getD, List.getElem?_eq_getElem h1, List.getElem?_eq_getElem h2] at this

theorem Words.drewN {w : World} {a : Option Addr} {zs : List Int} (h : Words w a zs) (q : Nat) : Words (w.drewN q) a zs := Words.below h (below_drewN (Below.refl _ _) q)

set_option maxRecDepth 100000 in
theorem l00Same (a b : Option Addr) (cap1 cap2 : Nat) (xs ys : List Int) (w : World) (hl : xs.length ≤ 2097152) (hl2 : ys.length ≤ 2097152) (ha : Words w a xs) (hb : Words w b ys) :
    Calls Try.prog 139 #[.slice a xs.length cap1, .slice b ys.length cap2] w (BoolQ (same xs ys) w) := by
  by_cases e : xs.length = ys.length
  · have Y := Lib.hid (same_all e)
    have NO := Lib.hid (fun k (h : ¬ xs.getD k 0 = ys.getD k 0) => same_at h)
    rw [← e] at hl2 ⊢
    obtain ⟨n, hn⟩ : ∃ n, n = xs.length := ⟨_, rfl⟩
    have hne : 0 < n → xs ≠ [] ∧ ys ≠ [] := by
      intro h
      constructor
      · intro q; rw [q] at hn; simp at hn; omega
      · intro q; rw [q] at e; simp at e; rw [e] at hn; simp at hn; omega
    have HA := Lib.hid (fun h => ha.resolve_left (hne h).1)
    have HB := Lib.hid (fun h => hb.resolve_left (hne h).2)
    have EN := Lib.hid (show n = xs.length ∧ n = ys.length from ⟨hn, hn.trans e⟩)
    rw [← hn] at hl hl2 Y ⊢
    clear hne ha hb e hn hl2
    generalize same xs ys = ok at Y NO ⊢
    go_enter Try.func139, Try.ntmps139
    go_wp2
    go_loopw [5] (fun i wr => ∃ k q : Nat, k ≤ n ∧ i = .int .i64 k ∧ wr = w.drewN q ∧ ∀ j, j < k → xs.getD j 0 = ys.getD j 0) (fun i _ => n - (intOf i).toNat)
    case atStart => exact ⟨0, 0, by omega, rfl, rfl, fun j hj => absurd hj (Nat.not_lt_zero _)⟩
    case round =>
      obtain ⟨k, q, hk, rfl, hw, he⟩ := hrel
      have HE := Lib.hid he
      clear he
      by_cases hlt : k < n
      · obtain ⟨b1, o1, rfl, _, c1⟩ := HA.out (by omega)
        obtain ⟨b2, o2, rfl, _, c2⟩ := HB.out (by omega)
        have d1 : wr.cell? ⟨b1, o1 + k, none⟩ = some (.int .i64 (xs.getD k 0)) := by rw [hw]; exact c1 k (by rw [← EN.out.1]; exact hlt)
        have d2 : wr.cell? ⟨b2, o2 + k, none⟩ = some (.int .i64 (ys.getD k 0)) := by rw [hw]; exact c2 k (by rw [← EN.out.2]; exact hlt)
        have NK := Lib.hid (NO.out k)
        have HS := Lib.hid (show xs.getD k 0 = ys.getD k 0 → ∀ j, j < k + 1 → xs.getD j 0 = ys.getD j 0 from fun e j hj => by
          by_cases q : j = k
          · rw [q]; exact e
          · exact HE.out j (by omega))
        generalize xs.getD k 0 = x at d1 NK HS
        generalize ys.getD k 0 = y at d2 NK HS
        have HW := Lib.hid hw
        clear hw c1 c2 HE
        by_cases e : x = y
        · have HS2 := Lib.hid (HS.out e)
          clear HS NK
          subst e
          go_wp2
          go_quiet (fail)
          go_wp2
          go_roundw
          case rel => exact ⟨k + 1, q + nq, by omega, by go_num, by rw [HW.out, World.drewN_drewN], HS2.out⟩
          case measure => simp [intOf]; omega
        · have E := NK.out e
          have t : (x != y) = true := by rw [bne_iff_ne]; exact e
          subst E
          clear HS NK e
          go_wp2
          go_quiet (fail)
          go_wp2
          go_ret
          exact ⟨rfl, q + nq, by rw [HW.out, World.drewN_drewN]⟩
      · obtain rfl : k = n := by omega
        have HW := Lib.hid hw
        have E := Y.out HE.out
        subst E
        clear hw HE
        go_wp2
        go_ret
        exact ⟨rfl, q, HW.out⟩
  · have E := same_len e
    have t : ((xs.length : Int) != (ys.length : Int)) = true := by rw [bne_iff_ne]; omega
    rw [E]
    clear E e ha hb
    go_enter Try.func139, Try.ntmps139
    go_wp2
    go_ret
    exact ⟨rfl, 0, rfl⟩

set_option maxRecDepth 100000 in
theorem slicesEqual (a b : Option Addr) (cap1 cap2 : Nat) (xs ys : List Int) (w : World) (hl : xs.length ≤ 2097152) (hl2 : ys.length ≤ 2097152) (ha : Words w a xs) (hb : Words w b ys) :
    Calls Try.prog 79 #[.slice a xs.length cap1, .slice b ys.length cap2] w (BoolQ (same xs ys) w) := by
  by_cases e : xs.length = ys.length
  · have Y := Lib.hid (same_all e)
    have NO := Lib.hid (fun k (h : ¬ xs.getD k 0 = ys.getD k 0) => same_at h)
    rw [← e] at hl2 ⊢
    obtain ⟨n, hn⟩ : ∃ n, n = xs.length := ⟨_, rfl⟩
    have hne : 0 < n → xs ≠ [] ∧ ys ≠ [] := by
      intro h
      constructor
      · intro q; rw [q] at hn; simp at hn; omega
      · intro q; rw [q] at e; simp at e; rw [e] at hn; simp at hn; omega
    have HA := Lib.hid (fun h => ha.resolve_left (hne h).1)
    have HB := Lib.hid (fun h => hb.resolve_left (hne h).2)
    have EN := Lib.hid (show n = xs.length ∧ n = ys.length from ⟨hn, hn.trans e⟩)
    rw [← hn] at hl hl2 Y ⊢
    clear hne ha hb e hn hl2
    generalize same xs ys = ok at Y NO ⊢
    go_enter Try.func79, Try.ntmps79
    go_wp2
    go_loopw [13] (fun i wr => ∃ k q : Nat, k ≤ n ∧ i = .int .i64 k ∧ wr = w.drewN q ∧ ∀ j, j < k → xs.getD j 0 = ys.getD j 0) (fun i _ => n - (intOf i).toNat)
    case atStart => exact ⟨0, 0, by omega, rfl, rfl, fun j hj => absurd hj (Nat.not_lt_zero _)⟩
    case round =>
      obtain ⟨k, q, hk, rfl, hw, he⟩ := hrel
      have HE := Lib.hid he
      clear he
      by_cases hlt : k < n
      · obtain ⟨b1, o1, rfl, _, c1⟩ := HA.out (by omega)
        obtain ⟨b2, o2, rfl, _, c2⟩ := HB.out (by omega)
        have d1 : wr.cell? ⟨b1, o1 + k, none⟩ = some (.int .i64 (xs.getD k 0)) := by rw [hw]; exact c1 k (by rw [← EN.out.1]; exact hlt)
        have d2 : wr.cell? ⟨b2, o2 + k, none⟩ = some (.int .i64 (ys.getD k 0)) := by rw [hw]; exact c2 k (by rw [← EN.out.2]; exact hlt)
        have NK := Lib.hid (NO.out k)
        have HS := Lib.hid (show xs.getD k 0 = ys.getD k 0 → ∀ j, j < k + 1 → xs.getD j 0 = ys.getD j 0 from fun e j hj => by
          by_cases q : j = k
          · rw [q]; exact e
          · exact HE.out j (by omega))
        generalize xs.getD k 0 = x at d1 NK HS
        generalize ys.getD k 0 = y at d2 NK HS
        have HW := Lib.hid hw
        clear hw c1 c2 HE
        by_cases e : x = y
        · have HS2 := Lib.hid (HS.out e)
          clear HS NK
          subst e
          go_wp2
          go_quiet (fail)
          go_wp2
          go_roundw
          case rel => exact ⟨k + 1, q + nq, by omega, by go_num, by rw [HW.out, World.drewN_drewN], HS2.out⟩
          case measure => simp [intOf]; omega
        · have E := NK.out e
          have t : (x != y) = true := by rw [bne_iff_ne]; exact e
          subst E
          clear HS NK e
          go_wp2
          go_quiet (fail)
          go_wp2
          go_ret
          exact ⟨rfl, q + nq, by rw [HW.out, World.drewN_drewN]⟩
      · obtain rfl : k = n := by omega
        have HW := Lib.hid hw
        have E := Y.out HE.out
        subst E
        clear hw HE
        go_wp2
        go_ret
        exact ⟨rfl, q, HW.out⟩
  · have E := same_len e
    have t : ((xs.length : Int) != (ys.length : Int)) = true := by rw [bne_iff_ne]; omega
    rw [E]
    clear E e ha hb
    go_enter Try.func79, Try.ntmps79
    go_wp2
    go_ret
    exact ⟨rfl, 0, rfl⟩
end Go.Proofs.Ytigaoimnhebegaa.Sa
