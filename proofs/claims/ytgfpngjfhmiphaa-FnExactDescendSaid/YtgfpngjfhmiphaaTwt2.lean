/-
  The weight of a thing: in the program.
-/
import Derived.Test.YtgfpngjfhmiphaaTwt
namespace Go.Proofs.Ytgfpngjfhmiphaa.Tm
open Go.RowKit Go.Proofs.Ytgfpngjfhmiphaa.GfI Go.Proofs.Ytgfpngjfhmiphaa.GfS Go.Proofs.Ytgfpngjfhmiphaa.MixC
open Go.Proofs.Ytgfpngjfhmiphaa.It (lay chain)
open Go.Proofs.Ytgfpngjfhmiphaa.Bk (Bks tval bval)
open Go.Proofs.Ytgfpngjfhmiphaa.Sg (BxN)
set_option linter.unusedVariables false
set_option linter.unusedSimpArgs false

theorem pow8 : ∀ {f : Nat}, f ≤ 4 → (8 : Int) ^ f ≤ 4096
  | 0, _ => by decide
  | 1, _ => by decide
  | 2, _ => by decide
  | 3, _ => by decide
  | 4, _ => by decide
  | f + 5, h => by omega
theorem wt_top {T : TD} (O : T.Ok) {f : Nat} (hf : f ≤ 4) (y : Int) : 0 ≤ wt T f y ∧ wt T f y ≤ 32768 := by
  have h := wt_le O f y
  have := pow8 hf
  omega
theorem weightML (d f : Nat) (w : World) : (method (f + 10) 140 (.pointer (some ⟨d, 0, none⟩)) "loop.example/g00849/impl.weight").run Try.prog w = .ok (185, .pointer (some ⟨d, 0, none⟩)) w := by kernel_rfl
theorem weightMB (d f : Nat) (w : World) : (method (f + 10) 141 (.pointer (some ⟨d, 0, none⟩)) "loop.example/g00849/impl.weight").run Try.prog w = .ok (186, .pointer (some ⟨d, 0, none⟩)) w := by kernel_rfl
theorem leafWeight (b : Nat) (x : Int) (w : World) (c2 : w.cell? ⟨b, 2, none⟩ = some (.int .i64 x)) :
    Calls Try.prog 185 #[.pointer (some ⟨b, 0, none⟩)] w (Same (.int .i64 x) w) := by
  go_enter Try.func185, Try.ntmps185
  go_wp2
  go_ret
  exact ⟨rfl, rfl⟩
/-- A thing that is there: how its weight is had. -/
def HasW (T : TD) (p q f : Nat) (y : Int) (w : World) : Prop :=
  ∃ t d, thg T p q T.dn T.bn y = .iface t (.pointer (some ⟨d, 0, none⟩)) ∧
    ((t = 140 ∧ Calls Try.prog 185 #[.pointer (some ⟨d, 0, none⟩)] w (Same (.int .i64 (wt T f y)) w)) ∨
     (t = 141 ∧ Calls Try.prog 186 #[.pointer (some ⟨d, 0, none⟩)] w (Same (.int .i64 (wt T f y)) w)))
theorem ix_dev {T : TD} (O : T.Ok) {i : Nat} (hi : i < T.dn) : ix T.df (T.df i) T.dn = some i := ix_at hi (fun k hk e => by have := O.dev.lt hk hi; omega)
theorem ix_devb {T : TD} (O : T.Ok) {i : Nat} (hi : i < T.dn) : ix T.bf (T.df i) T.bn = none := ix_none.2 (fun j hj e => by have := (O.dev.each i hi).1; have := (O.bkt.each j hj).2.1; omega)
theorem hasW {T : TD} {mb p q : Nat} {w : World} (h : Whole T mb p q w) {f : Nat} {y : Int} (h0 : 0 ≤ T.kd y) (IH : ∀ j, j < T.bn → T.bf j = y → Calls Try.prog 186 #[.pointer (some ⟨q + 2 * j, 0, none⟩)] w (Same (.int .i64 (sumW (wt T f) (T.L j))) w)) :
    HasW T p q (f + 1) y w := by
  have O := h.ok
  rcases thg_cases (T := T) p q y with ⟨i, hi, e, hk, ht⟩ | ⟨j, hj, e, hk, ht⟩ | ⟨hk, ht⟩
  · refine ⟨_, _, ht, .inl ⟨rfl, ?_⟩⟩
    have c2 := (h.lf i hi).cells 2 _ rfl
    have : wt T (f + 1) y = T.dg i := by rw [← e, wt_no (ix_devb O hi)]; unfold dwt; rw [ix_dev O hi]
    rw [this]
    exact leafWeight _ _ w c2
  · refine ⟨_, _, ht, .inr ⟨rfl, ?_⟩⟩
    have : wt T (f + 1) y = sumW (wt T f) (T.L j) := wt_bkt (by rw [← e]; exact ix_bkt O hj)
    rw [this]
    exact IH j hj e
  · omega

set_option maxRecDepth 100000 in
set_option maxHeartbeats 1000000 in
theorem branchWeight (T : TD) (mb p q : Nat) (w : World) (h : Whole T mb p q w) : ∀ (f : Nat) (j : Nat), f ≤ 3 → j < T.bn → T.bg j ≤ f →
    Calls Try.prog 186 #[.pointer (some ⟨q + 2 * j, 0, none⟩)] w (Same (.int .i64 (sumW (wt T f) (T.L j))) w)
  | 0, j, _, hj, hg => by have := (h.ok.bkt.each j hj).2.2.1; omega
  | f + 1, j, hf, hj, hg => by
    obtain ⟨s, u, lo, hi, X, R⟩ := h.br j hj
    have O := h.ok
    have IT := Lib.hid (fun y (hy : y ∈ T.L j) => hasW h (f := f) (kd_up O hj hy).1 (fun j' hj' e => branchWeight T mb p q w h f j' (by omega) hj' (by
      have k := kd_up O hj hy
      rw [← e, TD.kd_bkt O.dev O.bkt hj'] at k
      omega)))
    have TOP := Lib.hid (fun y => wt_top O (f := f + 1) (by omega) y)
    have h8 := (O.bkt.each j hj).2.2.2.2
    have c4 := X.cells 4 _ rfl
    obtain ⟨a, cap, rfl, hr⟩ := R
    unfold things at c4 hr
    rw [List.length_map] at c4
    generalize T.L j = l at *
    obtain ⟨n, hn⟩ : ∃ n, n = l.length := ⟨_, rfl⟩
    rw [← hn] at c4 h8
    have HN := Lib.hid hn
    clear hn X hg hj
    go_enter Try.func186, Try.ntmps186
    go_wp2
    go_loop [3, 11] (fun s i => ∃ k : Nat, k ≤ n ∧ i = .int .i64 k ∧ s = .int .i64 (sumW (wt T (f + 1)) (l.take k))) (fun _ i => n - (intOf i).toNat)
    case atStart => exact ⟨0, by omega, rfl, rfl⟩
    case round =>
      obtain ⟨k, hk, rfl, rfl⟩ := hrel
      by_cases hlt : k < n
      · have hl : k < l.length := by rw [← HN.out]; exact hlt
        obtain ⟨b, off, rfl, -, -, -, hc⟩ := hr.resolve_left (by intro e; have := congrArg List.length e; rw [List.length_map] at this; simp at this; rw [this] at hl; simp at hl)
        have d := hc k (thg T p q T.dn T.bn (l.getD k 0)) (by rw [List.getElem?_map, List.getElem?_eq_getElem hl, List.getD_eq_getElem?_getD, List.getElem?_eq_getElem hl]; rfl)
        have SN := Lib.hid (show sumW (wt T (f + 1)) (l.take (k + 1)) = sumW (wt T (f + 1)) (l.take k) + wt T (f + 1) (l.getD k 0) from by rw [take_snoc _ _ hl, sumW_snoc])
        have S1 := sumW_le (w := wt T (f + 1)) (m := 32768) TOP.out (l.take k)
        have S2 := TOP.out (l.getD k 0)
        have l8 : (l.take k).length ≤ 8 := by rw [List.length_take]; omega
        obtain ⟨t, dd, ht, hcall⟩ := IT.out _ (getD_mem hl)
        rw [ht] at d
        have B1 : 0 ≤ sumW (wt T (f + 1)) (l.take k) ∧ sumW (wt T (f + 1)) (l.take k) ≤ 262144 := by
          have : ((l.take k).length : Int) * 32768 ≤ 8 * 32768 := Int.mul_le_mul_of_nonneg_right (by omega) (by omega)
          omega
        have W : IntKind.i64.wrap (sumW (wt T (f + 1)) (l.take k) + wt T (f + 1) (l.getD k 0)) = sumW (wt T (f + 1)) (l.take k) + wt T (f + 1) (l.getD k 0) := by rw [IntKind.wrap_i64]; omega
        clear hc S1 l8
        generalize sumW (wt T (f + 1)) (l.take k) = s0 at *
        generalize wt T (f + 1) (l.getD k 0) = wv at *
        rcases hcall with ⟨rfl, CL⟩ | ⟨rfl, CL⟩
        · have M := weightML dd
          have CL := Lib.hid CL
          go_wp2_with fail
          refine CL.out.mono ?_
          rintro e w2 ⟨rfl, rfl⟩
          go_wp2
          go_round
          case rel => exact ⟨k + 1, by omega, by go_num, by rw [SN.out]⟩
          case measure => simp [intOf]; omega
        · have M := weightMB dd
          have CL := Lib.hid CL
          go_wp2_with fail
          refine CL.out.mono ?_
          rintro e w2 ⟨rfl, rfl⟩
          go_wp2
          go_round
          case rel => exact ⟨k + 1, by omega, by go_num, by rw [SN.out]⟩
          case measure => simp [intOf]; omega
      · obtain rfl : k = n := by omega
        have E : l.take k = l := by rw [HN.out]; exact List.take_length
        rw [E]
        clear hr hk
        go_wp2
        go_ret
        exact ⟨rfl, rfl⟩
end Go.Proofs.Ytgfpngjfhmiphaa.Tm
