/-
  Whether a matrix is valid: what the program's and the model's functions return.
-/
import Derived.Test.YtbnjgehgaellmaaMatLaw
import Derived.Test.YtbnjgehgaellmaaGfSpec
namespace Go.Proofs.Ytbnjgehgaellmaa.Mo
open Go.RowKit Go.Proofs.Ytbnjgehgaellmaa.At Go.Proofs.Ytbnjgehgaellmaa.MixC Go.Proofs.Ytbnjgehgaellmaa.Ml Go.Proofs.Ytbnjgehgaellmaa.GfI Go.Proofs.Ytbnjgehgaellmaa.GfS
set_option linter.unusedVariables false

def okM (h wd : Int) (zs : List Int) : Bool := decide (1 ≤ h ∧ h ≤ 8 ∧ 1 ≤ wd ∧ wd ≤ 8 ∧ (zs.length : Int) = h * wd ∧ ∀ z ∈ zs, 0 ≤ z ∧ z ≤ 255)
theorem okM_dims {h wd : Int} {zs : List Int} (d : ¬ (1 ≤ h ∧ h ≤ 8 ∧ 1 ≤ wd ∧ wd ≤ 8)) : okM h wd zs = false := by
  unfold okM; rw [decide_eq_false_iff_not]; intro q; exact d ⟨q.1, q.2.1, q.2.2.1, q.2.2.2.1⟩
theorem okM_len {h wd : Int} {zs : List Int} (d : ¬ (zs.length : Int) = h * wd) : okM h wd zs = false := by
  unfold okM; rw [decide_eq_false_iff_not]; intro q; exact d q.2.2.2.2.1
theorem okM_elt {h wd : Int} {zs : List Int} {k : Nat} (hk : k < zs.length) (d : isElt (zs.getD k 0) = false) : okM h wd zs = false := by
  unfold okM; rw [decide_eq_false_iff_not]; intro q
  have hm : zs.getD k 0 ∈ zs := by rw [List.getD_eq_getElem?_getD, List.getElem?_eq_getElem hk]; exact List.getElem_mem hk
  have := q.2.2.2.2.2 _ hm
  rw [elt_yes this.1 this.2] at d
  cases d
theorem okM_yes {h wd : Int} {zs : List Int} (d : 1 ≤ h ∧ h ≤ 8 ∧ 1 ≤ wd ∧ wd ≤ 8) (l : (zs.length : Int) = h * wd) (e : ∀ k, k < zs.length → isElt (zs.getD k 0) = true) : okM h wd zs = true := by
  unfold okM; rw [decide_eq_true_eq]
  refine ⟨d.1, d.2.1, d.2.2.1, d.2.2.2, l, fun z hz => ?_⟩
  obtain ⟨k, hk, rfl⟩ := List.mem_iff_getElem.1 hz
  have := e k hk
  rw [List.getD_eq_getElem?_getD, List.getElem?_eq_getElem hk] at this
  exact elt_of this
theorem okM_out {h wd : Int} {zs : List Int} (o : okM h wd zs = true) : (1 ≤ h ∧ h ≤ 8 ∧ 1 ≤ wd ∧ wd ≤ 8) ∧ (zs.length : Int) = h * wd ∧ ∀ z ∈ zs, 0 ≤ z ∧ z ≤ 255 := by
  unfold okM at o; rw [decide_eq_true_eq] at o; exact ⟨⟨o.1, o.2.1, o.2.2.1, o.2.2.2.1⟩, o.2.2.2.2.1, o.2.2.2.2.2⟩
def BoolB (b : Bool) (w : World) (e : Ending) (w' : World) : Prop := e = .returned (.bool b) ∧ Below w.heap.size w w'
theorem prod_bounds {h wd : Int} (d : 1 ≤ h ∧ h ≤ 8 ∧ 1 ≤ wd ∧ wd ≤ 8) : 1 ≤ h * wd ∧ h * wd ≤ 64 := by
  have a := Int.mul_le_mul d.2.1 d.2.2.2 (by omega) (by omega : (0 : Int) ≤ 8)
  have b := Int.mul_le_mul d.1 d.2.2.1 (by omega) (by omega : (0 : Int) ≤ h)
  omega

set_option maxRecDepth 100000 in
theorem implOk (h wd : Int) (a : Option Addr) (cap : Nat) (zs : List Int) (w : World) (hl : zs.length ≤ 2097152) (hc : Words w a zs) :
    Calls Try.prog 41 #[mval h wd (.slice a zs.length cap)] w (BoolB (okM h wd zs) w) := by
  obtain ⟨n, hn⟩ : ∃ n, n = zs.length := ⟨_, rfl⟩
  have b0 : ∀ x, Below w.heap.size w (w.alloc x) := fun x => (Below.refl _ _).alloc (Nat.le_refl _) _
  have B0 := Lib.hid b0
  clear b0
  by_cases d : 1 ≤ h ∧ h ≤ 8 ∧ 1 ≤ wd ∧ wd ≤ 8
  · by_cases l : (zs.length : Int) = h * wd
    · have P := prod_bounds d
      have hlen : ((n : Int) != h * wd) = false := by rw [bne_eq_false_iff_eq, hn]; exact l
      have Y := Lib.hid (okM_yes d l)
      have N := Lib.hid (fun k (hk : k < zs.length) d => okM_elt (h := h) (wd := wd) hk d)
      have HC := Lib.hid (fun x (hx : 0 < zs.length) => (hc.below (B0.out x)).resolve_left (by intro e; rw [e] at hx; simp at hx))
      have HN := Lib.hid hn.symm
      rw [← hn] at hl Y N HC ⊢
      clear hc l hn
      obtain ⟨d1, d2, d3, d4⟩ := d
      generalize okM h wd zs = ok at Y N ⊢
      go_enter Try.func41, Try.ntmps41
      go_wp2
      go_loop [35] (fun i => ∃ k : Nat, k ≤ n ∧ i = .int .i64 k ∧ ∀ j, j < k → isElt (zs.getD j 0) = true) (fun i => n - (intOf i).toNat)
      case atStart => exact ⟨0, by omega, rfl, fun j hj => absurd hj (Nat.not_lt_zero _)⟩
      case round =>
        obtain ⟨k, hk, rfl, he⟩ := hrel
        have HE := Lib.hid he
        clear he
        by_cases hlt : k < n
        · obtain ⟨b, o, rfl, _, c⟩ := HC.out (.cells #[.int .i64 h, .int .i64 wd, .slice a n cap] 26) (by omega)
          have c := c k (by rw [HN.out]; exact hlt)
          have NK := Lib.hid (N.out k hlt)
          have HS := Lib.hid (show isElt (zs.getD k 0) = true → ∀ j, j < k + 1 → isElt (zs.getD j 0) = true from fun e j hj => by
            by_cases q : j = k
            · rw [q]; exact e
            · exact HE.out j (by omega))
          generalize zs.getD k 0 = z at c NK HS
          clear HE
          by_cases e : isElt z = true
          · have HS2 := Lib.hid (HS.out e)
            go_wp2_with fail
            refine (isElement z _).mono ?_
            rintro e' w1 ⟨rfl, rfl⟩
            go_wp2
            go_round
            case rel => exact ⟨k + 1, by omega, by go_num, HS2.out⟩
            case measure => simp [intOf]; omega
          · have e : isElt z = false := by simpa using e
            have E := NK.out e
            subst E
            go_wp2_with fail
            refine (isElement z _).mono ?_
            rintro e' w1 ⟨rfl, rfl⟩
            go_wp2
            go_ret
            exact ⟨rfl, B0.out _⟩
        · obtain rfl : k = n := by omega
          have E := Y.out HE.out
          subst E
          go_wp2
          go_ret
          exact ⟨rfl, B0.out _⟩
    · have hlen : ((n : Int) != h * wd) = true := by rw [bne_iff_ne, hn]; exact l
      have E := okM_len l
      rw [E]
      have P := prod_bounds d
      rw [← hn] at hl ⊢
      clear hc l hn E
      obtain ⟨d1, d2, d3, d4⟩ := d
      go_enter Try.func41, Try.ntmps41
      go_wp2
      go_ret
      exact ⟨rfl, B0.out _⟩
  · have E := okM_dims (zs := zs) d
    rw [E]
    clear hc hn E
    have q : h < 1 ∨ (1 ≤ h ∧ 8 < h) ∨ (1 ≤ h ∧ h ≤ 8 ∧ wd < 1) ∨ (1 ≤ h ∧ h ≤ 8 ∧ 1 ≤ wd ∧ 8 < wd) := by omega
    clear d
    rcases q with q | ⟨q1, q2⟩ | ⟨q1, q2, q3⟩ | ⟨q1, q2, q3, q4⟩ <;>
    · go_enter Try.func41, Try.ntmps41
      go_wp2
      go_ret
      exact ⟨rfl, B0.out _⟩

set_option maxRecDepth 100000 in
theorem l03OK (h wd : Int) (a : Option Addr) (cap : Nat) (zs : List Int) (w : World) (hl : zs.length ≤ 2097152) (hc : Words w a zs) :
    Calls Try.prog 38 #[mval h wd (.slice a zs.length cap)] w (BoolB (okM h wd zs) w) := by
  obtain ⟨n, hn⟩ : ∃ n, n = zs.length := ⟨_, rfl⟩
  have b0 : ∀ x, Below w.heap.size w (w.alloc x) := fun x => (Below.refl _ _).alloc (Nat.le_refl _) _
  have B0 := Lib.hid b0
  clear b0
  by_cases d : 1 ≤ h ∧ h ≤ 8 ∧ 1 ≤ wd ∧ wd ≤ 8
  · have I1 := inB_yes d.1 d.2.1
    have I2 := inB_yes d.2.2.1 d.2.2.2
    by_cases l : (zs.length : Int) = h * wd
    · have P := prod_bounds d
      have hlen : ((n : Int) != h * wd) = false := by rw [bne_eq_false_iff_eq, hn]; exact l
      have Y := Lib.hid (okM_yes d l)
      have N := Lib.hid (fun k (hk : k < zs.length) d => okM_elt (h := h) (wd := wd) hk d)
      have HC := Lib.hid (fun x (hx : 0 < zs.length) => (hc.below (B0.out x)).resolve_left (by intro e; rw [e] at hx; simp at hx))
      have HN := Lib.hid hn.symm
      rw [← hn] at hl Y N HC ⊢
      clear hc l hn
      obtain ⟨d1, d2, d3, d4⟩ := d
      generalize okM h wd zs = ok at Y N ⊢
      go_enter Try.func38, Try.ntmps38
      go_wp2_with fail
      refine (l00In h 1 8 _).mono ?_
      rintro e' w1 ⟨rfl, rfl⟩
      go_wp2_with fail
      refine (l00In wd 1 8 _).mono ?_
      rintro e' w1 ⟨rfl, rfl⟩
      go_wp2_with fail
      go_loop [3] (fun i => ∃ k : Nat, k ≤ n ∧ i = .int .i64 k ∧ ∀ j, j < k → isElt (zs.getD j 0) = true) (fun i => n - (intOf i).toNat)
      case atStart => exact ⟨0, by omega, rfl, fun j hj => absurd hj (Nat.not_lt_zero _)⟩
      case round =>
        obtain ⟨k, hk, rfl, he⟩ := hrel
        have HE := Lib.hid he
        clear he
        by_cases hlt : k < n
        · obtain ⟨b, o, rfl, _, c⟩ := HC.out (.cells #[.int .i64 h, .int .i64 wd, .slice a n cap] 26) (by omega)
          have c := c k (by rw [HN.out]; exact hlt)
          have NK := Lib.hid (N.out k hlt)
          have HS := Lib.hid (show isElt (zs.getD k 0) = true → ∀ j, j < k + 1 → isElt (zs.getD j 0) = true from fun e j hj => by
            by_cases q : j = k
            · rw [q]; exact e
            · exact HE.out j (by omega))
          generalize zs.getD k 0 = z at c NK HS
          clear HE
          by_cases e : isElt z = true
          · have HS2 := Lib.hid (HS.out e)
            go_wp2_with fail
            refine (l02Byte z _).mono ?_
            rintro e' w1 ⟨rfl, rfl⟩
            go_wp2
            go_round
            case rel => exact ⟨k + 1, by omega, by go_num, HS2.out⟩
            case measure => simp [intOf]; omega
          · have e : isElt z = false := by simpa using e
            have E := NK.out e
            subst E
            go_wp2_with fail
            refine (l02Byte z _).mono ?_
            rintro e' w1 ⟨rfl, rfl⟩
            go_wp2
            go_ret
            exact ⟨rfl, B0.out _⟩
        · obtain rfl : k = n := by omega
          have E := Y.out HE.out
          subst E
          go_wp2
          go_ret
          exact ⟨rfl, B0.out _⟩
    · have hlen : ((n : Int) != h * wd) = true := by rw [bne_iff_ne, hn]; exact l
      have E := okM_len l
      rw [E]
      have P := prod_bounds d
      rw [← hn] at hl ⊢
      clear hc l hn E
      obtain ⟨d1, d2, d3, d4⟩ := d
      go_enter Try.func38, Try.ntmps38
      go_wp2_with fail
      refine (l00In h 1 8 _).mono ?_
      rintro e' w1 ⟨rfl, rfl⟩
      go_wp2_with fail
      refine (l00In wd 1 8 _).mono ?_
      rintro e' w1 ⟨rfl, rfl⟩
      go_wp2
      go_ret
      exact ⟨rfl, B0.out _⟩
  · have E := okM_dims (zs := zs) d
    rw [E]
    clear hc hn E
    by_cases d1 : 1 ≤ h ∧ h ≤ 8
    · have I1 := inB_yes d1.1 d1.2
      have I2 : inB wd 1 8 = false := decide_eq_false (by omega)
      go_enter Try.func38, Try.ntmps38
      go_wp2_with fail
      refine (l00In h 1 8 _).mono ?_
      rintro e' w1 ⟨rfl, rfl⟩
      go_wp2_with fail
      refine (l00In wd 1 8 _).mono ?_
      rintro e' w1 ⟨rfl, rfl⟩
      go_wp2
      go_ret
      exact ⟨rfl, B0.out _⟩
    · have I1 : inB h 1 8 = false := decide_eq_false (by omega)
      go_enter Try.func38, Try.ntmps38
      go_wp2_with fail
      refine (l00In h 1 8 _).mono ?_
      rintro e' w1 ⟨rfl, rfl⟩
      go_wp2
      go_ret
      exact ⟨rfl, B0.out _⟩

end Go.Proofs.Ytbnjgehgaellmaa.Mo
