/-
  Apart: the model's functions.
-/
import Derived.Test.YtgfpngjfhmiphaaTapt
namespace Go.Proofs.Ytgfpngjfhmiphaa.Tm
open Go.RowKit Go.Proofs.Ytgfpngjfhmiphaa.GfI Go.Proofs.Ytgfpngjfhmiphaa.GfS Go.Proofs.Ytgfpngjfhmiphaa.MixC
open Go.Proofs.Ytgfpngjfhmiphaa.It (lay chain)
open Go.Proofs.Ytgfpngjfhmiphaa.Bk (Bks tval bval)
open Go.Proofs.Ytgfpngjfhmiphaa.Sg (BxN)
set_option linter.unusedVariables false
set_option linter.unusedSimpArgs false

/-- No other of the first n places has a device in the domain of x. -/
def FreeP (T : TD) (g : Int) (z : Nat → Int) (n : Nat) (at' x : Int) : Prop := ∀ j : Nat, j < n → (j : Int) ≠ at' → 0 ≤ z j → z j ≠ x ∧ dom8 T g (z j) ≠ dom8 T g x
theorem FreeP.zero (T : TD) (g : Int) (z : Nat → Int) (at' x : Int) : FreeP T g z 0 at' x := fun j hj => absurd hj (Nat.not_lt_zero _)
theorem FreeP.same {T : TD} {g : Int} {z : Nat → Int} {k : Nat} {x : Int} {at' : Int} (h : FreeP T g z k at' x) (e : (k : Int) = at') : FreeP T g z (k + 1) at' x := fun j hj hn h0 => by
  by_cases q : j = k
  · rw [q] at hn; exact absurd e hn
  · exact h j (by omega) hn h0
theorem FreeP.neg {T : TD} {g : Int} {z : Nat → Int} {k : Nat} {x : Int} {at' : Int} (h : FreeP T g z k at' x) (e : ¬ 0 ≤ z k) : FreeP T g z (k + 1) at' x := fun j hj hn h0 => by
  by_cases q : j = k
  · rw [q] at h0; exact absurd h0 e
  · exact h j (by omega) hn h0
theorem FreeP.step {T : TD} {g : Int} {z : Nat → Int} {k : Nat} {x : Int} {at' : Int} (h : FreeP T g z k at' x) (d : z k ≠ x ∧ dom8 T g (z k) ≠ dom8 T g x) : FreeP T g z (k + 1) at' x := fun j hj hn h0 => by
  by_cases q : j = k
  · rw [q]; exact d
  · exact h j (by omega) hn h0

set_option maxRecDepth 100000 in
set_option maxHeartbeats 4000000 in
theorem l08Free (T : TD) (Z : T.Sz) (O : T.Ok) (A : TA) (g : Int) (a : Option Addr) (cap : Nat) (z : List Int) (at' x : Int) (w : World) (hz : z.length ≤ 2097152) (h : TIn w T A) (hw0 : Words w a z) :
    Calls Try.prog 120 #[A.val T, .int .i64 g, .slice a z.length cap, .int .i64 at', .int .i64 x] w (IffB (FreeP T g (zF z) z.length at' x) w) := by
  have LH := Lib.hid (lay w (.cells #[.slice A.da T.dn A.dc, .slice A.ba T.bn A.bc] 33))
  have X := Lib.hid (BxN.new w #[.slice A.da T.dn A.dc, .slice A.ba T.bn A.bc] 33)
  have DM := Lib.hid (fun y w' (b : Below w.heap.size w w') => l08Domain T A g y w' Z O (h.below b))
  clear h Z O
  obtain ⟨da, dc, ba, bc, I, C⟩ := A
  dsimp only at LH DM X ⊢
  obtain ⟨dn, hdn⟩ : ∃ dn, dn = T.dn := ⟨_, rfl⟩
  obtain ⟨bn, hbn⟩ : ∃ bn, bn = T.bn := ⟨_, rfl⟩
  have E : ∀ a b c d I C, TA.val ⟨a, b, c, d, I, C⟩ T = tval (.slice a dn b) (.slice c bn d) := fun _ _ _ _ _ _ => by rw [hdn, hbn]
  rw [E] at DM ⊢
  rw [← hdn, ← hbn] at LH X
  clear hdn hbn
  obtain ⟨n, hn⟩ : ∃ n, n = z.length := ⟨_, rfl⟩
  have HN := Lib.hid hn
  rw [← hn] at hz ⊢
  clear hn
  have WZ := Lib.hid hw0
  clear hw0
  go_enter Try.func120, Try.ntmps120
  go_wp2
  go_loopw [11] (fun i wr => ∃ k : Nat, k ≤ n ∧ i = .int .i64 k ∧ FreeP T g (zF z) k at' x ∧ BxN wr w.heap.size [.slice da dn dc, .slice ba bn bc] ∧ Below w.heap.size w wr) (fun i _ => n - (intOf i).toNat)
  case atStart => exact ⟨0, by omega, rfl, FreeP.zero _ _ _ _ _, X.out, LH.out⟩
  case round =>
    clear X LH
    obtain ⟨k, hk, rfl, P, XR, hw⟩ := hrel
    have PH := Lib.hid P
    have WH := Lib.hid hw
    have XH := Lib.hid XR
    have x0 := XR.cells 0 _ rfl
    have x1 := XR.cells 1 _ rfl
    clear P XR
    by_cases hlt : k < n
    · have hkz : k < z.length := by rw [← HN.out]; exact hlt
      obtain ⟨bz, oz, rfl, hBz, nums⟩ := (WZ.out.below hw).resolve_left (by intro e; rw [e] at hkz; simp at hkz)
      have d := nums k hkz
      have zk : zF z k = z.getD k 0 := rfl
      rw [← zk] at d
      have FL := Lib.hid (fun (h : (k : Int) ≠ at') (h0 : 0 ≤ zF z k) (h1 : ¬ (zF z k ≠ x ∧ dom8 T g (zF z k) ≠ dom8 T g x)) => show ¬ FreeP T g (zF z) n at' x from fun r => h1 (r k hlt h h0))
      have S1 := Lib.hid (fun (e : (k : Int) = at') => PH.out.same e)
      have S2 := Lib.hid (fun (e : ¬ 0 ≤ zF z k) => PH.out.neg e)
      have S3 := Lib.hid (fun (e : zF z k ≠ x ∧ dom8 T g (zF z k) ≠ dom8 T g x) => PH.out.step e)
      have DY := Lib.hid (DM.out (zF z k))
      have DX := Lib.hid (DM.out x)
      have hB := Lib.hid hBz
      have BD := Lib.hid (show ∀ q, Below w.heap.size w (wr.drewN q) from fun q => below_drewN hw q)
      clear nums hw zk DM PH hBz
      generalize dom8 T g (zF z k) = u at *
      generalize dom8 T g x = v at *
      generalize zF z k = y at *
      by_cases h1 : (k : Int) = at'
      · have G := Lib.hid (S1.out h1)
        subst h1
        clear S1 S2 S3 FL DY DX
        go_wp2
        go_quiet (fail)
        go_wp2
        go_roundw
        case rel => exact ⟨k + 1, by omega, by go_num, G.out, XH.out.later (below_drewN (Below.refl _ _) _), BD.out _⟩
        case measure => simp [intOf]; omega
      · have h1' : ((k : Int) != at') = true := by simpa using h1
        by_cases h2 : 0 ≤ y
        · have h2' : decide (0 ≤ y) = true := decide_eq_true h2
          by_cases h3 : y = x
          · have G := Lib.hid (FL.out h1 h2 (fun r => r.1 h3))
            subst h3
            clear S1 S2 S3 FL DY DX h1
            go_wp2
            go_quiet (fail)
            go_wp2
            go_ret
            exact IffB.no G.out (BD.out _)
          · have h3' : (y == x) = false := by simpa using h3
            have BW : Hid (∀ w', Below wr.heap.size wr w' → Below w.heap.size w w') := by
              have := BD.out 0
              show ∀ w', _
              exact fun w' b => chain WH.out b
            by_cases h4 : u = v
            · have G := Lib.hid (FL.out h1 h2 (fun r => r.2 h4))
              subst h4
              clear S1 S2 S3 FL h1 h3
              have tok1 : True := trivial
              go_wp2
              go_region_held3 (fun w' => w'.cell? ⟨w.heap.size, 0, none⟩ = some (.slice da dn dc) ∧ w'.cell? ⟨w.heap.size, 1, none⟩ = some (.slice ba bn bc) ∧ w'.cell? ⟨bz, oz + k, none⟩ = some (.int .i64 y)) (go_keep)
                (first
                  | (go_at_call 72; have _t := tok1; refine (DY.out _ WH.out.drew).mono ?_; rintro e w3 ⟨rfl, b3⟩; clear _t tok1; have b3 := undrew b3; have B3 := Lib.hid (chain WH.out b3); have X3 := Lib.hid (XH.out.later b3); have y0 := X3.out.cells 0 _ rfl; have y1 := X3.out.cells 1 _ rfl; have yd := (b3.cell (p := ⟨bz, oz + k, none⟩) hB.out).trans d; have hB3 := Lib.hid (Nat.lt_of_lt_of_le hB.out b3.size); clear b3)
                  | (go_at_call 72; refine (DX.out _ B3.out).mono ?_; rintro e w4 ⟨rfl, b4⟩; have B4 := Lib.hid (chain B3.out b4); have X4 := Lib.hid (X3.out.later b4); have q0 := X4.out.cells 0 _ rfl; have q1 := X4.out.cells 1 _ rfl; have qd := (b4.cell (p := ⟨bz, oz + k, none⟩) hB3.out).trans yd; clear b4))
              all_goals
                go_wp2
                go_ret
                exact IffB.no G.out B4.out
            · have G := Lib.hid (S3.out ⟨h3, h4⟩)
              have h4' : (u == v) = false := by simpa using h4
              clear S1 S2 S3 FL h1 h3 h4
              have tok1 : True := trivial
              go_wp2
              go_region_held3 (fun w' => w'.cell? ⟨w.heap.size, 0, none⟩ = some (.slice da dn dc) ∧ w'.cell? ⟨w.heap.size, 1, none⟩ = some (.slice ba bn bc) ∧ w'.cell? ⟨bz, oz + k, none⟩ = some (.int .i64 y)) (go_keep)
                (first
                  | (go_at_call 72; have _t := tok1; refine (DY.out _ WH.out.drew).mono ?_; rintro e w3 ⟨rfl, b3⟩; clear _t tok1; have b3 := undrew b3; have B3 := Lib.hid (chain WH.out b3); have X3 := Lib.hid (XH.out.later b3); have y0 := X3.out.cells 0 _ rfl; have y1 := X3.out.cells 1 _ rfl; have yd := (b3.cell (p := ⟨bz, oz + k, none⟩) hB.out).trans d; have hB3 := Lib.hid (Nat.lt_of_lt_of_le hB.out b3.size); clear b3)
                  | (go_at_call 72; refine (DX.out _ B3.out).mono ?_; rintro e w4 ⟨rfl, b4⟩; have B4 := Lib.hid (chain B3.out b4); have X4 := Lib.hid (X3.out.later b4); have q0 := X4.out.cells 0 _ rfl; have q1 := X4.out.cells 1 _ rfl; have qd := (b4.cell (p := ⟨bz, oz + k, none⟩) hB3.out).trans yd; clear b4))
              all_goals
                go_wp2
                go_roundw
                case rel => exact ⟨k + 1, by omega, by go_num, G.out, X4.out, B4.out⟩
                case measure => simp [intOf]; omega
        · have h2' : decide (0 ≤ y) = false := decide_eq_false h2
          have G := Lib.hid (S2.out h2)
          clear S1 S2 S3 FL DY DX h1
          go_wp2
          go_quiet (fail)
          go_wp2
          go_roundw
          case rel => exact ⟨k + 1, by omega, by go_num, G.out, XH.out.later (below_drewN (Below.refl _ _) _), BD.out _⟩
          case measure => simp [intOf]; omega
    · obtain rfl : k = n := by omega
      clear hw
      go_wp2
      go_ret
      exact IffB.yes PH.out WH.out
end Go.Proofs.Ytgfpngjfhmiphaa.Tm
