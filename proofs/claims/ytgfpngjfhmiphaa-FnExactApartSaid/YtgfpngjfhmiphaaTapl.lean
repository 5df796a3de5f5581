/-
  The exact law of Apart: the program's answer is the model's, and the arguments are left as they were.
-/
import Derived.Test.YtgfpngjfhmiphaaTapr
namespace Go.Proofs.Ytgfpngjfhmiphaa.Tm
open Go.RowKit Go.Proofs.Ytgfpngjfhmiphaa.GfI Go.Proofs.Ytgfpngjfhmiphaa.GfS Go.Proofs.Ytgfpngjfhmiphaa.MixC Go.Proofs.Ytgfpngjfhmiphaa.At
open Go.Proofs.Ytgfpngjfhmiphaa.It (lay chain)
open Go.Proofs.Ytgfpngjfhmiphaa.Bk (tval TreeSz)
open Go.Proofs.Ytgfpngjfhmiphaa.Sg (BxN)
set_option linter.unusedVariables false
set_option linter.unusedSimpArgs false

set_option maxRecDepth 100000 in
set_option maxHeartbeats 2000000 in
theorem specApart (T : TD) (A : TA) (g : Int) (a : Option Addr) (cap : Nat) (z : List Int) (w : World) (Z : T.Sz) (hz : z.length ≤ 2097152) (h : TIn w T A) (hw0 : Words w a z) :
    Calls Try.prog 31 #[A.val T, .int .i64 g, .slice a z.length cap] w (IffB (AptP T g z) w) := by
  have LH := Lib.hid (lay w (.cells #[.slice A.da T.dn A.dc, .slice A.ba T.bn A.bc] 33))
  have X := Lib.hid (BxN.new w #[.slice A.da T.dn A.dc, .slice A.ba T.bn A.bc] 33)
  have K := Lib.hid (l06OK T A _ Z (h.below LH.out))
  have AP := Lib.hid (fun (O : T.Ok) (g0 : 0 ≤ g) w' (b : Below w.heap.size w w') => l08Apart T Z O A g a cap z w' g0 hz (h.below b) (hw0.below b))
  have IB := fun w' => l00In g 0 2 w'
  clear h Z hw0
  obtain ⟨da, dc, ba, bc, I, C⟩ := A
  dsimp only at K LH AP X ⊢
  obtain ⟨dn, hdn⟩ : ∃ dn, dn = T.dn := ⟨_, rfl⟩
  obtain ⟨bn, hbn⟩ : ∃ bn, bn = T.bn := ⟨_, rfl⟩
  have E : ∀ a b c d I C, TA.val ⟨a, b, c, d, I, C⟩ T = tval (.slice a dn b) (.slice c bn d) := fun _ _ _ _ _ _ => by rw [hdn, hbn]
  rw [E] at K AP ⊢
  rw [← hdn, ← hbn] at LH X K
  clear hdn hbn
  obtain ⟨n, hn⟩ : ∃ n, n = z.length := ⟨_, rfl⟩
  have HN := Lib.hid hn
  rw [← hn] at hz AP ⊢
  clear hn
  go_enter Try.func31, Try.ntmps31
  go_wp2_with fail
  refine K.out.mono ?_
  rintro e w1 ⟨b, rfl, H, b1⟩
  have B1 := Lib.hid (chain LH.out b1)
  have X1 := X.out.later b1
  have x0 := X1.cells 0 _ rfl
  have x1 := X1.cells 1 _ rfl
  clear b1 X1
  cases b
  · have NO := Lib.hid (show ¬ AptP T g z from fun r => by cases (H.2 r.1))
    clear H
    go_wp2
    go_ret
    exact IffB.no NO.out B1.out
  · have Y := Lib.hid (H.1 rfl)
    clear H
    cases hi : inB g 0 2
    · have IB := Lib.hid (fun w' => show Calls _ _ _ _ fun e w'' => e = .returned (.bool false) ∧ w' = w'' from by have := IB w'; rwa [hi] at this)
      have NO := Lib.hid (show ¬ AptP T g z from fun h => by have := h.2.1; rw [hi] at this; cases this)
      clear hi AP
      go_wp2_with fail
      refine (IB.out _).mono ?_
      rintro e w2 ⟨rfl, rfl⟩
      go_wp2
      go_ret
      exact IffB.no NO.out B1.out
    · have IB := Lib.hid (fun w' => show Calls _ _ _ _ fun e w'' => e = .returned (.bool true) ∧ w' = w'' from by have := IB w'; rwa [hi] at this)
      have G0 : 0 ≤ g := (of_decide_eq_true hi).1
      by_cases h7 : n ≤ 7
      · have h7' : decide ((n : Int) ≤ 7) = true := decide_eq_true (by omega)
        have AP := Lib.hid (AP.out Y.out G0)
        have FIN := Lib.hid (show ∀ b : Bool, (b = true ↔ ApN T g (zF z) n) → (b = true ↔ AptP T g z) from fun b hb => by
          rw [hb]
          exact ⟨fun q => ⟨Y.out, hi, by rw [← HN.out]; exact h7, by rw [← HN.out]; exact q⟩, fun q => by rw [HN.out]; exact q.2.2.2⟩)
        clear hi G0 h7
        go_wp2_with fail
        refine (IB.out _).mono ?_
        rintro e w2 ⟨rfl, rfl⟩
        go_wp2_with fail
        refine (AP.out _ B1.out).mono ?_
        rintro e w3 ⟨b, rfl, hb, b3⟩
        have B3 := Lib.hid (chain B1.out b3)
        have F := Lib.hid (FIN.out b hb)
        clear b3 hb
        go_wp2
        go_ret
        exact ⟨b, rfl, F.out, B3.out⟩
      · have h7' : decide ((n : Int) ≤ 7) = false := decide_eq_false (by omega)
        have NO := Lib.hid (show ¬ AptP T g z from fun h => h7 (by rw [HN.out]; exact h.2.2.1))
        clear hi AP G0 h7
        go_wp2_with fail
        refine (IB.out _).mono ?_
        rintro e w2 ⟨rfl, rfl⟩
        go_wp2
        go_ret
        exact IffB.no NO.out B1.out

set_option maxRecDepth 100000 in
set_option maxHeartbeats 4000000 in
theorem fnApart (T : TD) (A : TA) (x : Int) (a : Option Addr) (cap : Nat) (z : List Int) (hzw : ∀ x ∈ z, (Lit.int .i64 x).wf = true) (w : World) (h : TArg w T A) (hw0 : Words w a z) :
    Calls Try.prog 8 #[A.val T, .int .i64 x, .slice a z.length cap] w (Ret (.bool true) w) := by
  have L := Lib.hid (lay w (.cells #[.slice A.da T.dn A.dc, .slice A.ba T.bn A.bc] 25))
  have XH := Lib.hid (BxN.new w #[.slice A.da T.dn A.dc, .slice A.ba T.bn A.bc] 25)
  have SZ := Lib.hid (szT T A 1048576 (by omega) (by omega) _ (h.below L.out))
  by_cases hl : z.length ≤ 1048576
  · by_cases q : 0 ≤ TreeSz T.dn T.bn T.L 1048576
    · have Z := sz_of q (Int.le_refl _)
      have CP := Lib.hid (fun w' (b : Below w.heap.size w w') => toT T A w' Z (h.tin.below b))
      have CI := Lib.hid (fun w' (b : Below w.heap.size w w') => toInt64S a cap z w' (by omega) (hw0.below b))
      have EI := Lib.hid (fun w' p q (K1 : Words w' (some ⟨p, 0, none⟩) z) (K2 : Words w' (some ⟨q, 0, none⟩) z) => eqInt64S (some ⟨p, 0, none⟩) (some ⟨q, 0, none⟩) z.length z.length z w' (by omega) K1 K2)
      have C2 := Lib.hid (fun (B : TA) w' (k : TIn w' T B) => (eqT T · B w' Z · k))
      obtain ⟨ok, hok⟩ := exB (AptP T x z)
      have SP := Lib.hid (fun (B : TA) p w' (k : TIn w' T B) (kw : Words w' (some ⟨p, 0, none⟩) z) => (specApart T B x (some ⟨p, 0, none⟩) z.length z w' Z (by omega) k kw).mono fun _ _ r => IffB.ret hok r)
      have IM := Lib.hid (fun (B : TA) p w' (k : TIn w' T B) (kw : Words w' (some ⟨p, 0, none⟩) z) => (implApart T B x (some ⟨p, 0, none⟩) z.length z w' Z h.wf (by omega) hzw k kw).mono fun _ _ r => IffB.ret hok r)
      clear Z h hok
      generalize TreeSz T.dn T.bn T.L 1048576 = lf at *
      obtain ⟨da, dc, ba, bc, I, C⟩ := A
      dsimp only at L XH SZ CP ⊢
      obtain ⟨dn, hdn⟩ : ∃ dn, dn = T.dn := ⟨_, rfl⟩
      obtain ⟨bn, hbn⟩ : ∃ bn, bn = T.bn := ⟨_, rfl⟩
      have E : ∀ a b c d I C, TA.val ⟨a, b, c, d, I, C⟩ T = tval (.slice a dn b) (.slice c bn d) := fun _ _ _ _ _ _ => by rw [hdn, hbn]
      rw [E] at SZ CP ⊢
      rw [← hdn, ← hbn] at L XH SZ
      clear hdn hbn hw0 hzw
      have hl' : decide ((1048576 : Int) < (z.length : Int)) = false := decide_eq_false (by omega)
      go_enter Try.func8, Try.ntmps8
      go_wp2_with fail
      refine SZ.out.mono ?_
      rintro e w1 ⟨rfl, b1⟩
      have X1 := XH.out.later b1
      have B1 := Lib.hid (chain L.out b1)
      have x0 := X1.cells 0 _ rfl
      have x1 := X1.cells 1 _ rfl
      have X1 := Lib.hid X1
      clear b1
      go_wp2_with fail
      refine (CP.out _ B1.out).mono ?_
      rintro e w2 ⟨⟨a2, c2, d2, e2, I2, C2'⟩, rfl, K2, b2⟩
      have B2 := Lib.hid (chain B1.out b2)
      have X2 := Lib.hid (X1.out.later b2)
      have K2 := Lib.hid K2
      clear b2 x0 x1
      rw [E]
      go_wp2_with fail
      refine (CI.out _ B2.out).mono ?_
      rintro e w3 ⟨p3, rfl, C3⟩
      have B3 := Lib.hid (chain B2.out C3.below)
      have X3 := Lib.hid (X2.out.later C3.below)
      have SP2 := Lib.hid (SP.out _ _ _ (K2.out.below C3.below) C3.words)
      rw [E] at SP2
      clear C3 K2 SP
      go_wp2_with fail
      refine SP2.out.mono ?_
      rintro e w4 ⟨rfl, b4⟩
      have B4 := Lib.hid (chain B3.out b4)
      have X4 := X3.out.later b4
      clear b4
      have x0 := X4.cells 0 _ rfl
      have x1 := X4.cells 1 _ rfl
      have X4 := Lib.hid X4
      go_wp2_with fail
      refine (CP.out _ B4.out).mono ?_
      rintro e w5 ⟨⟨a5, c5, d5, e5, I5, C5⟩, rfl, K5, b5⟩
      have L5 := Lib.hid (lay w5 (.cells #[.slice a5 dn c5, .slice d5 bn e5] 33))
      have Y5 := Lib.hid (BxN.new w5 #[.slice a5 dn c5, .slice d5 bn e5] 33)
      have K5 := Lib.hid (K5.below L5.out)
      have X5 := Lib.hid ((X4.out.later b5).later L5.out)
      have B5 := Lib.hid (chain (chain B4.out b5) L5.out)
      clear b5 x0 x1
      rw [E]
      go_wp2_with fail
      refine (CI.out _ B5.out).mono ?_
      rintro e w6 ⟨p6, rfl, C6⟩
      have B6 := Lib.hid (chain B5.out C6.below)
      have X6 := Lib.hid (X5.out.later C6.below)
      have Y6 := Y5.out.later C6.below
      have K6 := Lib.hid (K5.out.below C6.below)
      have W6 := Lib.hid C6.words
      have IM6 := Lib.hid (IM.out _ _ _ K6.out C6.words)
      rw [E] at IM6
      have y0 := Y6.cells 0 _ rfl
      have y1 := Y6.cells 1 _ rfl
      have Y6 := Lib.hid Y6
      clear C6 IM K5
      go_wp2_with fail
      refine IM6.out.mono ?_
      rintro e w7 ⟨rfl, b7⟩
      have Y7 := Y6.out.later b7
      have X7 := X6.out.later b7
      have K7 := Lib.hid (K6.out.below b7)
      have W7 := Lib.hid (W6.out.below b7)
      have B7 := Lib.hid (chain B6.out b7)
      clear b7 y0 y1
      have x0 := X7.cells 0 _ rfl
      have x1 := X7.cells 1 _ rfl
      have y0 := Y7.cells 0 _ rfl
      have y1 := Y7.cells 1 _ rfl
      have X7 := Lib.hid X7
      have Y7 := Lib.hid Y7
      go_wp2_with fail
      go_region_held3 (fun w' => w'.cell? ⟨w.heap.size, 0, none⟩ = some (.slice da dn dc) ∧ w'.cell? ⟨w.heap.size, 1, none⟩ = some (.slice ba bn bc) ∧ w'.cell? ⟨w5.heap.size, 0, none⟩ = some (.slice a5 dn c5) ∧ w'.cell? ⟨w5.heap.size, 1, none⟩ = some (.slice d5 bn e5)) (go_keep)
        (first
          | (go_at_call 13; refine (CP.out _ B7.out.drew).mono ?_; rintro e w8 ⟨⟨a8, c8, d8, e8, I8, C8⟩, rfl, K8, b8⟩; have b8 := undrew b8; have CC := Lib.hid (C2.out _ _ K8 _ (K7.out.below b8)); rw [E, E] at CC; rw [E]; have B8 := Lib.hid (chain B7.out b8); have X8 := X7.out.later b8; have Y8 := Y7.out.later b8; have W8 := Lib.hid (W7.out.below b8); have r0 := X8.cells 0 _ rfl; have r1 := X8.cells 1 _ rfl; have s0 := Y8.cells 0 _ rfl; have s1 := Y8.cells 1 _ rfl; have X8 := Lib.hid X8; have Y8 := Lib.hid Y8; clear K8 b8)
          | (go_at_call 16; refine CC.out.mono ?_; rintro e w9 ⟨rfl, b9⟩; have B9 := Lib.hid (chain B8.out b9); have X9 := X8.out.later b9; have Y9 := Y8.out.later b9; have W9 := Lib.hid (W8.out.below b9); have t0 := X9.cells 0 _ rfl; have t1 := X9.cells 1 _ rfl; have v0 := Y9.cells 0 _ rfl; have v1 := Y9.cells 1 _ rfl; clear b9))
      all_goals
        go_wp2_with fail
        refine (CI.out _ B9.out).mono ?_
        rintro e w10 ⟨p10, rfl, C10⟩
        have B10 := Lib.hid (chain B9.out C10.below)
        have EQ := Lib.hid (EI.out _ _ _ (W9.out.below C10.below) C10.words)
        clear C10
        go_wp2_with fail
        refine EQ.out.mono ?_
        rintro e w11 ⟨rfl, q, rfl⟩
        go_wp2
        go_ret
        exact ⟨rfl, below_drewN B10.out _⟩
    · clear h
      have q' : TreeSz T.dn T.bn T.L 1048576 < 0 := by omega
      clear q
      generalize TreeSz T.dn T.bn T.L 1048576 = lf at *
      obtain ⟨da, dc, ba, bc, I, C⟩ := A
      dsimp only at L XH SZ ⊢
      obtain ⟨dn, hdn⟩ : ∃ dn, dn = T.dn := ⟨_, rfl⟩
      obtain ⟨bn, hbn⟩ : ∃ bn, bn = T.bn := ⟨_, rfl⟩
      have E : ∀ a b c d I C, TA.val ⟨a, b, c, d, I, C⟩ T = tval (.slice a dn b) (.slice c bn d) := fun _ _ _ _ _ _ => by rw [hdn, hbn]
      rw [E] at SZ ⊢
      rw [← hdn, ← hbn] at L XH SZ
      clear hdn hbn hw0 hzw
      have hl' : decide ((1048576 : Int) < (z.length : Int)) = false := decide_eq_false (by omega)
      go_enter Try.func8, Try.ntmps8
      go_wp2_with fail
      refine SZ.out.mono ?_
      rintro e w1 ⟨rfl, b1⟩
      have B1 := Lib.hid (chain L.out b1)
      clear b1
      go_wp2
      go_ret
      exact ⟨rfl, B1.out⟩
  · clear h SZ hw0 hzw
    obtain ⟨da, dc, ba, bc, I, C⟩ := A
    dsimp only at L XH ⊢
    have hl2 : 1048576 < z.length := by omega
    have hl' : decide ((1048576 : Int) < (z.length : Int)) = true := decide_eq_true (by omega)
    go_enter Try.func8, Try.ntmps8
    go_wp2
    go_ret
    exact ⟨rfl, L.out⟩
theorem lawApart (da : Option Addr) (dn dc : Nat) (f g : Nat → Int) (ba : Option Addr) (bn bc : Nat) (F G : Nat → Int) (I : Nat → Option Addr) (L : Nat → List Int) (C : Nat → Nat) (x : Int) (a : Option Addr) (len cap : Nat) (z : List Int) (w : World) (h : Op.TreeArg w da dn f g ba bn F G I L C) (wx : (Lit.int .i64 x).wf = true) (w0 : z.length = len ∧ Words w a z ∧ ∀ n ∈ z, (Lit.int .i64 n).wf = true) :
    Calls Try.prog 8 #[.agg #[.slice da dn dc, .slice ba bn bc], .int .i64 x, .slice a len cap] w fun e w' => e = .returned (.bool true) ∧ Below w.heap.size w w' := by
  obtain ⟨rfl, hw, hzw⟩ := w0
  exact fnApart ⟨dn, f, g, bn, F, G, L⟩ ⟨da, dc, ba, bc, I, C⟩ x a cap z hzw w (tArg_of h) hw
end Go.Proofs.Ytgfpngjfhmiphaa.Tm
