/-
  The law FnMixSame: the hash of a list of words depends on each word, modulo 2 to the 32.
-/
import Derived.Test.YtbbenadihfhfmaaSrc
import Derived.Test.YtbbenadihfhfmaaInts
import Derived.Deep.RegionWith
namespace Go.Proofs.Ytbbenadihfhfmaa.MixC
open Go.RowKit Go.Proofs.Ytbbenadihfhfmaa.At Go.Proofs.Ytbbenadihfhfmaa.Sr
set_option linter.unusedVariables false

theorem low_add {x d : Int} (h0 : 0 ≤ d) (h1 : d < 60000) : Mx.low (wrap64 (x + (1 + d))) ≠ Mx.low x := by
  unfold Mx.low wrap64; omega
theorem low_far (x : Int) : Mx.low (bits .xor .i64 x 1099511627776) = Mx.low x := by
  unfold Mx.low
  have e : bits .xor .i64 x 1099511627776 % 4294967296 = x % 4294967296 := by
    show IntKind.i64.wrap ((BitVec.ofInt 64 x ^^^ BitVec.ofInt 64 1099511627776).toNat : Int) % 4294967296 = _
    have h2 : (BitVec.ofInt 64 (1099511627776 : Int)).toNat = 2 ^ 40 := by decide
    rw [BitVec.toNat_xor, h2, BitVec.toNat_ofInt, IntKind.wrap_i64]
    have h3 : ((x % ((2 ^ 64 : Nat) : Int)).toNat ^^^ 2 ^ 40) % 2 ^ 32 = (x % ((2 ^ 64 : Nat) : Int)).toNat % 2 ^ 32 := by
      rw [Nat.xor_mod_two_pow]; simp
    omega
  rw [e]

/-- A list of words that the call itself has made. -/
def Own (W0 w : World) (base : Nat) (v : Value) (zs : List Int) : Prop := w.ownsRow base 2 1 v zs.length (zs.map (Value.int .i64)) ∧ Below W0.heap.size W0 w
theorem own_later {w w' : World} {base e size n : Nat} {v : Value} {xs : List Value} (h : w.ownsRow base e size v n xs) (hb : Below w.heap.size w w') : w'.ownsRow base e size v n xs :=
  h.kept (row := none) ⟨hb.os, hb.tape, hb.output, hb.size, fun k hk _ => hb.block k hk⟩ (by cases v.ownBlock <;> simp)

theorem nums_own {w : World} {base g cap : Nat} {e : TypeId} {zs : List Int} (h : w.ownsRow base e 1 (.slice (some ⟨g, 0, none⟩) zs.length cap) zs.length (zs.map (Value.int .i64))) : Nums w g 0 zs := fun i hi => by
  rw [Nat.zero_add, h.cellAt i (by omega), List.getElem?_map, List.getD_eq_getElem?_getD, List.getElem?_eq_getElem hi]; rfl
theorem nums_set {w : World} {base g cap k : Nat} {y : Int} {e : TypeId} {zs : List Int} (h : w.ownsRow base e 1 (.slice (some ⟨g, 0, none⟩) zs.length cap) zs.length ((zs.map (Value.int .i64)).set k (.int .i64 y))) : Nums w g 0 (zs.set k y) := fun i hi => by
  have hi' : i < zs.length := by simpa using hi
  rw [Nat.zero_add, h.cellAt i (by omega), ← List.map_set, List.getElem?_map, List.getD_eq_getElem?_getD, List.getElem?_eq_getElem hi]; rfl

set_option maxRecDepth 100000 in
set_option maxHeartbeats 2000000 in
theorem fnMixSame (a : Option Addr) (len cap : Nat) (z : List Int) (w : World) (w0 : IsRow .u8 w a len cap z) :
    Calls Try.prog 4 #[.slice a len cap] w fun e w' => e = .returned (.bool true) ∧ Below w.heap.size w w' := by
  have hf := w0.byts
  have hnil : a = none → len = 0 ∧ cap = 0 := by
    intro ha
    rcases w0 with ⟨_, h1, h2, _⟩ | ⟨x, hx, _⟩
    · exact ⟨h1, h2⟩
    · rw [ha] at hx; cases hx
  have HNIL := Lib.hid hnil
  generalize (fun i => z.getD i 0) = f at hf
  clear w0 hnil
  obtain ⟨j0, hi, hz0, hz1, hz2⟩ := info_parts info2
  by_cases hl : len ≤ 1048576
  · have R0 : (w.alloc (.cells #[] 2)).ownsRow w.heap.size 2 1 (.slice (some ⟨w.heap.size, 0, none⟩) 0 0) 0 [] := World.ownsRow_made _ _ _ (Nat.le_refl _) (by unfold maxLen; omega) (by simp)
    have B0 : Below w.heap.size w (w.alloc (.cells #[] 2)) := (Below.refl _ _).alloc (Nat.le_refl _) _
    go_enter Try.func4, Try.ntmps4
    go_wp2
    go_loopw [3, 4] (fun v i wr => ∃ zs : List Int, i = .int .i64 zs.length ∧ zs.length ≤ 6 ∧ Own w wr w.heap.size v zs) (fun _ i _ => 6 - (intOf i).toNat)
    case atStart => exact ⟨[], rfl, by simp, R0, B0⟩
    case round =>
      obtain ⟨zs, rfl, h6, hO, hB⟩ := hrel
      clear R0 B0
      have HO := Lib.hid hO
      clear hO
      have hf1 := hf.below hB
      go_wp2_with fail
      refine (a8At a len cap f 0 6 _ hf1 (by omega) (by omega) (by omega) (by omega)).mono ?_
      rintro e w1 ⟨⟨r, r0, r1, rfl⟩, q1, rfl⟩
      by_cases hle : (zs.length : Int) ≤ r
      · have hB2 := below_drewN (Below.refl wr.heap.size wr) q1
        have hf2 := hf1.below hB2
        go_wp2_with fail
        refine (a8Mix zs.length (by omega) (by omega) a len cap f (by omega) _ hf2 HNIL.out).mono ?_
        rintro e w2 ⟨a2, cap2, f2, rfl, hf3, hB3⟩
        go_wp2_with fail
        refine (A8Number a2 (len + 1) cap2 f2 (by omega) _ hf3).mono ?_
        rintro e w3 ⟨⟨x, x0, x1, rfl⟩, hB4⟩
        have hBB : Below wr.heap.size wr w3 := (hB2.trans (hB3.mono (by simp))).trans (hB4.mono (by have := hB3.size; simpa using this))
        have hO3 := own_later HO.out hBB
        have hB5 : Below w.heap.size w w3 := hB.trans (hBB.mono hB.size)
        have hs5 := hB5.size
        clear hB2 hf2 hB3 hB4 hBB hf1 hf3
        go_wp2_with (at_builtin; refine wpList_append_own _ rfl (.tmp 19) (.tmp 24) 35 rfl w.heap.size 2 j0 (.int .i64 0) 1 8 Try.underlying35 hi hz0 hz1 hz2 rfl (by decide) u3 zs.length (zs.map (Value.int .i64)) rfl (hO3.alloc _) ⟨w3.heap.size, 0, none⟩ 1 1 [.int .i64 x] rfl rfl (cell_one_new _ _ _) (by intro u hu; simp at hu; subst hu; rfl) (by unfold maxLen; omega) (by omega) (by simp; omega) ?_; intro v' w' ho' hg' _)
        have R : Own w w' w.heap.size v' (zs ++ [x]) := ⟨by rw [List.length_append, List.map_append]; exact ho', (hB5.alloc hs5 _).grown hg' (by simp; omega) (fun k hk => (hO3.lt k hk).1)⟩
        clear ho' hg' hO3 hB5
        go_wp2
        go_roundw
        case rel => exact ⟨zs ++ [x], by simp, by simp; omega, R⟩
        case measure => simp [intOf]; omega
      · have hne : 0 < zs.length := by omega
        have hO1 : (wr.drewN q1).ownsRow w.heap.size 2 1 u3 zs.length (zs.map (Value.int .i64)) := HO.out
        obtain ⟨g, cg, hv, hg1, hg2⟩ := hO1.form hne
        subst hv
        clear HO
        have hB2 := below_drewN hB q1
        have hf2 := hf1.below (below_drewN (Below.refl wr.heap.size wr) q1)
        generalize wr.drewN q1 = w1 at *
        clear hB hf1
        have HO1 := Lib.hid hO1
        clear hO1
        go_wp2_with fail
        refine (a8At a len cap f 1 zs.length _ hf2 (by omega) (by omega) (by omega) (by omega)).mono ?_
        rintro e w2 ⟨⟨kk, k0, k1, rfl⟩, q2, rfl⟩
        obtain ⟨k, rfl⟩ := Int.eq_ofNat_of_zero_le k0
        have hB3 := below_drewN hB2 q2
        have hf3 := hf2.below (below_drewN (Below.refl w1.heap.size w1) q2)
        have hO2 : (w1.drewN q2).ownsRow w.heap.size 2 1 (.slice (some ⟨g, 0, none⟩) zs.length cg) zs.length (zs.map (Value.int .i64)) := HO1.out
        have hg3 : g < (w1.drewN q2).heap.size := hg2
        clear hf2 hB2 HO1 hg2
        generalize w1.drewN q2 = w2 at *
        have E1 : (w2.alloc (.cells #[] 2)).ownsRow w2.heap.size 2 1 (.slice (some ⟨w2.heap.size, 0, none⟩) 0 0) 0 [] := World.ownsRow_made _ _ _ (Nat.le_refl _) (by unfold maxLen; omega) (by simp)
        have N1 := (own_later hO2 ((Below.refl _ _).alloc (Nat.le_refl _) (.cells #[] 2))).cells (g := g) rfl
        have hml : (zs.map (Value.int IntKind.i64)).length = zs.length := by simp
        have HO2 := Lib.hid hO2
        have HB3 := Lib.hid hB3
        have HF3 := Lib.hid hf3
        clear hO2 hB3 hf3
        go_wp2_with (at_builtin; refine wpList_append_own _ rfl (.tmp 30) (.tmp 31) 35 rfl w2.heap.size 2 j0 (.int .i64 0) 1 8 Try.underlying35 hi hz0 hz1 hz2 rfl (by decide) (.slice (some ⟨w2.heap.size, 0, none⟩) 0 0) 0 [] rfl E1 ⟨g, 0, none⟩ zs.length cg (zs.map (Value.int .i64)) rfl (by simp) N1 (by intro u hu; obtain ⟨y, _, rfl⟩ := List.mem_map.1 hu; rfl) (by unfold maxLen; omega) (by omega) (by simp) ?_; intro v2 w3 ho2 hgr2 _)
        have hB6 : Below w2.heap.size w2 w3 := ((Below.refl _ _).alloc (Nat.le_refl _) _).grown hgr2 (by simp) (fun k hk => (E1.lt k hk).1)
        have ho3 : w3.ownsRow w2.heap.size 2 1 v2 zs.length (zs.map (Value.int .i64)) := by simpa using ho2
        obtain ⟨g2, c2, hv2, hg21, hg22⟩ := ho3.form hne
        subst hv2
        have hkl : k < zs.length := by omega
        have hf4 := HF3.out.below hB6
        have HD := Lib.hid (fun q => hf4.below (below_drewN (Below.refl w3.heap.size w3) q))
        have hcl : ∀ q, (w3.drewN q).cell? ⟨g2, k, none⟩ = some (.int .i64 (zs.getD k 0)) := fun q => by
          rw [(own_later ho3 (below_drewN (Below.refl _ _) q)).cellAt k (by omega), List.getElem?_map, List.getD_eq_getElem?_getD, List.getElem?_eq_getElem hkl]; rfl
        have hfr : ∀ q, (w3.drewN q).frozen? ⟨g2, k, none⟩ = false := fun q => (own_later ho3 (below_drewN (Below.refl _ _) q)).frozenAt k
        have hcl0 : w3.cell? ⟨g2, k, none⟩ = some (.int .i64 (zs.getD k 0)) := hcl 0
        have hfr0 : w3.frozen? ⟨g2, k, none⟩ = false := hfr 0
        have HO3 := Lib.hid ho3
        have HB6 := Lib.hid hB6
        clear ho3 ho2 hgr2 hB6 hf4
        obtain ⟨x, hx⟩ : ∃ x, zs.getD k 0 = x := ⟨_, rfl⟩
        simp only [hx] at hcl hcl0
        have HX := Lib.hid hx
        clear hx
        go_region_with (go_at_call 23; refine (a8At a len cap f 2 60000 _ (by first | exact HD.out 1 | exact HD.out 0 | exact HD.out 2) (by omega) (by omega) (by omega) (by omega)).mono ?_; rintro e w4 ⟨⟨d, d0, d1, rfl⟩, q4, rfl⟩)
        all_goals (
          have hlow : Mx.low (IntKind.i64.wrap (x + IntKind.i64.wrap (1 + d))) ≠ Mx.low x := by
            simp only [IntKind.wrap_i64]; unfold Mx.low; try unfold wrap64
            omega
          have hB7 : Below w2.heap.size w2 ((w3.drewN (1 + q4)).setCell ⟨g2, k, none⟩ (.int .i64 (IntKind.i64.wrap (x + IntKind.i64.wrap (1 + d))))) := (below_drewN HB6.out (1 + q4)).setCell hg21 _
          have hO7 := ((own_later HO3.out (below_drewN (Below.refl _ _) (1 + q4))).stored k (.int .i64 (IntKind.i64.wrap (x + IntKind.i64.wrap (1 + d))))).1
          generalize (w3.drewN (1 + q4)).setCell ⟨g2, k, none⟩ (.int .i64 (IntKind.i64.wrap (x + IntKind.i64.wrap (1 + d)))) = w5 at *
          generalize IntKind.i64.wrap (x + IntKind.i64.wrap (1 + d)) = y at *
          clear hcl hcl0 hfr hfr0 HD HO3 HB6
          have hOw := own_later HO2.out hB7
          have E2 : (w5.alloc (.cells #[] 2)).ownsRow w5.heap.size 2 1 (.slice (some ⟨w5.heap.size, 0, none⟩) 0 0) 0 [] := World.ownsRow_made _ _ _ (Nat.le_refl _) (by unfold maxLen; omega) (by simp)
          have N2 := (own_later hOw ((Below.refl _ _).alloc (Nat.le_refl _) (.cells #[] 2))).cells (g := g) rfl
          have HLOW := Lib.hid hlow
          have HB7 := Lib.hid hB7
          have HO7 := Lib.hid hO7
          have HOW := Lib.hid hOw
          clear hlow hB7 hO7 hOw
          go_wp2_with (at_builtin; refine wpList_append_own _ rfl (.tmp 42) (.tmp 43) 35 rfl w5.heap.size 2 j0 (.int .i64 0) 1 8 Try.underlying35 hi hz0 hz1 hz2 rfl (by decide) (.slice (some ⟨w5.heap.size, 0, none⟩) 0 0) 0 [] rfl E2 ⟨g, 0, none⟩ zs.length cg (zs.map (Value.int .i64)) rfl (by simp) N2 (by intro u hu; obtain ⟨y, _, rfl⟩ := List.mem_map.1 hu; rfl) (by unfold maxLen; omega) (by omega) (by simp) ?_; intro v6 w6 ho6 hgr6 _)
          have hB8 : Below w5.heap.size w5 w6 := ((Below.refl _ _).alloc (Nat.le_refl _) _).grown hgr6 (by simp) (fun k hk => (E2.lt k hk).1)
          have ho8 : w6.ownsRow w5.heap.size 2 1 v6 zs.length (zs.map (Value.int .i64)) := by simpa using ho6
          obtain ⟨g6, c6, hv6, hg61, hg62⟩ := ho8.form hne
          subst hv6
          have hcl : w6.cell? ⟨g6, k, none⟩ = some (.int .i64 x) := by
            rw [ho8.cellAt k (by omega), List.getElem?_map, ← HX.out, List.getD_eq_getElem?_getD, List.getElem?_eq_getElem hkl]; rfl
          have hfr : w6.frozen? ⟨g6, k, none⟩ = false := ho8.frozenAt k
          have HO8 := Lib.hid ho8
          have HB8 := Lib.hid hB8
          clear ho6 hgr6 ho8 hB8
          have e : (0 : Int) ≤ (k : Int) ∧ (k : Int) < (zs.length : Int) := by omega
          go_simp
          go_wp2_with fail
          have hB9 : Below w5.heap.size w5 (w6.setCell ⟨g6, k, none⟩ (.int .i64 (bits .xor .i64 x 1099511627776))) := HB8.out.setCell hg61 _
          have hBB : Below w.heap.size w (w6.setCell ⟨g6, k, none⟩ (.int .i64 (bits .xor .i64 x 1099511627776))) := by
            have s3 := HB3.out.size
            have s7 := HB7.out.size
            exact (HB3.out.trans (HB7.out.mono s3)).trans (hB9.mono (by omega))
          have N0 := nums_own (own_later HOW.out hB9)
          have N1 := nums_set (own_later HO7.out hB9)
          have N3 := nums_set (HO8.out.stored k (.int .i64 (bits .xor .i64 x 1099511627776))).1
          have hgx : zs[k] = x := by rw [← HX.out, List.getD_eq_getElem?_getD, List.getElem?_eq_getElem hkl]; rfl
          have hne1 : Mx.mix (zs.set k y) ≠ Mx.mix zs := fun h => HLOW.out (by rw [(Mx.mix_set zs k hkl y).1 h, hgx])
          have heq2 : Mx.mix (zs.set k (bits .xor .i64 x 1099511627776)) = Mx.mix zs := (Mx.mix_set zs k hkl _).2 (by rw [hgx]; exact low_far x)
          have hlt := Mx.mix_lt zs
          have C0 := implMix g 0 cg zs _ (by omega) N0
          have C1 := implMix g2 0 c2 (zs.set k y) _ (by simp; omega) N1
          have C2 := implMix g6 0 c6 (zs.set k (bits .xor .i64 x 1099511627776)) _ (by simp; omega) N3
          simp only [List.length_set] at C1 C2
          rw [heq2] at C2
          generalize w6.setCell ⟨g6, k, none⟩ (.int .i64 (bits .xor .i64 x 1099511627776)) = w9 at *
          generalize Mx.mix (zs.set k y) = m1 at *
          generalize Mx.mix zs = m at *
          have CC1 := Lib.hid C1
          have CC2 := Lib.hid C2
          have HBB := Lib.hid hBB
          clear N0 N1 N3 heq2 hB9 hBB C1 C2 hcl hfr HO8 HB8 HOW HO7 HB7 HLOW E2 N2 hgx
          have m0 : (0 : Int) ≤ (m : Int) := by omega
          have mlt : (m : Int) < 4294967296 := by omega
          have mne : (m1 : Int) ≠ (m : Int) := by omega
          have hb : ((m1 : Int) != (m : Int)) = true := bne_iff_ne.2 mne
          refine C0.mono ?_
          rintro e' w' ⟨rfl, rfl⟩
          go_wp2_with fail
          refine CC1.out.mono ?_
          rintro e' w' ⟨rfl, rfl⟩
          go_wp2_with fail
          refine CC2.out.mono ?_
          rintro e' w' ⟨rfl, rfl⟩
          go_wp2
          all_goals go_ret
          all_goals first
            | exact ⟨rfl, HBB.out⟩
            | (refine ⟨?_, HBB.out⟩; show Ending.returned (Value.bool ((m1 : Int) != (m : Int))) = Ending.returned (Value.bool true); rw [hb]))
  · go_enter Try.func4, Try.ntmps4
    go_wp2
    go_ret
    exact ⟨rfl, Below.refl _ _⟩
end Go.Proofs.Ytbbenadihfhfmaa.MixC
