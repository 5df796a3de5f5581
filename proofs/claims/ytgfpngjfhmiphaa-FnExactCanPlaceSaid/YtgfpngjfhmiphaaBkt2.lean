/-
  A bucket copied and compared by the laws' own helpers.
-/
import Derived.Test.YtgfpngjfhmiphaaBkts
import Derived.Test.YtgfpngjfhmiphaaMatLaw
namespace Go.Proofs.Ytgfpngjfhmiphaa.Bk
open Go.RowKit Go.Proofs.Ytgfpngjfhmiphaa.At Go.Proofs.Ytgfpngjfhmiphaa.MixC Go.Proofs.Ytgfpngjfhmiphaa.Ml
set_option linter.unusedVariables false

set_option maxRecDepth 100000 in
theorem toBucket (h wd : Int) (a : Option Addr) (cap : Nat) (zs : List Int) (w : World) (hl : zs.length ≤ 2097152) (hc : Words w a zs) :
    Calls Try.prog 97 #[mval h wd (.slice a zs.length cap)] w (MatCopy h wd zs w) := by
  obtain ⟨n, hn⟩ : ∃ n, n = zs.length := ⟨_, rfl⟩
  have hc2 : ∀ w', Below w.heap.size w w' → Words w' a zs := fun w' b => hc.below b
  have HC := Lib.hid hc2
  clear hc2 hc
  have C := Lib.hid (fun w' (b : Below w.heap.size w w') => toInt64S a cap zs w' hl (HC.out w' b))
  have FIN : ∀ g e w', e = Ending.returned (mval h wd (.slice (some ⟨g, 0, none⟩) n n)) → Copied w w' g zs → MatCopy h wd zs w e w' := by
    intro g e w' h1 h2; rw [hn] at h1; exact ⟨g, h1, h2⟩
  have FIN := Lib.hid FIN
  rw [← hn] at C ⊢
  have HN := Lib.hid hn
  clear HC hn
  go_enter Try.func97, Try.ntmps97
  go_wp2_with fail
  have b0 : Below w.heap.size w (((w.alloc (Obj.cells #[Value.int IntKind.i64 h, Value.int IntKind.i64 wd, Value.slice a n cap] 131)).alloc (Obj.cells #[Value.int IntKind.i64 0, Value.int IntKind.i64 0, Value.slice none 0 0] 133)).alloc (Obj.cells #[Value.int IntKind.i64 h, Value.int IntKind.i64 wd, Value.slice none 0 0] 133)) :=
    (((Below.refl _ _).alloc (Nat.le_refl _) _).alloc (by simp) _).alloc (by simp; omega) _
  refine (C.out _ b0).mono ?_
  rintro e w1 ⟨g, rfl, K⟩
  have r1 := box3 K.below
  have r2 := box3' K.below
  have kn := K.new
  simp only [World.size_alloc] at r1 r2 kn
  obtain ⟨c0, c1, c2, f0, f1, f2⟩ := r1
  obtain ⟨d0, d1, d2, k0, k1, k2⟩ := r2
  have K' := Lib.hid (cfrom K b0)
  have HN2 := Lib.hid HN.out.symm
  rw [HN2.out]
  clear K b0
  go_wp2
  refine bodyPost_ret (v := mval h wd (.slice (some ⟨g, 0, none⟩) n n)) (by simp [results, Try.results97, go_sem, *]) rfl (FIN.out g _ _ rfl ?_)
  exact cset (cset (cset (cset K'.out (by show w.heap.size + 1 + 1 ≠ g; omega) (by show _ ≤ w.heap.size + 1 + 1; omega) _) (by show w.heap.size + 1 ≠ g; omega) (by show _ ≤ w.heap.size + 1; omega) _) (by show w.heap.size + 1 ≠ g; omega) (by show _ ≤ w.heap.size + 1; omega) _) (by show w.heap.size + 1 ≠ g; omega) (by show _ ≤ w.heap.size + 1; omega) _


set_option maxRecDepth 100000 in
theorem eqBucket (h wd : Int) (a b : Option Addr) (cap1 cap2 : Nat) (zs : List Int) (w : World) (hl : zs.length ≤ 2097152) (ha : Words w a zs) (hb : Words w b zs) :
    Calls Try.prog 104 #[mval h wd (.slice a zs.length cap1), mval h wd (.slice b zs.length cap2)] w (TrueB w) := by
  have C := Lib.hid (fun w' (x : Below w.heap.size w w') => eqInt64S a b cap1 cap2 zs w' hl (ha.below x) (hb.below x))
  obtain ⟨n, hn⟩ : ∃ n, n = zs.length := ⟨_, rfl⟩
  rw [← hn] at C ⊢
  clear ha hb hn hl
  have b0 : ∀ x y, Below w.heap.size w ((w.alloc x).alloc y) := fun x y => ((Below.refl _ _).alloc (Nat.le_refl _) _).alloc (by simp) _
  have B0 := Lib.hid b0
  clear b0
  go_enter Try.func104, Try.ntmps104
  go_wp2_with fail
  refine (C.out _ (B0.out _ _)).mono ?_
  rintro e w1 ⟨rfl, q, rfl⟩
  go_wp2
  go_ret
  exact ⟨rfl, below_drewN (B0.out _ _) q⟩

end Go.Proofs.Ytgfpngjfhmiphaa.Bk
