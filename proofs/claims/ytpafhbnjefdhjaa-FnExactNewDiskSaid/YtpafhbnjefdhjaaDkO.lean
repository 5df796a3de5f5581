/-
  A disk copied, in the model.
-/
import Derived.Test.YtpafhbnjefdhjaaOwnG
import Derived.Test.YtpafhbnjefdhjaaDkG
import Derived.Deep.RegionHeld3
namespace Go.Proofs.Ytpafhbnjefdhjaa.Rd
open Go.RowKit Go.ChangeShapes Go.WideShapes Go.Proofs.Ytpafhbnjefdhjaa.GfI Go.Proofs.Ytpafhbnjefdhjaa.GfS
open Go.Proofs.Ytpafhbnjefdhjaa.Sg (BxN)
set_option linter.unusedVariables false
set_option linter.unusedSimpArgs false

set_option maxRecDepth 100000 in
set_option maxHeartbeats 40000000 in
theorem specL14Own (d : DDisk) (a0 : Option Addr) (c0 : Nat) (a1 : Option Addr) (c1 : Nat) (w : World) (hn : d.sectors.length ≤ 1000000) (hm : d.waits.length ≤ 1000000) (r : Rw2 w d a0 a1) :
    Calls Try.prog 65 #[.agg #[.slice a0 d.sectors.length c0, .slice a1 d.waits.length c1]] w (AnsW d w) := by
  have L := Lib.hid (chain (lay w (.cells #[.slice a0 d.sectors.length c0, .slice a1 d.waits.length c1] 30)) (lay _ (.cells #[.slice none 0 0, .slice none 0 0] 30)))
  have X := Lib.hid ((BxN.new w #[.slice a0 d.sectors.length c0, .slice a1 d.waits.length c1] 30).later (lay _ (.cells #[.slice none 0 0, .slice none 0 0] 30)))
  have Y0 := BxN.new (w.alloc (.cells #[.slice a0 d.sectors.length c0, .slice a1 d.waits.length c1] 30)) #[.slice none 0 0, .slice none 0 0] 30
  rw [World.size_alloc] at Y0
  have Y := Lib.hid Y0
  have SZ := Lib.hid (show ((w.alloc (.cells #[.slice a0 d.sectors.length c0, .slice a1 d.waits.length c1] 30)).alloc (.cells #[.slice none 0 0, .slice none 0 0] 30)).heap.size = w.heap.size + 1 + 1 from by simp)
  have S0 : (((w.alloc (.cells #[.slice a0 d.sectors.length c0, .slice a1 d.waits.length c1] 30)).alloc (.cells #[.slice none 0 0, .slice none 0 0] 30))).heap.size = w.heap.size + 1 + 1 := SZ.out
  have JA := OwnL.made (α := ByteArray) 9 (w.heap.size + 1 + 1) ((w.alloc (.cells #[.slice a0 d.sectors.length c0, .slice a1 d.waits.length c1] 30)).alloc (.cells #[.slice none 0 0, .slice none 0 0] 30)) (by rw [S0]; exact Nat.le_refl _)
  have JC0 := OwnL.made (α := DPending) 63 (w.heap.size + 1 + 1) ((w.alloc (.cells #[.slice a0 d.sectors.length c0, .slice a1 d.waits.length c1] 30)).alloc (.cells #[.slice none 0 0, .slice none 0 0] 30)) (by rw [S0]; exact Nat.le_refl _)
  have JB2 := OwnL.made (α := DPending) 63 (w.heap.size + 1 + 1) (((w.alloc (.cells #[.slice a0 d.sectors.length c0, .slice a1 d.waits.length c1] 30)).alloc (.cells #[.slice none 0 0, .slice none 0 0] 30)).alloc (.cells #[] 9)) (by rw [World.size_alloc, S0]; omega)
  have JC1 := OwnL.made (α := ByteArray) 9 (w.heap.size + 1 + 1) (((w.alloc (.cells #[.slice a0 d.sectors.length c0, .slice a1 d.waits.length c1] 30)).alloc (.cells #[.slice none 0 0, .slice none 0 0] 30)).alloc (.cells #[] 63)) (by rw [World.size_alloc, S0]; omega)
  rw [World.size_alloc] at JB2 JC1
  rw [S0] at JA JC0 JB2 JC1
  have JB1 := JA.alloc (.cells #[] 63)
  have JC2 := JC0.alloc (.cells #[] 9)
  have SA : (((w.alloc (.cells #[.slice a0 d.sectors.length c0, .slice a1 d.waits.length c1] 30)).alloc (.cells #[.slice none 0 0, .slice none 0 0] 30)).alloc (.cells #[] 9)).heap.size = w.heap.size + 1 + 1 + 1 := by rw [World.size_alloc, S0]
  have SB : ((((w.alloc (.cells #[.slice a0 d.sectors.length c0, .slice a1 d.waits.length c1] 30)).alloc (.cells #[.slice none 0 0, .slice none 0 0] 30)).alloc (.cells #[] 9)).alloc (.cells #[] 63)).heap.size = w.heap.size + 1 + 1 + 1 + 1 := by rw [World.size_alloc, SA]
  have SC0 : (((w.alloc (.cells #[.slice a0 d.sectors.length c0, .slice a1 d.waits.length c1] 30)).alloc (.cells #[.slice none 0 0, .slice none 0 0] 30)).alloc (.cells #[] 63)).heap.size = w.heap.size + 1 + 1 + 1 := by rw [World.size_alloc, S0]
  have SC : ((((w.alloc (.cells #[.slice a0 d.sectors.length c0, .slice a1 d.waits.length c1] 30)).alloc (.cells #[.slice none 0 0, .slice none 0 0] 30)).alloc (.cells #[] 63)).alloc (.cells #[] 9)).heap.size = w.heap.size + 1 + 1 + 1 + 1 := by rw [World.size_alloc, SC0]
  have KA1 := Lib.hid (show OwnL 9 (w.heap.size + 1 + 1) (((w.alloc (.cells #[.slice a0 d.sectors.length c0, .slice a1 d.waits.length c1] 30)).alloc (.cells #[.slice none 0 0, .slice none 0 0] 30)).alloc (.cells #[] 9)).drew _ ([] : List ByteArray) from JA)
  have KB1 := Lib.hid (show OwnL 9 (w.heap.size + 1 + 1) ((((w.alloc (.cells #[.slice a0 d.sectors.length c0, .slice a1 d.waits.length c1] 30)).alloc (.cells #[.slice none 0 0, .slice none 0 0] 30)).alloc (.cells #[] 9)).alloc (.cells #[] 63)).drew _ ([] : List ByteArray) from JB1)
  have KC1 := Lib.hid (show OwnL 9 (w.heap.size + 1 + 1) ((((w.alloc (.cells #[.slice a0 d.sectors.length c0, .slice a1 d.waits.length c1] 30)).alloc (.cells #[.slice none 0 0, .slice none 0 0] 30)).alloc (.cells #[] 63)).alloc (.cells #[] 9)).drew _ ([] : List ByteArray) from JC1)
  have KB2 := (show OwnL 63 (w.heap.size + 1 + 1) ((((w.alloc (.cells #[.slice a0 d.sectors.length c0, .slice a1 d.waits.length c1] 30)).alloc (.cells #[.slice none 0 0, .slice none 0 0] 30)).alloc (.cells #[] 9)).alloc (.cells #[] 63)).drew _ ([] : List DPending) from JB2)
  have KC2 := (show OwnL 63 (w.heap.size + 1 + 1) ((((w.alloc (.cells #[.slice a0 d.sectors.length c0, .slice a1 d.waits.length c1] 30)).alloc (.cells #[.slice none 0 0, .slice none 0 0] 30)).alloc (.cells #[] 63)).alloc (.cells #[] 9)).drew _ ([] : List DPending) from JC2)
  have LA := Lib.hid ((chain L.out (lay _ (.cells #[] 9))).drew)
  have LB := Lib.hid ((chain (chain L.out (lay _ (.cells #[] 9))) (lay _ (.cells #[] 63))).drew)
  have LC := Lib.hid ((chain (chain L.out (lay _ (.cells #[] 63))) (lay _ (.cells #[] 9))).drew)
  have b1 : Below (w.heap.size + 1 + 1) ((w.alloc (.cells #[.slice a0 d.sectors.length c0, .slice a1 d.waits.length c1] 30)).alloc (.cells #[.slice none 0 0, .slice none 0 0] 30)) (((w.alloc (.cells #[.slice a0 d.sectors.length c0, .slice a1 d.waits.length c1] 30)).alloc (.cells #[.slice none 0 0, .slice none 0 0] 30)).alloc (.cells #[] 9)) := by have := lay ((w.alloc (.cells #[.slice a0 d.sectors.length c0, .slice a1 d.waits.length c1] 30)).alloc (.cells #[.slice none 0 0, .slice none 0 0] 30)) (.cells #[] 9); rw [S0] at this; exact this
  have b2 : Below (w.heap.size + 1 + 1) ((w.alloc (.cells #[.slice a0 d.sectors.length c0, .slice a1 d.waits.length c1] 30)).alloc (.cells #[.slice none 0 0, .slice none 0 0] 30)) (((w.alloc (.cells #[.slice a0 d.sectors.length c0, .slice a1 d.waits.length c1] 30)).alloc (.cells #[.slice none 0 0, .slice none 0 0] 30)).alloc (.cells #[] 63)) := by have := lay ((w.alloc (.cells #[.slice a0 d.sectors.length c0, .slice a1 d.waits.length c1] 30)).alloc (.cells #[.slice none 0 0, .slice none 0 0] 30)) (.cells #[] 63); rw [S0] at this; exact this
  have b12 : Below (w.heap.size + 1 + 1) ((w.alloc (.cells #[.slice a0 d.sectors.length c0, .slice a1 d.waits.length c1] 30)).alloc (.cells #[.slice none 0 0, .slice none 0 0] 30)) ((((w.alloc (.cells #[.slice a0 d.sectors.length c0, .slice a1 d.waits.length c1] 30)).alloc (.cells #[.slice none 0 0, .slice none 0 0] 30)).alloc (.cells #[] 9)).alloc (.cells #[] 63)) := b1.trans (by have := lay (((w.alloc (.cells #[.slice a0 d.sectors.length c0, .slice a1 d.waits.length c1] 30)).alloc (.cells #[.slice none 0 0, .slice none 0 0] 30)).alloc (.cells #[] 9)) (.cells #[] 63); rw [SA] at this; exact this.mono (by omega))
  have b21 : Below (w.heap.size + 1 + 1) ((w.alloc (.cells #[.slice a0 d.sectors.length c0, .slice a1 d.waits.length c1] 30)).alloc (.cells #[.slice none 0 0, .slice none 0 0] 30)) ((((w.alloc (.cells #[.slice a0 d.sectors.length c0, .slice a1 d.waits.length c1] 30)).alloc (.cells #[.slice none 0 0, .slice none 0 0] 30)).alloc (.cells #[] 63)).alloc (.cells #[] 9)) := b2.trans (by have := lay (((w.alloc (.cells #[.slice a0 d.sectors.length c0, .slice a1 d.waits.length c1] 30)).alloc (.cells #[.slice none 0 0, .slice none 0 0] 30)).alloc (.cells #[] 63)) (.cells #[] 9); rw [SC0] at this; exact this.mono (by omega))
  have BA := Lib.hid b1.drew
  have BB := Lib.hid b12.drew
  have BC := Lib.hid b21.drew
  -- behind the first append
  have GA := Lib.hid (fun (w3 : World) (g : ((((w.alloc (.cells #[.slice a0 d.sectors.length c0, .slice a1 d.waits.length c1] 30)).alloc (.cells #[.slice none 0 0, .slice none 0 0] 30)).alloc (.cells #[] 9)).drew).grownBy w3 (Value.slice (some ⟨w.heap.size + 1 + 1, 0, none⟩) 0 0).ownBlock) => (show Below w.heap.size w w3 ∧ Below (w.heap.size + 1 + 1) ((w.alloc (.cells #[.slice a0 d.sectors.length c0, .slice a1 d.waits.length c1] 30)).alloc (.cells #[.slice none 0 0, .slice none 0 0] 30)) w3 ∧ (w.heap.size + 1 + 1 + 1 ≤ w3.heap.size) from
    ⟨LA.out.grown g (by show _ ≤ (((w.alloc (.cells #[.slice a0 d.sectors.length c0, .slice a1 d.waits.length c1] 30)).alloc (.cells #[.slice none 0 0, .slice none 0 0] 30)).alloc (.cells #[] 9)).heap.size; rw [SA]; omega) (fun k hk => by cases hk; dsimp only; omega), BA.out.grown g (by show _ ≤ (((w.alloc (.cells #[.slice a0 d.sectors.length c0, .slice a1 d.waits.length c1] 30)).alloc (.cells #[.slice none 0 0, .slice none 0 0] 30)).alloc (.cells #[] 9)).heap.size; rw [SA]; omega) (fun k hk => by cases hk; dsimp only; omega), by have : (((w.alloc (.cells #[.slice a0 d.sectors.length c0, .slice a1 d.waits.length c1] 30)).alloc (.cells #[.slice none 0 0, .slice none 0 0] 30)).alloc (.cells #[] 9)).heap.size ≤ _ := g.size; rw [SA] at this; omega⟩))
  have GB := Lib.hid (fun (w3 : World) (g : (((((w.alloc (.cells #[.slice a0 d.sectors.length c0, .slice a1 d.waits.length c1] 30)).alloc (.cells #[.slice none 0 0, .slice none 0 0] 30)).alloc (.cells #[] 9)).alloc (.cells #[] 63)).drew).grownBy w3 (Value.slice (some ⟨w.heap.size + 1 + 1, 0, none⟩) 0 0).ownBlock) => (show (Below w.heap.size w w3 ∧ Below (w.heap.size + 1 + 1) ((w.alloc (.cells #[.slice a0 d.sectors.length c0, .slice a1 d.waits.length c1] 30)).alloc (.cells #[.slice none 0 0, .slice none 0 0] 30)) w3 ∧ (w.heap.size + 1 + 1 + 1 ≤ w3.heap.size)) ∧ OwnL 63 (w.heap.size + 1 + 1) w3 (.slice (some ⟨w.heap.size + 1 + 1 + 1, 0, none⟩) 0 0) ([] : List DPending) from
    ⟨⟨LB.out.grown g (by show _ ≤ ((((w.alloc (.cells #[.slice a0 d.sectors.length c0, .slice a1 d.waits.length c1] 30)).alloc (.cells #[.slice none 0 0, .slice none 0 0] 30)).alloc (.cells #[] 9)).alloc (.cells #[] 63)).heap.size; rw [SB]; omega) (fun k hk => by cases hk; dsimp only; omega), BB.out.grown g (by show _ ≤ ((((w.alloc (.cells #[.slice a0 d.sectors.length c0, .slice a1 d.waits.length c1] 30)).alloc (.cells #[.slice none 0 0, .slice none 0 0] 30)).alloc (.cells #[] 9)).alloc (.cells #[] 63)).heap.size; rw [SB]; omega) (fun k hk => by cases hk; dsimp only; omega), by have : ((((w.alloc (.cells #[.slice a0 d.sectors.length c0, .slice a1 d.waits.length c1] 30)).alloc (.cells #[.slice none 0 0, .slice none 0 0] 30)).alloc (.cells #[] 9)).alloc (.cells #[] 63)).heap.size ≤ _ := g.size; rw [SB] at this; omega⟩, KB2.kept g (fun k hk => by cases hk; simp [Value.ownBlock])⟩))
  have GC := Lib.hid (fun (w3 : World) (g : (((((w.alloc (.cells #[.slice a0 d.sectors.length c0, .slice a1 d.waits.length c1] 30)).alloc (.cells #[.slice none 0 0, .slice none 0 0] 30)).alloc (.cells #[] 63)).alloc (.cells #[] 9)).drew).grownBy w3 (Value.slice (some ⟨w.heap.size + 1 + 1 + 1, 0, none⟩) 0 0).ownBlock) => (show (Below w.heap.size w w3 ∧ Below (w.heap.size + 1 + 1) ((w.alloc (.cells #[.slice a0 d.sectors.length c0, .slice a1 d.waits.length c1] 30)).alloc (.cells #[.slice none 0 0, .slice none 0 0] 30)) w3 ∧ (w.heap.size + 1 + 1 + 1 ≤ w3.heap.size)) ∧ OwnL 63 (w.heap.size + 1 + 1) w3 (.slice (some ⟨w.heap.size + 1 + 1, 0, none⟩) 0 0) ([] : List DPending) from
    ⟨⟨LC.out.grown g (by show _ ≤ ((((w.alloc (.cells #[.slice a0 d.sectors.length c0, .slice a1 d.waits.length c1] 30)).alloc (.cells #[.slice none 0 0, .slice none 0 0] 30)).alloc (.cells #[] 63)).alloc (.cells #[] 9)).heap.size; rw [SC]; omega) (fun k hk => by cases hk; dsimp only; omega), BC.out.grown g (by show _ ≤ ((((w.alloc (.cells #[.slice a0 d.sectors.length c0, .slice a1 d.waits.length c1] 30)).alloc (.cells #[.slice none 0 0, .slice none 0 0] 30)).alloc (.cells #[] 63)).alloc (.cells #[] 9)).heap.size; rw [SC]; omega) (fun k hk => by cases hk; dsimp only; omega), by have : ((((w.alloc (.cells #[.slice a0 d.sectors.length c0, .slice a1 d.waits.length c1] 30)).alloc (.cells #[.slice none 0 0, .slice none 0 0] 30)).alloc (.cells #[] 63)).alloc (.cells #[] 9)).heap.size ≤ _ := g.size; rw [SC] at this; omega⟩, KC2.kept g (fun k hk => by cases hk; simp [Value.ownBlock])⟩))
  have RH0 := Lib.hid (fun w' (b : Below w.heap.size w w') => r.1.below b)
  have RH1 := Lib.hid (fun w' (b : Below w.heap.size w w') => r.2.below b)
  have ZA := Lib.hid (show w.heap.size + 1 + 1 ≤ (((w.alloc (.cells #[.slice a0 d.sectors.length c0, .slice a1 d.waits.length c1] 30)).alloc (.cells #[.slice none 0 0, .slice none 0 0] 30)).alloc (.cells #[] 9)).drew.heap.size from by show _ ≤ (((w.alloc (.cells #[.slice a0 d.sectors.length c0, .slice a1 d.waits.length c1] 30)).alloc (.cells #[.slice none 0 0, .slice none 0 0] 30)).alloc (.cells #[] 9)).heap.size; rw [SA]; omega)
  have ZB := Lib.hid (show w.heap.size + 1 + 1 ≤ ((((w.alloc (.cells #[.slice a0 d.sectors.length c0, .slice a1 d.waits.length c1] 30)).alloc (.cells #[.slice none 0 0, .slice none 0 0] 30)).alloc (.cells #[] 9)).alloc (.cells #[] 63)).drew.heap.size from by show _ ≤ ((((w.alloc (.cells #[.slice a0 d.sectors.length c0, .slice a1 d.waits.length c1] 30)).alloc (.cells #[.slice none 0 0, .slice none 0 0] 30)).alloc (.cells #[] 9)).alloc (.cells #[] 63)).heap.size; rw [SB]; omega)
  have ZC := Lib.hid (show w.heap.size + 1 + 1 ≤ ((((w.alloc (.cells #[.slice a0 d.sectors.length c0, .slice a1 d.waits.length c1] 30)).alloc (.cells #[.slice none 0 0, .slice none 0 0] 30)).alloc (.cells #[] 63)).alloc (.cells #[] 9)).drew.heap.size from by show _ ≤ ((((w.alloc (.cells #[.slice a0 d.sectors.length c0, .slice a1 d.waits.length c1] 30)).alloc (.cells #[.slice none 0 0, .slice none 0 0] 30)).alloc (.cells #[] 63)).alloc (.cells #[] 9)).heap.size; rw [SC]; omega)
  have x0 := X.out.cells 0 _ rfl
  have x1 := X.out.cells 1 _ rfl
  have xl : w.heap.size < ((w.alloc (.cells #[.slice a0 d.sectors.length c0, .slice a1 d.waits.length c1] 30)).alloc (.cells #[.slice none 0 0, .slice none 0 0] 30)).heap.size := by rw [S0]; omega
  clear Y0 JA JB1 JB2 JC0 JC1 JC2 KB2 KC2 SA SB SC SC0 S0 b1 b2 b12 b21 r
  go_enter Try.func65, Try.ntmps65
  go_wp2_with fail
  go_region_held3 (fun w' => w'.cell? ⟨w.heap.size, 0, none⟩ = some (.slice a0 d.sectors.length c0) ∧ w'.cell? ⟨w.heap.size, 1, none⟩ = some (.slice a1 d.waits.length c1)) (go_keep) (first
    | ((refine step_append_F rfl (.tmp 3) (.tmp 5) 22 9 (.string ByteArray.empty) 16 rfl Try.underlying22 infoStr rfl (by omega) (w.heap.size + 1 + 1) (.slice (some ⟨w.heap.size + 1 + 1, 0, none⟩) 0 0) [] d.sectors rfl (by with_reducible exact KA1.out) a0 c0 rfl (by with_reducible exact RH0.out _ LA.out) (by simp; omega) (by with_reducible exact ZA.out) ?_); intro v' w3 J3 g3; rw [List.nil_append] at J3; obtain ⟨p0, k0, rfl⟩ := J3.val
       have G := GA.out _ g3
       have XN0 := BxN.lo X.out G.2.1 (by show w.heap.size < _; omega)
       have XN := Lib.hid XN0
       have YN := Lib.hid (BxN.lo Y.out G.2.1 (by show w.heap.size + 1 < _; omega))
       have x2 := XN0.cells 0 _ rfl
       have x3 := XN0.cells 1 _ rfl
       have x4 := (XN0.later (lay w3 (.cells #[] 63))).cells 0 _ rfl
       have x5 := (XN0.later (lay w3 (.cells #[] 63))).cells 1 _ rfl
       have JM := Lib.hid (OwnL.made (α := DPending) 63 (w.heap.size + 1 + 1) w3 (by have := G.2.2; omega))
       have B3 := Lib.hid G.1
       have B3M := Lib.hid (chainX w G.1 (lay w3 (.cells #[] 63)))
       have Z3 := Lib.hid (show w.heap.size + 1 + 1 ≤ w3.heap.size from by have := G.2.2; omega)
       have Z3M := Lib.hid (show w.heap.size + 1 + 1 ≤ (w3.alloc (.cells #[] 63)).heap.size from by rw [World.size_alloc]; have := G.2.2; omega)
       have J3H := Lib.hid J3
       clear G g3 J3 XN0)
    | ((refine step_append_F rfl (.tmp 3) (.tmp 5) 22 9 (.string ByteArray.empty) 16 rfl Try.underlying22 infoStr rfl (by omega) (w.heap.size + 1 + 1) (.slice (some ⟨w.heap.size + 1 + 1, 0, none⟩) 0 0) [] d.sectors rfl (by with_reducible exact KB1.out) a0 c0 rfl (by with_reducible exact RH0.out _ LB.out) (by simp; omega) (by with_reducible exact ZB.out) ?_); intro v' w3 J3 g3; rw [List.nil_append] at J3; obtain ⟨p0, k0, rfl⟩ := J3.val
       obtain ⟨G, J2⟩ := GB.out _ g3
       have J2 := Lib.hid J2
       have XN0 := BxN.lo X.out G.2.1 (by show w.heap.size < _; omega)
       have XN := Lib.hid XN0
       have YN := Lib.hid (BxN.lo Y.out G.2.1 (by show w.heap.size + 1 < _; omega))
       have x2 := XN0.cells 0 _ rfl
       have x3 := XN0.cells 1 _ rfl
       have x4 := (XN0.later (lay w3 (.cells #[] 63))).cells 0 _ rfl
       have x5 := (XN0.later (lay w3 (.cells #[] 63))).cells 1 _ rfl
       have JM := Lib.hid (OwnL.made (α := DPending) 63 (w.heap.size + 1 + 1) w3 (by have := G.2.2; omega))
       have B3 := Lib.hid G.1
       have B3M := Lib.hid (chainX w G.1 (lay w3 (.cells #[] 63)))
       have Z3 := Lib.hid (show w.heap.size + 1 + 1 ≤ w3.heap.size from by have := G.2.2; omega)
       have Z3M := Lib.hid (show w.heap.size + 1 + 1 ≤ (w3.alloc (.cells #[] 63)).heap.size from by rw [World.size_alloc]; have := G.2.2; omega)
       have J3H := Lib.hid J3
       clear G g3 J3 XN0)
    | ((refine step_append_F rfl (.tmp 3) (.tmp 5) 22 9 (.string ByteArray.empty) 16 rfl Try.underlying22 infoStr rfl (by omega) (w.heap.size + 1 + 1) (.slice (some ⟨w.heap.size + 1 + 1 + 1, 0, none⟩) 0 0) [] d.sectors rfl (by with_reducible exact KC1.out) a0 c0 rfl (by with_reducible exact RH0.out _ LC.out) (by simp; omega) (by with_reducible exact ZC.out) ?_); intro v' w3 J3 g3; rw [List.nil_append] at J3; obtain ⟨p0, k0, rfl⟩ := J3.val
       obtain ⟨G, J2⟩ := GC.out _ g3
       have J2 := Lib.hid J2
       have XN0 := BxN.lo X.out G.2.1 (by show w.heap.size < _; omega)
       have XN := Lib.hid XN0
       have YN := Lib.hid (BxN.lo Y.out G.2.1 (by show w.heap.size + 1 < _; omega))
       have x2 := XN0.cells 0 _ rfl
       have x3 := XN0.cells 1 _ rfl
       have x4 := (XN0.later (lay w3 (.cells #[] 63))).cells 0 _ rfl
       have x5 := (XN0.later (lay w3 (.cells #[] 63))).cells 1 _ rfl
       have JM := Lib.hid (OwnL.made (α := DPending) 63 (w.heap.size + 1 + 1) w3 (by have := G.2.2; omega))
       have B3 := Lib.hid G.1
       have B3M := Lib.hid (chainX w G.1 (lay w3 (.cells #[] 63)))
       have Z3 := Lib.hid (show w.heap.size + 1 + 1 ≤ w3.heap.size from by have := G.2.2; omega)
       have Z3M := Lib.hid (show w.heap.size + 1 + 1 ≤ (w3.alloc (.cells #[] 63)).heap.size from by rw [World.size_alloc]; have := G.2.2; omega)
       have J3H := Lib.hid J3
       clear G g3 J3 XN0)
    | ((refine step_append_F rfl (.tmp 7) (.tmp 9) 28 63 (.agg #[.int .i64 0, .string ByteArray.empty]) 24 rfl Try.underlying28 infoPending rfl (by omega) (w.heap.size + 1 + 1) (.slice (some ⟨w3.heap.size, 0, none⟩) 0 0) [] d.waits rfl (by with_reducible exact JM.out) a1 c1 rfl (by with_reducible exact RH1.out _ B3M.out) (by simp; omega) (by with_reducible exact Z3M.out) ?_); intro v'' w4 J4 g4; rw [List.nil_append] at J4; obtain ⟨p1, k1, rfl⟩ := J4.val
       have J5 := (J3H.out.alloc _).kept g4 (own_ne (J3H.out.alloc _) JM.out (by decide))
       have B4 := B3M.out.grown g4 (by have := Z3M.out; omega) (fun k hk => by have := (JM.out.blk hk).1; omega)
       have XZ := BxN.lo (XN.out.later (lay w3 (.cells #[] 63))) ((Below.refl (w.heap.size + 1 + 1) _).grown g4 Z3M.out (fun k hk => (JM.out.blk hk).1)) (by show w.heap.size < _; omega)
       have Y4 := BxN.lo (YN.out.later (lay w3 (.cells #[] 63))) ((Below.refl (w.heap.size + 1 + 1) _).grown g4 Z3M.out (fun k hk => (JM.out.blk hk).1)) (by show w.heap.size + 1 < _; omega)
       have x6 := XZ.cells 0 _ rfl
       have x7 := XZ.cells 1 _ rfl
       have y0 := Y4.cells 0 _ rfl
       have y1 := Y4.cells 1 _ rfl
       have z0 := Y4.free 0
       have z1 := Y4.free 1
       have F := Lib.hid (show AnsW d w (.returned (.agg #[.slice p0 d.sectors.length k0, .slice p1 d.waits.length k1])) ((w4.setCell ⟨w.heap.size + 1, 0, none⟩ (.slice p0 d.sectors.length k0)).setCell ⟨w.heap.size + 1, 1, none⟩ (.slice p1 d.waits.length k1)) from ⟨p0, k0, p1, k1, rfl, ((J5.set _ _ (by show w.heap.size + 1 < _; omega)).set _ _ (by show w.heap.size + 1 < _; omega)).weakB (by omega), ((J4.set _ _ (by show w.heap.size + 1 < _; omega)).set _ _ (by show w.heap.size + 1 < _; omega)).weakB (by omega), (B4.setCell (p := ⟨w.heap.size + 1, 0, none⟩) (by show _ ≤ w.heap.size + 1; omega) _).setCell (p := ⟨w.heap.size + 1, 1, none⟩) (by show _ ≤ w.heap.size + 1; omega) _⟩)
       clear J4 g4 J5 B4 Y4 XZ)
    | ((refine step_append_F rfl (.tmp 7) (.tmp 9) 28 63 (.agg #[.int .i64 0, .string ByteArray.empty]) 24 rfl Try.underlying28 infoPending rfl (by omega) (w.heap.size + 1 + 1) (.slice (some ⟨w.heap.size + 1 + 1 + 1, 0, none⟩) 0 0) [] d.waits rfl (by with_reducible exact J2.out) a1 c1 rfl (by with_reducible exact RH1.out _ B3.out) (by simp; omega) (by with_reducible exact Z3.out) ?_); intro v'' w4 J4 g4; rw [List.nil_append] at J4; obtain ⟨p1, k1, rfl⟩ := J4.val
       have J5 := J3H.out.kept g4 (own_ne J3H.out J2.out (by decide))
       have B4 := B3.out.grown g4 (by have := Z3.out; omega) (fun k hk => by have := (J2.out.blk hk).1; omega)
       have XZ := BxN.lo XN.out ((Below.refl (w.heap.size + 1 + 1) _).grown g4 Z3.out (fun k hk => (J2.out.blk hk).1)) (by show w.heap.size < _; omega)
       have Y4 := BxN.lo YN.out ((Below.refl (w.heap.size + 1 + 1) _).grown g4 Z3.out (fun k hk => (J2.out.blk hk).1)) (by show w.heap.size + 1 < _; omega)
       have x6 := XZ.cells 0 _ rfl
       have x7 := XZ.cells 1 _ rfl
       have y0 := Y4.cells 0 _ rfl
       have y1 := Y4.cells 1 _ rfl
       have z0 := Y4.free 0
       have z1 := Y4.free 1
       have F := Lib.hid (show AnsW d w (.returned (.agg #[.slice p0 d.sectors.length k0, .slice p1 d.waits.length k1])) ((w4.setCell ⟨w.heap.size + 1, 0, none⟩ (.slice p0 d.sectors.length k0)).setCell ⟨w.heap.size + 1, 1, none⟩ (.slice p1 d.waits.length k1)) from ⟨p0, k0, p1, k1, rfl, ((J5.set _ _ (by show w.heap.size + 1 < _; omega)).set _ _ (by show w.heap.size + 1 < _; omega)).weakB (by omega), ((J4.set _ _ (by show w.heap.size + 1 < _; omega)).set _ _ (by show w.heap.size + 1 < _; omega)).weakB (by omega), (B4.setCell (p := ⟨w.heap.size + 1, 0, none⟩) (by show _ ≤ w.heap.size + 1; omega) _).setCell (p := ⟨w.heap.size + 1, 1, none⟩) (by show _ ≤ w.heap.size + 1; omega) _⟩)
       clear J4 g4 J5 B4 Y4 XZ)
    | ((refine step_append_F rfl (.tmp 7) (.tmp 9) 28 63 (.agg #[.int .i64 0, .string ByteArray.empty]) 24 rfl Try.underlying28 infoPending rfl (by omega) (w.heap.size + 1 + 1) (.slice (some ⟨w.heap.size + 1 + 1, 0, none⟩) 0 0) [] d.waits rfl (by with_reducible exact J2.out) a1 c1 rfl (by with_reducible exact RH1.out _ B3.out) (by simp; omega) (by with_reducible exact Z3.out) ?_); intro v'' w4 J4 g4; rw [List.nil_append] at J4; obtain ⟨p1, k1, rfl⟩ := J4.val
       have J5 := J3H.out.kept g4 (own_ne J3H.out J2.out (by decide))
       have B4 := B3.out.grown g4 (by have := Z3.out; omega) (fun k hk => by have := (J2.out.blk hk).1; omega)
       have XZ := BxN.lo XN.out ((Below.refl (w.heap.size + 1 + 1) _).grown g4 Z3.out (fun k hk => (J2.out.blk hk).1)) (by show w.heap.size < _; omega)
       have Y4 := BxN.lo YN.out ((Below.refl (w.heap.size + 1 + 1) _).grown g4 Z3.out (fun k hk => (J2.out.blk hk).1)) (by show w.heap.size + 1 < _; omega)
       have x6 := XZ.cells 0 _ rfl
       have x7 := XZ.cells 1 _ rfl
       have y0 := Y4.cells 0 _ rfl
       have y1 := Y4.cells 1 _ rfl
       have z0 := Y4.free 0
       have z1 := Y4.free 1
       have F := Lib.hid (show AnsW d w (.returned (.agg #[.slice p0 d.sectors.length k0, .slice p1 d.waits.length k1])) ((w4.setCell ⟨w.heap.size + 1, 0, none⟩ (.slice p0 d.sectors.length k0)).setCell ⟨w.heap.size + 1, 1, none⟩ (.slice p1 d.waits.length k1)) from ⟨p0, k0, p1, k1, rfl, ((J5.set _ _ (by show w.heap.size + 1 < _; omega)).set _ _ (by show w.heap.size + 1 < _; omega)).weakB (by omega), ((J4.set _ _ (by show w.heap.size + 1 < _; omega)).set _ _ (by show w.heap.size + 1 < _; omega)).weakB (by omega), (B4.setCell (p := ⟨w.heap.size + 1, 0, none⟩) (by show _ ≤ w.heap.size + 1; omega) _).setCell (p := ⟨w.heap.size + 1, 1, none⟩) (by show _ ≤ w.heap.size + 1; omega) _⟩)
       clear J4 g4 J5 B4 Y4 XZ))
  all_goals
    go_wp2
    exact bodyPost_ret (v := .agg #[.slice p0 d.sectors.length k0, .slice p1 d.waits.length k1]) (by simp [results, Try.results65, go_sem, *]) rfl F.out
end Go.Proofs.Ytpafhbnjefdhjaa.Rd
