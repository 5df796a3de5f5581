/-
  The operation at the head of a text, in the program: what is read, and what a panic leaves (written by tools/gen/opr.py).
-/
import Derived.Test.YtbnjgehgaellmaaDoorRdrP
import Derived.Test.YtbnjgehgaellmaaDoorGetOS
import Derived.Defers
import Derived.Recover
import Derived.Laws.Pointers
import Derived.Stop.IfaceNil
namespace Go.Proofs.YtbnjgehgaellmaaDoor.Rd
open Go.RowKit Go.ChangeShapes Go.WideShapes Go.Proofs.YtbnjgehgaellmaaDoor.Gt Go.Proofs.YtbnjgehgaellmaaDoor.Cd
open Go.Proofs.YtbnjgehgaellmaaDoor.Sg (BxN)
set_option linter.unusedVariables false
set_option linter.unusedSimpArgs false

set_option maxRecDepth 100000 in
set_option maxHeartbeats 8000000 in
theorem opRead_no1 (B : Nat) (s : ByteArray) (T : TypeId) (V : Value) (hs : s.size ≤ 1048576) (h1 : rdN s 0 = none) (w : World) (X : BxN w B [.string s, .int .i64 0]) (hE : ErrAt T V w) (h0 : 0 < B) :
    Calls Tryd.prog 12 #[.pointer (some ⟨B, 0, none⟩)] w fun e w' => e = .panicked [{ v := .iface T V, recovered := false }] ∧ Below B w w' := by
  have hB := X.lt
  have OH := Lib.hid (BxN.new w #[.int .i64 0, .int .i64 0, .string ByteArray.empty] 23)
  have RH := Lib.hid (X.later (lay w (.cells #[.int .i64 0, .int .i64 0, .string ByteArray.empty] 23)))
  have BH := Lib.hid ((lay w (.cells #[.int .i64 0, .int .i64 0, .string ByteArray.empty] 23)).mono (Nat.le_of_lt hB))
  have EH := Lib.hid (hE.later (lay w (.cells #[.int .i64 0, .int .i64 0, .string ByteArray.empty] 23)))
  clear X hE
  go_enter Tryd.func12, Tryd.ntmps12
  go_wp2_with fail
  refine (pan_num B s 0 T V hs (Nat.zero_le _) h1 _ RH.out EH.out).mono ?_
  rintro e w2 ⟨rfl, g2⟩
  have BH := Lib.hid (BH.out.grown g2 (by have := BH.out.size; omega) (fun k hk => by cases hk; omega))
  go_wp2
  exact ⟨rfl, ⟨rfl, BH.out⟩⟩

set_option maxRecDepth 100000 in
set_option maxHeartbeats 8000000 in
theorem opRead_no2 (B : Nat) (s : ByteArray) (T : TypeId) (V : Value) (hs : s.size ≤ 1048576) {K : Int} {l1 : Nat} (h1 : rdN s 0 = some (K, l1)) (h2 : rdN s (0 + l1) = none) (w : World) (X : BxN w B [.string s, .int .i64 0]) (hE : ErrAt T V w) (h0 : 0 < B) :
    Calls Tryd.prog 12 #[.pointer (some ⟨B, 0, none⟩)] w fun e w' => e = .panicked [{ v := .iface T V, recovered := false }] ∧ Below B w w' := by
  have hB := X.lt
  have OH := Lib.hid (BxN.new w #[.int .i64 0, .int .i64 0, .string ByteArray.empty] 23)
  have RH := Lib.hid (X.later (lay w (.cells #[.int .i64 0, .int .i64 0, .string ByteArray.empty] 23)))
  have BH := Lib.hid ((lay w (.cells #[.int .i64 0, .int .i64 0, .string ByteArray.empty] 23)).mono (Nat.le_of_lt hB))
  have e1 : 0 + l1 ≤ s.size := (rdN_le (Nat.zero_le _) h1).1
  have EH := Lib.hid (hE.later (lay w (.cells #[.int .i64 0, .int .i64 0, .string ByteArray.empty] 23)))
  clear X hE
  go_enter Tryd.func12, Tryd.ntmps12
  go_wp2_with fail
  refine (got_num B s 0 K l1 hs (Nat.zero_le _) h1 _ RH.out).mono ?_
  rintro e w2 ⟨rfl, X2, g2⟩
  have OH := Lib.hid (bxGrown OH.out g2 (fun e => by have := Option.some.inj e; omega))
  have BH := Lib.hid (BH.out.grown g2 (by have := BH.out.size; omega) (fun k hk => by cases hk; omega))
  have EH := Lib.hid (EH.out.grown g2 (fun e => by have := Option.some.inj e; omega))
  have RH := Lib.hid X2
  clear X2 g2
  go_wp2_with fail
  refine (pan_num B s (0 + l1) T V hs e1 h2 _ RH.out EH.out).mono ?_
  rintro e w2 ⟨rfl, g2⟩
  have BH := Lib.hid (BH.out.grown g2 (by have := BH.out.size; omega) (fun k hk => by cases hk; omega))
  go_wp2
  exact ⟨rfl, ⟨rfl, BH.out⟩⟩

set_option maxRecDepth 100000 in
set_option maxHeartbeats 8000000 in
theorem opRead_no3 (B : Nat) (s : ByteArray) (T : TypeId) (V : Value) (hs : s.size ≤ 1048576) {K A : Int} {l1 l2 : Nat} (h1 : rdN s 0 = some (K, l1)) (h2 : rdN s (0 + l1) = some (A, l2)) (h3 : rdT s (0 + l1 + l2) = none) (w : World) (X : BxN w B [.string s, .int .i64 0]) (hE : ErrAt T V w) (h0 : 0 < B) :
    Calls Tryd.prog 12 #[.pointer (some ⟨B, 0, none⟩)] w fun e w' => e = .panicked [{ v := .iface T V, recovered := false }] ∧ Below B w w' := by
  have hB := X.lt
  have OH := Lib.hid (BxN.new w #[.int .i64 0, .int .i64 0, .string ByteArray.empty] 23)
  have RH := Lib.hid (X.later (lay w (.cells #[.int .i64 0, .int .i64 0, .string ByteArray.empty] 23)))
  have BH := Lib.hid ((lay w (.cells #[.int .i64 0, .int .i64 0, .string ByteArray.empty] 23)).mono (Nat.le_of_lt hB))
  have e1 : 0 + l1 ≤ s.size := (rdN_le (Nat.zero_le _) h1).1
  have e2 : 0 + l1 + l2 ≤ s.size := (rdN_le e1 h2).1
  have EH := Lib.hid (hE.later (lay w (.cells #[.int .i64 0, .int .i64 0, .string ByteArray.empty] 23)))
  clear X hE
  go_enter Tryd.func12, Tryd.ntmps12
  go_wp2_with fail
  refine (got_num B s 0 K l1 hs (Nat.zero_le _) h1 _ RH.out).mono ?_
  rintro e w2 ⟨rfl, X2, g2⟩
  have OH := Lib.hid (bxGrown OH.out g2 (fun e => by have := Option.some.inj e; omega))
  have BH := Lib.hid (BH.out.grown g2 (by have := BH.out.size; omega) (fun k hk => by cases hk; omega))
  have EH := Lib.hid (EH.out.grown g2 (fun e => by have := Option.some.inj e; omega))
  have RH := Lib.hid X2
  clear X2 g2
  go_wp2_with fail
  refine (got_num B s (0 + l1) A l2 hs e1 h2 _ RH.out).mono ?_
  rintro e w2 ⟨rfl, X2, g2⟩
  have OH := Lib.hid (bxGrown OH.out g2 (fun e => by have := Option.some.inj e; omega))
  have BH := Lib.hid (BH.out.grown g2 (by have := BH.out.size; omega) (fun k hk => by cases hk; omega))
  have EH := Lib.hid (EH.out.grown g2 (fun e => by have := Option.some.inj e; omega))
  have RH := Lib.hid X2
  clear X2 g2
  go_wp2_with fail
  refine (pan_str B s (0 + l1 + l2) T V hs e2 h3 _ RH.out EH.out).mono ?_
  rintro e w2 ⟨rfl, g2⟩
  have BH := Lib.hid (BH.out.grown g2 (by have := BH.out.size; omega) (fun k hk => by cases hk; omega))
  go_wp2
  exact ⟨rfl, ⟨rfl, BH.out⟩⟩

set_option maxRecDepth 100000 in
set_option maxHeartbeats 8000000 in
theorem opRead_yes (B : Nat) (s : ByteArray) (hs : s.size ≤ 1048576) {K A : Int} {S : ByteArray} {l1 l2 l3 : Nat} (h1 : rdN s 0 = some (K, l1)) (h2 : rdN s (0 + l1) = some (A, l2)) (h3 : rdT s (0 + l1 + l2) = some (S, l3)) (w : World) (X : BxN w B [.string s, .int .i64 0]) :
    Calls Tryd.prog 12 #[.pointer (some ⟨B, 0, none⟩)] w fun e w' => e = .returned (.agg #[.int .i64 K, .int .i64 A, .string S]) ∧ BxN w' B [.string s, .int .i64 ((0 + l1 + l2 + l3 : Nat) : Int)] ∧ Below B w w' := by
  have hB := X.lt
  have OH := Lib.hid (BxN.new w #[.int .i64 0, .int .i64 0, .string ByteArray.empty] 23)
  have RH := Lib.hid (X.later (lay w (.cells #[.int .i64 0, .int .i64 0, .string ByteArray.empty] 23)))
  have BH := Lib.hid ((lay w (.cells #[.int .i64 0, .int .i64 0, .string ByteArray.empty] 23)).mono (Nat.le_of_lt hB))
  have e1 : 0 + l1 ≤ s.size := (rdN_le (Nat.zero_le _) h1).1
  have e2 : 0 + l1 + l2 ≤ s.size := (rdN_le e1 h2).1
  clear X
  go_enter Tryd.func12, Tryd.ntmps12
  go_wp2_with fail
  refine (got_num B s 0 K l1 hs (Nat.zero_le _) h1 _ RH.out).mono ?_
  rintro e w2 ⟨rfl, X2, g2⟩
  have OH := Lib.hid (bxGrown OH.out g2 (fun e => by have := Option.some.inj e; omega))
  have BH := Lib.hid (BH.out.grown g2 (by have := BH.out.size; omega) (fun k hk => by cases hk; omega))
  have RH := Lib.hid X2
  clear X2 g2
  go_wp2_with fail
  refine (got_num B s (0 + l1) A l2 hs e1 h2 _ RH.out).mono ?_
  rintro e w2 ⟨rfl, X2, g2⟩
  have OH := Lib.hid (bxGrown OH.out g2 (fun e => by have := Option.some.inj e; omega))
  have BH := Lib.hid (BH.out.grown g2 (by have := BH.out.size; omega) (fun k hk => by cases hk; omega))
  have RH := Lib.hid X2
  clear X2 g2
  go_wp2_with fail
  refine (got_str B s (0 + l1 + l2) S l3 hs e2 h3 _ RH.out).mono ?_
  rintro e w2 ⟨rfl, X2, g2⟩
  have OH := Lib.hid (bxGrown OH.out g2 (fun e => by have := Option.some.inj e; omega))
  have BH := Lib.hid (BH.out.grown g2 (by have := BH.out.size; omega) (fun k hk => by cases hk; omega))
  have RH := Lib.hid X2
  clear X2 g2
  obtain ⟨O_0, O_1, O_2⟩ : w2.cell? ⟨w.heap.size, 0, none⟩ = some (.int .i64 0) ∧ w2.cell? ⟨w.heap.size, 1, none⟩ = some (.int .i64 0) ∧ w2.cell? ⟨w.heap.size, 2, none⟩ = some (.string ByteArray.empty) := ⟨OH.out.cells 0 _ rfl, OH.out.cells 1 _ rfl, OH.out.cells 2 _ rfl⟩
  have of := OH.out.free
  have F1 := Lib.hid (((RH.out.far (p := ⟨w.heap.size, 0, none⟩) (by show w.heap.size ≠ B; omega) (.int .i64 K)).far (p := ⟨w.heap.size, 1, none⟩) (by show w.heap.size ≠ B; omega) (.int .i64 A)).far (p := ⟨w.heap.size, 2, none⟩) (by show w.heap.size ≠ B; omega) (.string S))
  have F2 := Lib.hid (((BH.out.setCell (p := ⟨w.heap.size, 0, none⟩) (Nat.le_of_lt hB) (.int .i64 K)).setCell (p := ⟨w.heap.size, 1, none⟩) (Nat.le_of_lt hB) (.int .i64 A)).setCell (p := ⟨w.heap.size, 2, none⟩) (Nat.le_of_lt hB) (.string S))
  go_wp2
  exact bodyPost_ret (v := .agg #[.int .i64 K, .int .i64 A, .string S]) (by simp [results, Tryd.results12, go_sem, *]) rfl ⟨rfl, F1.out, F2.out⟩

set_option maxRecDepth 100000 in
set_option maxHeartbeats 8000000 in
theorem catchP (p : Addr) (x : Bool) (T : TypeId) (V : Value) (w : World) (hc : w.cell? p = some (.bool x)) (hz : w.frozen? p = false) :
    CallsD Tryd.prog 18 #[.pointer (some p)] (.panicking ({ v := .iface T V, recovered := false } :: [])) w fun e u' w' => e = .returned (.tuple #[]) ∧ u' = .panicking ({ v := .iface T V, recovered := true } :: []) ∧ w' = w.setCell p (.bool false) := by
  refine callsD_of_wpS Tryd.func18 rfl fun c₀ cs hu => ?_
  apply wpS_region
  simp [wpOpsS, go_sem, recoverD, hu, Tryd.ntmps18, Exit.thenS, hc, hz, bodyPostS, results, Tryd.results18]

set_option maxRecDepth 100000 in
set_option maxHeartbeats 8000000 in
theorem catchR (p : Addr) (x : Bool) (T : TypeId) (V : Value) (w : World) (hc : w.cell? p = some (.bool x)) (hz : w.frozen? p = false) :
    CallsD Tryd.prog 18 #[.pointer (some p)] (.returning) w fun e u' w' => e = .returned (.tuple #[]) ∧ u' = .returning ∧ w' = w.setCell p (.bool true) := by
  refine callsD_of_wpS Tryd.func18 rfl fun c₀ cs hu => ?_
  apply wpS_region
  simp [wpOpsS, go_sem, recoverD, hu, Tryd.ntmps18, Exit.thenS, hc, hz, bodyPostS, results, Tryd.results18]
  cases c₀
  cases hu
  rfl
end Go.Proofs.YtbnjgehgaellmaaDoor.Rd
