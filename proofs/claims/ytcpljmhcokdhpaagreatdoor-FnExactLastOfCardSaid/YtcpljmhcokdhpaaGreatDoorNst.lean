/-
  NewState: what the program and the model answer; the laws' marks of a state without slices (written by tools/gen/nst.py).
-/
import Derived.Test.YtcpljmhcokdhpaaGreatDoorDPgState
import Derived.Test.YtcpljmhcokdhpaaGreatDoorWithin
namespace Go.Proofs.YtcpljmhcokdhpaaGreatDoor.Rd
open Go.RowKit Go.ChangeShapes Go.WideShapes Go.Proofs.YtcpljmhcokdhpaaGreatDoor.GfI Go.Proofs.YtcpljmhcokdhpaaGreatDoor.GfS
open Go.Proofs.YtcpljmhcokdhpaaGreatDoor.Sg (BxN)
set_option linter.unusedVariables false
set_option linter.unusedSimpArgs false

set_option maxRecDepth 100000 in
set_option maxHeartbeats 4000000 in
theorem markHead0 (k : Int) (w : World) : Calls Tryz.prog 45 #[.slice none 0 0, .int .i64 k] w fun e w' => e = .returned (.int .i64 k) ∧ w = w' := by
  go_enter Tryz.func45, Tryz.ntmps45
  go_wp2
  go_loopw [1, 5] (fun x i wr => x = .int .i64 k ∧ i = .int .i64 0 ∧ wr = w) (fun _ _ _ => 0)
  case atStart => exact ⟨rfl, rfl, rfl⟩
  case round =>
    obtain ⟨rfl, rfl, rfl⟩ := hrel
    go_wp2
    go_ret
    exact ⟨rfl, rfl⟩

set_option maxRecDepth 100000 in
set_option maxHeartbeats 4000000 in
theorem heldHead0 (k : Int) (w : World) : Calls Tryz.prog 46 #[.slice none 0 0, .int .i64 k] w fun e w' => e = .returned (.int .i64 k) ∧ w = w' := by
  go_enter Tryz.func46, Tryz.ntmps46
  go_wp2
  go_loopw [1, 5] (fun x i wr => x = .int .i64 k ∧ i = .int .i64 0 ∧ wr = w) (fun _ _ _ => 0)
  case atStart => exact ⟨rfl, rfl, rfl⟩
  case round =>
    obtain ⟨rfl, rfl, rfl⟩ := hrel
    go_wp2
    go_ret
    exact ⟨rfl, rfl⟩

set_option maxRecDepth 100000 in
set_option maxHeartbeats 4000000 in
theorem markLast0 (k : Int) (w : World) : Calls Tryz.prog 50 #[.slice none 0 0, .int .i64 k] w fun e w' => e = .returned (.int .i64 k) ∧ w = w' := by
  go_enter Tryz.func50, Tryz.ntmps50
  go_wp2
  go_loopw [1, 5] (fun x i wr => x = .int .i64 k ∧ i = .int .i64 0 ∧ wr = w) (fun _ _ _ => 0)
  case atStart => exact ⟨rfl, rfl, rfl⟩
  case round =>
    obtain ⟨rfl, rfl, rfl⟩ := hrel
    go_wp2
    go_ret
    exact ⟨rfl, rfl⟩

set_option maxRecDepth 100000 in
set_option maxHeartbeats 4000000 in
theorem heldLast0 (k : Int) (w : World) : Calls Tryz.prog 51 #[.slice none 0 0, .int .i64 k] w fun e w' => e = .returned (.int .i64 k) ∧ w = w' := by
  go_enter Tryz.func51, Tryz.ntmps51
  go_wp2
  go_loopw [1, 5] (fun x i wr => x = .int .i64 k ∧ i = .int .i64 0 ∧ wr = w) (fun _ _ _ => 0)
  case atStart => exact ⟨rfl, rfl, rfl⟩
  case round =>
    obtain ⟨rfl, rfl, rfl⟩ := hrel
    go_wp2
    go_ret
    exact ⟨rfl, rfl⟩

set_option maxRecDepth 100000 in
set_option maxHeartbeats 4000000 in
theorem markEntry0 (k : Int) (w : World) : Calls Tryz.prog 70 #[.slice none 0 0, .int .i64 k] w fun e w' => e = .returned (.int .i64 k) ∧ w = w' := by
  go_enter Tryz.func70, Tryz.ntmps70
  go_wp2
  go_loopw [1, 5] (fun x i wr => x = .int .i64 k ∧ i = .int .i64 0 ∧ wr = w) (fun _ _ _ => 0)
  case atStart => exact ⟨rfl, rfl, rfl⟩
  case round =>
    obtain ⟨rfl, rfl, rfl⟩ := hrel
    go_wp2
    go_ret
    exact ⟨rfl, rfl⟩

set_option maxRecDepth 100000 in
set_option maxHeartbeats 4000000 in
theorem heldEntry0 (k : Int) (w : World) : Calls Tryz.prog 72 #[.slice none 0 0, .int .i64 k] w fun e w' => e = .returned (.int .i64 k) ∧ w = w' := by
  go_enter Tryz.func72, Tryz.ntmps72
  go_wp2
  go_loopw [1, 5] (fun x i wr => x = .int .i64 k ∧ i = .int .i64 0 ∧ wr = w) (fun _ _ _ => 0)
  case atStart => exact ⟨rfl, rfl, rfl⟩
  case round =>
    obtain ⟨rfl, rfl, rfl⟩ := hrel
    go_wp2
    go_ret
    exact ⟨rfl, rfl⟩

set_option maxRecDepth 100000 in
set_option maxHeartbeats 4000000 in
theorem markChunk0 (k : Int) (w : World) : Calls Tryz.prog 71 #[.slice none 0 0, .int .i64 k] w fun e w' => e = .returned (.int .i64 k) ∧ w = w' := by
  go_enter Tryz.func71, Tryz.ntmps71
  go_wp2
  go_loopw [1, 5] (fun x i wr => x = .int .i64 k ∧ i = .int .i64 0 ∧ wr = w) (fun _ _ _ => 0)
  case atStart => exact ⟨rfl, rfl, rfl⟩
  case round =>
    obtain ⟨rfl, rfl, rfl⟩ := hrel
    go_wp2
    go_ret
    exact ⟨rfl, rfl⟩

set_option maxRecDepth 100000 in
set_option maxHeartbeats 4000000 in
theorem heldChunk0 (k : Int) (w : World) : Calls Tryz.prog 73 #[.slice none 0 0, .int .i64 k] w fun e w' => e = .returned (.int .i64 k) ∧ w = w' := by
  go_enter Tryz.func73, Tryz.ntmps73
  go_wp2
  go_loopw [1, 5] (fun x i wr => x = .int .i64 k ∧ i = .int .i64 0 ∧ wr = w) (fun _ _ _ => 0)
  case atStart => exact ⟨rfl, rfl, rfl⟩
  case round =>
    obtain ⟨rfl, rfl, rfl⟩ := hrel
    go_wp2
    go_ret
    exact ⟨rfl, rfl⟩

set_option maxRecDepth 100000 in
set_option maxHeartbeats 4000000 in
theorem markState0 (P N : Int) (w : World) : Calls Tryz.prog 24 #[.agg #[.int .i64 P, .int .i64 N, .int .i64 0, .int .i64 0, .int .i64 0, .int .i64 0, .slice none 0 0, .slice none 0 0, .slice none 0 0, .int .i64 0, .int .i64 0, .slice none 0 0], .int .i64 1] w (RetW (.int .i64 1) w) := by
  have BH := Lib.hid (lay w (.cells #[.int .i64 P, .int .i64 N, .int .i64 0, .int .i64 0, .int .i64 0, .int .i64 0, .slice none 0 0, .slice none 0 0, .slice none 0 0, .int .i64 0, .int .i64 0, .slice none 0 0] 43))
  go_enter Tryz.func24, Tryz.ntmps24
  go_wp2_with (first | (go_at_call 45; refine (markHead0 1 _).mono ?_; rintro e w2 ⟨rfl, rfl⟩) | (go_at_call 50; refine (markLast0 1 _).mono ?_; rintro e w2 ⟨rfl, rfl⟩) | (go_at_call 70; refine (markEntry0 1 _).mono ?_; rintro e w2 ⟨rfl, rfl⟩) | (go_at_call 71; refine (markChunk0 1 _).mono ?_; rintro e w2 ⟨rfl, rfl⟩))
  go_ret
  exact ⟨rfl, BH.out⟩

set_option maxRecDepth 100000 in
set_option maxHeartbeats 4000000 in
theorem heldState0 (P N : Int) (w : World) : Calls Tryz.prog 25 #[.agg #[.int .i64 P, .int .i64 N, .int .i64 0, .int .i64 0, .int .i64 0, .int .i64 0, .slice none 0 0, .slice none 0 0, .slice none 0 0, .int .i64 0, .int .i64 0, .slice none 0 0], .int .i64 1] w (RetW (.int .i64 1) w) := by
  have BH := Lib.hid (lay w (.cells #[.int .i64 P, .int .i64 N, .int .i64 0, .int .i64 0, .int .i64 0, .int .i64 0, .slice none 0 0, .slice none 0 0, .slice none 0 0, .int .i64 0, .int .i64 0, .slice none 0 0] 43))
  go_enter Tryz.func25, Tryz.ntmps25
  go_wp2_with (first | (go_at_call 46; refine (heldHead0 1 _).mono ?_; rintro e w2 ⟨rfl, rfl⟩) | (go_at_call 51; refine (heldLast0 1 _).mono ?_; rintro e w2 ⟨rfl, rfl⟩) | (go_at_call 72; refine (heldEntry0 1 _).mono ?_; rintro e w2 ⟨rfl, rfl⟩) | (go_at_call 73; refine (heldChunk0 1 _).mono ?_; rintro e w2 ⟨rfl, rfl⟩))
  go_ret
  exact ⟨rfl, BH.out⟩

def pgB (p n : Int) : Bool := inB p 1 4 && inB n 0 15

set_option maxRecDepth 100000 in
set_option maxHeartbeats 4000000 in
theorem specPg (a b : Int) (w : World) : Calls Tryz.prog 82 #[.agg #[.int .i64 a, .int .i64 b]] w (RetW (.bool (pgB a b)) w) := by
  have BH := Lib.hid (lay w (.cells #[.int .i64 a, .int .i64 b] 35))
  have C1 := Lib.hid (l00In a 1 4)
  have C2 := Lib.hid (l00In b 0 15)
  unfold pgB
  generalize inB a 1 4 = x at *
  generalize inB b 0 15 = y at *
  cases x
  · rw [Bool.false_and]
    go_enter Tryz.func82, Tryz.ntmps82
    go_wp2_with fail
    refine (C1.out _).mono ?_
    rintro e w2 ⟨rfl, rfl⟩
    go_wp2
    go_ret
    exact ⟨rfl, BH.out⟩
  · rw [Bool.true_and]
    go_enter Tryz.func82, Tryz.ntmps82
    go_wp2_with fail
    refine (C1.out _).mono ?_
    rintro e w2 ⟨rfl, rfl⟩
    go_wp2_with fail
    refine (C2.out _).mono ?_
    rintro e w2 ⟨rfl, rfl⟩
    go_wp2
    go_ret
    exact ⟨rfl, BH.out⟩

set_option maxRecDepth 100000 in
set_option maxHeartbeats 4000000 in
theorem specNewState (a b P N : Int) (hP : (if pgB a b then (a, b) else (0, 0)) = (P, N)) (w : World) : Calls Tryz.prog 63 #[.agg #[.int .i64 a, .int .i64 b]] w (RetW (.agg #[.int .i64 P, .int .i64 N, .int .i64 0, .int .i64 0, .int .i64 0, .int .i64 0, .slice none 0 0, .slice none 0 0, .slice none 0 0, .int .i64 0, .int .i64 0, .slice none 0 0]) w) := by
  have BH := Lib.hid (chainX w (lay w (.cells #[.int .i64 a, .int .i64 b] 35)) (lay _ (.cells #[.int .i64 0, .int .i64 0, .int .i64 0, .int .i64 0, .int .i64 0, .int .i64 0, .slice none 0 0, .slice none 0 0, .slice none 0 0, .int .i64 0, .int .i64 0, .slice none 0 0] 43)))
  have XH := Lib.hid ((BxN.new w #[.int .i64 a, .int .i64 b] 35).later (lay _ (.cells #[.int .i64 0, .int .i64 0, .int .i64 0, .int .i64 0, .int .i64 0, .int .i64 0, .slice none 0 0, .slice none 0 0, .slice none 0 0, .int .i64 0, .int .i64 0, .slice none 0 0] 43)))
  have Y0 := BxN.new (w.alloc (.cells #[.int .i64 a, .int .i64 b] 35)) #[.int .i64 0, .int .i64 0, .int .i64 0, .int .i64 0, .int .i64 0, .int .i64 0, .slice none 0 0, .slice none 0 0, .slice none 0 0, .int .i64 0, .int .i64 0, .slice none 0 0] 43
  rw [World.size_alloc] at Y0
  have YH := Lib.hid Y0
  clear Y0
  have C := Lib.hid (specPg a b)
  generalize pgB a b = v at *
  cases v
  · obtain ⟨rfl, rfl⟩ : 0 = P ∧ 0 = N := by simpa using hP
    clear hP
    go_enter Tryz.func63, Tryz.ntmps63
    go_wp2_with fail
    refine (C.out _).mono ?_
    rintro e w2 ⟨rfl, b2⟩
    have X0 := XH.out.later b2
    have x0 := X0.cells 0 _ rfl
    have x1 := X0.cells 1 _ rfl
    have Y0 := YH.out.later b2
    have y0 := Y0.cells 0 _ rfl
    have y1 := Y0.cells 1 _ rfl
    have y2 := Y0.cells 2 _ rfl
    have y3 := Y0.cells 3 _ rfl
    have y4 := Y0.cells 4 _ rfl
    have y5 := Y0.cells 5 _ rfl
    have y6 := Y0.cells 6 _ rfl
    have y7 := Y0.cells 7 _ rfl
    have y8 := Y0.cells 8 _ rfl
    have y9 := Y0.cells 9 _ rfl
    have y10 := Y0.cells 10 _ rfl
    have y11 := Y0.cells 11 _ rfl
    have yf := fun i => Y0.free i
    have yl := Y0.lt
    have B2 := Lib.hid (chainX w BH.out b2)
    have FH := Lib.hid (show RetW (.agg #[.int .i64 0, .int .i64 0, .int .i64 0, .int .i64 0, .int .i64 0, .int .i64 0, .slice none 0 0, .slice none 0 0, .slice none 0 0, .int .i64 0, .int .i64 0, .slice none 0 0]) w (.returned (.agg #[.int .i64 0, .int .i64 0, .int .i64 0, .int .i64 0, .int .i64 0, .int .i64 0, .slice none 0 0, .slice none 0 0, .slice none 0 0, .int .i64 0, .int .i64 0, .slice none 0 0])) (((((((((((((w2).setCell ⟨w.heap.size + 1, 0, none⟩ (.int .i64 0)).setCell ⟨w.heap.size + 1, 1, none⟩ (.int .i64 0)).setCell ⟨w.heap.size + 1, 2, none⟩ (.int .i64 0)).setCell ⟨w.heap.size + 1, 3, none⟩ (.int .i64 0)).setCell ⟨w.heap.size + 1, 4, none⟩ (.int .i64 0)).setCell ⟨w.heap.size + 1, 5, none⟩ (.int .i64 0)).setCell ⟨w.heap.size + 1, 6, none⟩ (.slice none 0 0)).setCell ⟨w.heap.size + 1, 7, none⟩ (.slice none 0 0)).setCell ⟨w.heap.size + 1, 8, none⟩ (.slice none 0 0)).setCell ⟨w.heap.size + 1, 9, none⟩ (.int .i64 0)).setCell ⟨w.heap.size + 1, 10, none⟩ (.int .i64 0)).setCell ⟨w.heap.size + 1, 11, none⟩ (.slice none 0 0)) from ⟨rfl, (Below.setCell (p := ⟨w.heap.size + 1, 11, none⟩) (Below.setCell (p := ⟨w.heap.size + 1, 10, none⟩) (Below.setCell (p := ⟨w.heap.size + 1, 9, none⟩) (Below.setCell (p := ⟨w.heap.size + 1, 8, none⟩) (Below.setCell (p := ⟨w.heap.size + 1, 7, none⟩) (Below.setCell (p := ⟨w.heap.size + 1, 6, none⟩) (Below.setCell (p := ⟨w.heap.size + 1, 5, none⟩) (Below.setCell (p := ⟨w.heap.size + 1, 4, none⟩) (Below.setCell (p := ⟨w.heap.size + 1, 3, none⟩) (Below.setCell (p := ⟨w.heap.size + 1, 2, none⟩) (Below.setCell (p := ⟨w.heap.size + 1, 1, none⟩) (Below.setCell (p := ⟨w.heap.size + 1, 0, none⟩) B2.out (Nat.le_succ _) (.int .i64 0)) (Nat.le_succ _) (.int .i64 0)) (Nat.le_succ _) (.int .i64 0)) (Nat.le_succ _) (.int .i64 0)) (Nat.le_succ _) (.int .i64 0)) (Nat.le_succ _) (.int .i64 0)) (Nat.le_succ _) (.slice none 0 0)) (Nat.le_succ _) (.slice none 0 0)) (Nat.le_succ _) (.slice none 0 0)) (Nat.le_succ _) (.int .i64 0)) (Nat.le_succ _) (.int .i64 0)) (Nat.le_succ _) (.slice none 0 0))⟩)
    clear b2 X0 Y0 XH YH BH
    go_wp2
    
    exact bodyPost_ret (v := .agg #[.int .i64 0, .int .i64 0, .int .i64 0, .int .i64 0, .int .i64 0, .int .i64 0, .slice none 0 0, .slice none 0 0, .slice none 0 0, .int .i64 0, .int .i64 0, .slice none 0 0]) (by simp [results, Tryz.results63, go_sem, *]) rfl FH.out
  · obtain ⟨rfl, rfl⟩ : a = P ∧ b = N := by simpa using hP
    clear hP
    go_enter Tryz.func63, Tryz.ntmps63
    go_wp2_with fail
    refine (C.out _).mono ?_
    rintro e w2 ⟨rfl, b2⟩
    have X0 := XH.out.later b2
    have x0 := X0.cells 0 _ rfl
    have x1 := X0.cells 1 _ rfl
    have Y0 := YH.out.later b2
    have y0 := Y0.cells 0 _ rfl
    have y1 := Y0.cells 1 _ rfl
    have y2 := Y0.cells 2 _ rfl
    have y3 := Y0.cells 3 _ rfl
    have y4 := Y0.cells 4 _ rfl
    have y5 := Y0.cells 5 _ rfl
    have y6 := Y0.cells 6 _ rfl
    have y7 := Y0.cells 7 _ rfl
    have y8 := Y0.cells 8 _ rfl
    have y9 := Y0.cells 9 _ rfl
    have y10 := Y0.cells 10 _ rfl
    have y11 := Y0.cells 11 _ rfl
    have yf := fun i => Y0.free i
    have yl := Y0.lt
    have B2 := Lib.hid (chainX w BH.out b2)
    have FH := Lib.hid (show RetW (.agg #[.int .i64 a, .int .i64 b, .int .i64 0, .int .i64 0, .int .i64 0, .int .i64 0, .slice none 0 0, .slice none 0 0, .slice none 0 0, .int .i64 0, .int .i64 0, .slice none 0 0]) w (.returned (.agg #[.int .i64 a, .int .i64 b, .int .i64 0, .int .i64 0, .int .i64 0, .int .i64 0, .slice none 0 0, .slice none 0 0, .slice none 0 0, .int .i64 0, .int .i64 0, .slice none 0 0])) (((((((((((((w2).setCell ⟨w.heap.size + 1, 0, none⟩ (.int .i64 a)).setCell ⟨w.heap.size + 1, 1, none⟩ (.int .i64 b)).setCell ⟨w.heap.size + 1, 2, none⟩ (.int .i64 0)).setCell ⟨w.heap.size + 1, 3, none⟩ (.int .i64 0)).setCell ⟨w.heap.size + 1, 4, none⟩ (.int .i64 0)).setCell ⟨w.heap.size + 1, 5, none⟩ (.int .i64 0)).setCell ⟨w.heap.size + 1, 6, none⟩ (.slice none 0 0)).setCell ⟨w.heap.size + 1, 7, none⟩ (.slice none 0 0)).setCell ⟨w.heap.size + 1, 8, none⟩ (.slice none 0 0)).setCell ⟨w.heap.size + 1, 9, none⟩ (.int .i64 0)).setCell ⟨w.heap.size + 1, 10, none⟩ (.int .i64 0)).setCell ⟨w.heap.size + 1, 11, none⟩ (.slice none 0 0)) from ⟨rfl, (Below.setCell (p := ⟨w.heap.size + 1, 11, none⟩) (Below.setCell (p := ⟨w.heap.size + 1, 10, none⟩) (Below.setCell (p := ⟨w.heap.size + 1, 9, none⟩) (Below.setCell (p := ⟨w.heap.size + 1, 8, none⟩) (Below.setCell (p := ⟨w.heap.size + 1, 7, none⟩) (Below.setCell (p := ⟨w.heap.size + 1, 6, none⟩) (Below.setCell (p := ⟨w.heap.size + 1, 5, none⟩) (Below.setCell (p := ⟨w.heap.size + 1, 4, none⟩) (Below.setCell (p := ⟨w.heap.size + 1, 3, none⟩) (Below.setCell (p := ⟨w.heap.size + 1, 2, none⟩) (Below.setCell (p := ⟨w.heap.size + 1, 1, none⟩) (Below.setCell (p := ⟨w.heap.size + 1, 0, none⟩) B2.out (Nat.le_succ _) (.int .i64 a)) (Nat.le_succ _) (.int .i64 b)) (Nat.le_succ _) (.int .i64 0)) (Nat.le_succ _) (.int .i64 0)) (Nat.le_succ _) (.int .i64 0)) (Nat.le_succ _) (.int .i64 0)) (Nat.le_succ _) (.slice none 0 0)) (Nat.le_succ _) (.slice none 0 0)) (Nat.le_succ _) (.slice none 0 0)) (Nat.le_succ _) (.int .i64 0)) (Nat.le_succ _) (.int .i64 0)) (Nat.le_succ _) (.slice none 0 0))⟩)
    clear b2 X0 Y0 XH YH BH
    go_wp2
    
    exact bodyPost_ret (v := .agg #[.int .i64 a, .int .i64 b, .int .i64 0, .int .i64 0, .int .i64 0, .int .i64 0, .slice none 0 0, .slice none 0 0, .slice none 0 0, .int .i64 0, .int .i64 0, .slice none 0 0]) (by simp [results, Tryz.results63, go_sem, *]) rfl FH.out

set_option maxRecDepth 100000 in
set_option maxHeartbeats 4000000 in
theorem implPg (a b : Int) (w : World) : Calls Tryz.prog 95 #[.agg #[.int .i64 a, .int .i64 b]] w (RetW (.bool (pgB a b)) w) := by
  have BH := Lib.hid (lay w (.cells #[.int .i64 a, .int .i64 b] 35))
  have C1 := Lib.hid (Wi.isWithin a 1 4 (by omega))
  have C2 := Lib.hid (Wi.isWithin b 0 15 (by omega))
  unfold pgB
  generalize inB a 1 4 = x at *
  generalize inB b 0 15 = y at *
  cases x
  · rw [Bool.false_and]
    go_enter Tryz.func95, Tryz.ntmps95
    go_wp2_with fail
    refine (C1.out _).mono ?_
    rintro e w2 ⟨rfl, rfl⟩
    go_wp2
    go_ret
    exact ⟨rfl, BH.out⟩
  · rw [Bool.true_and]
    go_enter Tryz.func95, Tryz.ntmps95
    go_wp2_with fail
    refine (C1.out _).mono ?_
    rintro e w2 ⟨rfl, rfl⟩
    go_wp2_with fail
    refine (C2.out _).mono ?_
    rintro e w2 ⟨rfl, rfl⟩
    go_wp2
    go_ret
    exact ⟨rfl, BH.out⟩

set_option maxRecDepth 100000 in
set_option maxHeartbeats 4000000 in
theorem implNewState (a b P N : Int) (hP : (if pgB a b then (a, b) else (0, 0)) = (P, N)) (w : World) : Calls Tryz.prog 127 #[.agg #[.int .i64 a, .int .i64 b]] w (RetW (.agg #[.int .i64 P, .int .i64 N, .int .i64 0, .int .i64 0, .int .i64 0, .int .i64 0, .slice none 0 0, .slice none 0 0, .slice none 0 0, .int .i64 0, .int .i64 0, .slice none 0 0]) w) := by
  have BH := Lib.hid (chainX w (lay w (.cells #[.int .i64 a, .int .i64 b] 35)) (lay _ (.cells #[.int .i64 0, .int .i64 0, .int .i64 0, .int .i64 0, .int .i64 0, .int .i64 0, .slice none 0 0, .slice none 0 0, .slice none 0 0, .int .i64 0, .int .i64 0, .slice none 0 0] 43)))
  have XH := Lib.hid ((BxN.new w #[.int .i64 a, .int .i64 b] 35).later (lay _ (.cells #[.int .i64 0, .int .i64 0, .int .i64 0, .int .i64 0, .int .i64 0, .int .i64 0, .slice none 0 0, .slice none 0 0, .slice none 0 0, .int .i64 0, .int .i64 0, .slice none 0 0] 43)))
  have Y0 := BxN.new (w.alloc (.cells #[.int .i64 a, .int .i64 b] 35)) #[.int .i64 0, .int .i64 0, .int .i64 0, .int .i64 0, .int .i64 0, .int .i64 0, .slice none 0 0, .slice none 0 0, .slice none 0 0, .int .i64 0, .int .i64 0, .slice none 0 0] 43
  rw [World.size_alloc] at Y0
  have YH := Lib.hid Y0
  clear Y0
  have C := Lib.hid (implPg a b)
  generalize pgB a b = v at *
  cases v
  · obtain ⟨rfl, rfl⟩ : 0 = P ∧ 0 = N := by simpa using hP
    clear hP
    go_enter Tryz.func127, Tryz.ntmps127
    go_wp2_with fail
    refine (C.out _).mono ?_
    rintro e w2 ⟨rfl, b2⟩
    have X0 := XH.out.later b2
    have x0 := X0.cells 0 _ rfl
    have x1 := X0.cells 1 _ rfl
    have Y0 := YH.out.later b2
    have y0 := Y0.cells 0 _ rfl
    have y1 := Y0.cells 1 _ rfl
    have y2 := Y0.cells 2 _ rfl
    have y3 := Y0.cells 3 _ rfl
    have y4 := Y0.cells 4 _ rfl
    have y5 := Y0.cells 5 _ rfl
    have y6 := Y0.cells 6 _ rfl
    have y7 := Y0.cells 7 _ rfl
    have y8 := Y0.cells 8 _ rfl
    have y9 := Y0.cells 9 _ rfl
    have y10 := Y0.cells 10 _ rfl
    have y11 := Y0.cells 11 _ rfl
    have yf := fun i => Y0.free i
    have yl := Y0.lt
    have B2 := Lib.hid (chainX w BH.out b2)
    have FH := Lib.hid (show RetW (.agg #[.int .i64 0, .int .i64 0, .int .i64 0, .int .i64 0, .int .i64 0, .int .i64 0, .slice none 0 0, .slice none 0 0, .slice none 0 0, .int .i64 0, .int .i64 0, .slice none 0 0]) w (.returned (.agg #[.int .i64 0, .int .i64 0, .int .i64 0, .int .i64 0, .int .i64 0, .int .i64 0, .slice none 0 0, .slice none 0 0, .slice none 0 0, .int .i64 0, .int .i64 0, .slice none 0 0])) (((((((((((((w2).setCell ⟨w.heap.size + 1, 0, none⟩ (.int .i64 0)).setCell ⟨w.heap.size + 1, 1, none⟩ (.int .i64 0)).setCell ⟨w.heap.size + 1, 2, none⟩ (.int .i64 0)).setCell ⟨w.heap.size + 1, 3, none⟩ (.int .i64 0)).setCell ⟨w.heap.size + 1, 4, none⟩ (.int .i64 0)).setCell ⟨w.heap.size + 1, 5, none⟩ (.int .i64 0)).setCell ⟨w.heap.size + 1, 6, none⟩ (.slice none 0 0)).setCell ⟨w.heap.size + 1, 7, none⟩ (.slice none 0 0)).setCell ⟨w.heap.size + 1, 8, none⟩ (.slice none 0 0)).setCell ⟨w.heap.size + 1, 9, none⟩ (.int .i64 0)).setCell ⟨w.heap.size + 1, 10, none⟩ (.int .i64 0)).setCell ⟨w.heap.size + 1, 11, none⟩ (.slice none 0 0)) from ⟨rfl, (Below.setCell (p := ⟨w.heap.size + 1, 11, none⟩) (Below.setCell (p := ⟨w.heap.size + 1, 10, none⟩) (Below.setCell (p := ⟨w.heap.size + 1, 9, none⟩) (Below.setCell (p := ⟨w.heap.size + 1, 8, none⟩) (Below.setCell (p := ⟨w.heap.size + 1, 7, none⟩) (Below.setCell (p := ⟨w.heap.size + 1, 6, none⟩) (Below.setCell (p := ⟨w.heap.size + 1, 5, none⟩) (Below.setCell (p := ⟨w.heap.size + 1, 4, none⟩) (Below.setCell (p := ⟨w.heap.size + 1, 3, none⟩) (Below.setCell (p := ⟨w.heap.size + 1, 2, none⟩) (Below.setCell (p := ⟨w.heap.size + 1, 1, none⟩) (Below.setCell (p := ⟨w.heap.size + 1, 0, none⟩) B2.out (Nat.le_succ _) (.int .i64 0)) (Nat.le_succ _) (.int .i64 0)) (Nat.le_succ _) (.int .i64 0)) (Nat.le_succ _) (.int .i64 0)) (Nat.le_succ _) (.int .i64 0)) (Nat.le_succ _) (.int .i64 0)) (Nat.le_succ _) (.slice none 0 0)) (Nat.le_succ _) (.slice none 0 0)) (Nat.le_succ _) (.slice none 0 0)) (Nat.le_succ _) (.int .i64 0)) (Nat.le_succ _) (.int .i64 0)) (Nat.le_succ _) (.slice none 0 0))⟩)
    clear b2 X0 Y0 XH YH BH
    go_wp2
    
    exact bodyPost_ret (v := .agg #[.int .i64 0, .int .i64 0, .int .i64 0, .int .i64 0, .int .i64 0, .int .i64 0, .slice none 0 0, .slice none 0 0, .slice none 0 0, .int .i64 0, .int .i64 0, .slice none 0 0]) (by simp [results, Tryz.results127, go_sem, *]) rfl FH.out
  · obtain ⟨rfl, rfl⟩ : a = P ∧ b = N := by simpa using hP
    clear hP
    go_enter Tryz.func127, Tryz.ntmps127
    go_wp2_with fail
    refine (C.out _).mono ?_
    rintro e w2 ⟨rfl, b2⟩
    have X0 := XH.out.later b2
    have x0 := X0.cells 0 _ rfl
    have x1 := X0.cells 1 _ rfl
    have Y0 := YH.out.later b2
    have y0 := Y0.cells 0 _ rfl
    have y1 := Y0.cells 1 _ rfl
    have y2 := Y0.cells 2 _ rfl
    have y3 := Y0.cells 3 _ rfl
    have y4 := Y0.cells 4 _ rfl
    have y5 := Y0.cells 5 _ rfl
    have y6 := Y0.cells 6 _ rfl
    have y7 := Y0.cells 7 _ rfl
    have y8 := Y0.cells 8 _ rfl
    have y9 := Y0.cells 9 _ rfl
    have y10 := Y0.cells 10 _ rfl
    have y11 := Y0.cells 11 _ rfl
    have yf := fun i => Y0.free i
    have yl := Y0.lt
    have B2 := Lib.hid (chainX w BH.out b2)
    have FH := Lib.hid (show RetW (.agg #[.int .i64 a, .int .i64 b, .int .i64 0, .int .i64 0, .int .i64 0, .int .i64 0, .slice none 0 0, .slice none 0 0, .slice none 0 0, .int .i64 0, .int .i64 0, .slice none 0 0]) w (.returned (.agg #[.int .i64 a, .int .i64 b, .int .i64 0, .int .i64 0, .int .i64 0, .int .i64 0, .slice none 0 0, .slice none 0 0, .slice none 0 0, .int .i64 0, .int .i64 0, .slice none 0 0])) (((((((((((((w2).setCell ⟨w.heap.size + 1, 0, none⟩ (.int .i64 a)).setCell ⟨w.heap.size + 1, 1, none⟩ (.int .i64 b)).setCell ⟨w.heap.size + 1, 2, none⟩ (.int .i64 0)).setCell ⟨w.heap.size + 1, 3, none⟩ (.int .i64 0)).setCell ⟨w.heap.size + 1, 4, none⟩ (.int .i64 0)).setCell ⟨w.heap.size + 1, 5, none⟩ (.int .i64 0)).setCell ⟨w.heap.size + 1, 6, none⟩ (.slice none 0 0)).setCell ⟨w.heap.size + 1, 7, none⟩ (.slice none 0 0)).setCell ⟨w.heap.size + 1, 8, none⟩ (.slice none 0 0)).setCell ⟨w.heap.size + 1, 9, none⟩ (.int .i64 0)).setCell ⟨w.heap.size + 1, 10, none⟩ (.int .i64 0)).setCell ⟨w.heap.size + 1, 11, none⟩ (.slice none 0 0)) from ⟨rfl, (Below.setCell (p := ⟨w.heap.size + 1, 11, none⟩) (Below.setCell (p := ⟨w.heap.size + 1, 10, none⟩) (Below.setCell (p := ⟨w.heap.size + 1, 9, none⟩) (Below.setCell (p := ⟨w.heap.size + 1, 8, none⟩) (Below.setCell (p := ⟨w.heap.size + 1, 7, none⟩) (Below.setCell (p := ⟨w.heap.size + 1, 6, none⟩) (Below.setCell (p := ⟨w.heap.size + 1, 5, none⟩) (Below.setCell (p := ⟨w.heap.size + 1, 4, none⟩) (Below.setCell (p := ⟨w.heap.size + 1, 3, none⟩) (Below.setCell (p := ⟨w.heap.size + 1, 2, none⟩) (Below.setCell (p := ⟨w.heap.size + 1, 1, none⟩) (Below.setCell (p := ⟨w.heap.size + 1, 0, none⟩) B2.out (Nat.le_succ _) (.int .i64 a)) (Nat.le_succ _) (.int .i64 b)) (Nat.le_succ _) (.int .i64 0)) (Nat.le_succ _) (.int .i64 0)) (Nat.le_succ _) (.int .i64 0)) (Nat.le_succ _) (.int .i64 0)) (Nat.le_succ _) (.slice none 0 0)) (Nat.le_succ _) (.slice none 0 0)) (Nat.le_succ _) (.slice none 0 0)) (Nat.le_succ _) (.int .i64 0)) (Nat.le_succ _) (.int .i64 0)) (Nat.le_succ _) (.slice none 0 0))⟩)
    clear b2 X0 Y0 XH YH BH
    go_wp2
    
    exact bodyPost_ret (v := .agg #[.int .i64 a, .int .i64 b, .int .i64 0, .int .i64 0, .int .i64 0, .int .i64 0, .slice none 0 0, .slice none 0 0, .slice none 0 0, .int .i64 0, .int .i64 0, .slice none 0 0]) (by simp [results, Tryz.results127, go_sem, *]) rfl FH.out
end Go.Proofs.YtcpljmhcokdhpaaGreatDoor.Rd
