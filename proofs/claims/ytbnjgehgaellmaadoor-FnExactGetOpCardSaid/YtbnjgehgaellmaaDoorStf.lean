/-
  The operation at the head of a text, in the program: what is read, and what a panic leaves (written by tools/gen/opr.py).
-/
import Derived.Test.YtbnjgehgaellmaaDoorOpR
import Derived.Defers
import Derived.Recover
import Derived.Laws.Pointers
import Derived.Stop.IfaceNil
namespace Go.Proofs.YtbnjgehgaellmaaDoor.Rd
open Go.RowKit Go.ChangeShapes Go.WideShapes Go.Proofs.YtbnjgehgaellmaaDoor.Gt Go.Proofs.YtbnjgehgaellmaaDoor.Cd
open Go.Proofs.YtbnjgehgaellmaaDoor.Sg (BxN)
set_option linter.unusedVariables false
set_option linter.unusedSimpArgs false

theorem bxBelow {lo : Nat} {w w' : World} {b : Nat} {vs : List Value} (h : BxN w b vs) (k : Below lo w w') (hb : b < lo) : BxN w' b vs :=
  ⟨Nat.lt_of_lt_of_le h.lt k.size, fun i v hv => (k.cell (p := ⟨b, i, none⟩) hb).trans (h.cells i v hv), fun i => (k.frozen (p := ⟨b, i, none⟩) hb).trans (h.free i)⟩

theorem chainL {w a b : World} {lo : Nat} (h : Below w.heap.size w a) (k : Below lo a b) (hl : w.heap.size ≤ lo) : Below w.heap.size w b := h.trans (k.mono hl)

set_option maxRecDepth 100000 in
set_option maxHeartbeats 8000000 in
theorem start_no1 (s : ByteArray) (T : TypeId) (V : Value) (hs : s.size ≤ 1048576) (h1 : rdN s 0 = none) (w : World) (hE : ErrAt T V w) :
    Calls Tryd.prog 11 #[.string s, .func (.func 12) #[] #[], .func (.func 13) #[] #[]] w (RetW NoOp w) := by
  have hmf : ∀ (fn : Fn) (first cap : Array Value) (w : World), (Instr.makeFunc fn first cap).run Tryd.prog w = .ok (.func fn first cap) w := fun _ _ _ _ => rfl
  have LW := chainX w (chainX w (lay w (.cells #[.int .i64 0, .int .i64 0, .string ByteArray.empty] 23)) (lay _ (.cells #[.bool false] 4))) (lay _ (.cells #[.string s, .int .i64 0] 50))
  have OH := Lib.hid (((BxN.new w #[.int .i64 0, .int .i64 0, .string ByteArray.empty] 23).later (lay _ (.cells #[.bool false] 4))).later (lay _ (.cells #[.string s, .int .i64 0] 50)))
  have K0 := (BxN.new (w.alloc (.cells #[.int .i64 0, .int .i64 0, .string ByteArray.empty] 23)) #[.bool false] 4).later (lay _ (.cells #[.string s, .int .i64 0] 50))
  have R0 := BxN.new ((w.alloc (.cells #[.int .i64 0, .int .i64 0, .string ByteArray.empty] 23)).alloc (.cells #[.bool false] 4)) #[.string s, .int .i64 0] 50
  simp only [World.size_alloc] at K0 R0
  have KH := Lib.hid K0
  have RH := Lib.hid R0
  have BH := Lib.hid LW
  clear K0 R0
  have RD := Lib.hid (opRead_no1 (w.heap.size + 1 + 1) s T V hs h1 _ RH.out (hE.later LW) (by omega))
  clear LW hE
  go_enter_defers Tryd.func11, Tryd.ntmps11
  go_wp2_with fail
  refine RD.out.mono ?_
  rintro e w2 ⟨rfl, b2⟩
  have OH := Lib.hid (bxBelow OH.out b2 (by omega))
  have KH := Lib.hid (bxBelow KH.out b2 (by omega))
  have BH := Lib.hid (chainL BH.out b2 (by omega))
  clear b2
  go_wp2
  refine leaves_cons (f := 18) (args := #[.pointer (some ⟨w.heap.size + 1, 0, none⟩)]) (by simp) (by simp [go_sem]) ?_
  refine (catchP ⟨w.heap.size + 1, 0, none⟩ false T V _ (KH.out.cells 0 _ rfl) (KH.out.free 0)).mono ?_
  rintro e u' w'' ⟨rfl, rfl, rfl⟩
  have O2 := OH.out.far (p := ⟨w.heap.size + 1, 0, none⟩) (by show w.heap.size + 1 ≠ w.heap.size; omega) (.bool false)
  have K2 := KH.out.put 0 (by simp) (.bool false)
  have o0 := O2.cells 0 _ rfl
  have o1 := O2.cells 1 _ rfl
  have o2 := O2.cells 2 _ rfl
  have k0 := K2.cells 0 _ rfl
  have FIN := Lib.hid (BH.out.setCell (p := ⟨w.heap.size + 1, 0, none⟩) (Nat.le_succ _) (.bool false))
  clear O2 K2
  simp [Leaves, settle, results, Tryd.results11, go_sem, o0, o1, o2, k0]
  exact ⟨rfl, FIN.out⟩

set_option maxRecDepth 100000 in
set_option maxHeartbeats 8000000 in
theorem start_no2 (s : ByteArray) (T : TypeId) (V : Value) (hs : s.size ≤ 1048576) {K : Int} {l1 : Nat} (h1 : rdN s 0 = some (K, l1)) (h2 : rdN s (0 + l1) = none) (w : World) (hE : ErrAt T V w) :
    Calls Tryd.prog 11 #[.string s, .func (.func 12) #[] #[], .func (.func 13) #[] #[]] w (RetW NoOp w) := by
  have hmf : ∀ (fn : Fn) (first cap : Array Value) (w : World), (Instr.makeFunc fn first cap).run Tryd.prog w = .ok (.func fn first cap) w := fun _ _ _ _ => rfl
  have LW := chainX w (chainX w (lay w (.cells #[.int .i64 0, .int .i64 0, .string ByteArray.empty] 23)) (lay _ (.cells #[.bool false] 4))) (lay _ (.cells #[.string s, .int .i64 0] 50))
  have OH := Lib.hid (((BxN.new w #[.int .i64 0, .int .i64 0, .string ByteArray.empty] 23).later (lay _ (.cells #[.bool false] 4))).later (lay _ (.cells #[.string s, .int .i64 0] 50)))
  have K0 := (BxN.new (w.alloc (.cells #[.int .i64 0, .int .i64 0, .string ByteArray.empty] 23)) #[.bool false] 4).later (lay _ (.cells #[.string s, .int .i64 0] 50))
  have R0 := BxN.new ((w.alloc (.cells #[.int .i64 0, .int .i64 0, .string ByteArray.empty] 23)).alloc (.cells #[.bool false] 4)) #[.string s, .int .i64 0] 50
  simp only [World.size_alloc] at K0 R0
  have KH := Lib.hid K0
  have RH := Lib.hid R0
  have BH := Lib.hid LW
  clear K0 R0
  have RD := Lib.hid (opRead_no2 (w.heap.size + 1 + 1) s T V hs h1 h2 _ RH.out (hE.later LW) (by omega))
  clear LW hE
  go_enter_defers Tryd.func11, Tryd.ntmps11
  go_wp2_with fail
  refine RD.out.mono ?_
  rintro e w2 ⟨rfl, b2⟩
  have OH := Lib.hid (bxBelow OH.out b2 (by omega))
  have KH := Lib.hid (bxBelow KH.out b2 (by omega))
  have BH := Lib.hid (chainL BH.out b2 (by omega))
  clear b2
  go_wp2
  refine leaves_cons (f := 18) (args := #[.pointer (some ⟨w.heap.size + 1, 0, none⟩)]) (by simp) (by simp [go_sem]) ?_
  refine (catchP ⟨w.heap.size + 1, 0, none⟩ false T V _ (KH.out.cells 0 _ rfl) (KH.out.free 0)).mono ?_
  rintro e u' w'' ⟨rfl, rfl, rfl⟩
  have O2 := OH.out.far (p := ⟨w.heap.size + 1, 0, none⟩) (by show w.heap.size + 1 ≠ w.heap.size; omega) (.bool false)
  have K2 := KH.out.put 0 (by simp) (.bool false)
  have o0 := O2.cells 0 _ rfl
  have o1 := O2.cells 1 _ rfl
  have o2 := O2.cells 2 _ rfl
  have k0 := K2.cells 0 _ rfl
  have FIN := Lib.hid (BH.out.setCell (p := ⟨w.heap.size + 1, 0, none⟩) (Nat.le_succ _) (.bool false))
  clear O2 K2
  simp [Leaves, settle, results, Tryd.results11, go_sem, o0, o1, o2, k0]
  exact ⟨rfl, FIN.out⟩

set_option maxRecDepth 100000 in
set_option maxHeartbeats 8000000 in
theorem start_no3 (s : ByteArray) (T : TypeId) (V : Value) (hs : s.size ≤ 1048576) {K A : Int} {l1 l2 : Nat} (h1 : rdN s 0 = some (K, l1)) (h2 : rdN s (0 + l1) = some (A, l2)) (h3 : rdT s (0 + l1 + l2) = none) (w : World) (hE : ErrAt T V w) :
    Calls Tryd.prog 11 #[.string s, .func (.func 12) #[] #[], .func (.func 13) #[] #[]] w (RetW NoOp w) := by
  have hmf : ∀ (fn : Fn) (first cap : Array Value) (w : World), (Instr.makeFunc fn first cap).run Tryd.prog w = .ok (.func fn first cap) w := fun _ _ _ _ => rfl
  have LW := chainX w (chainX w (lay w (.cells #[.int .i64 0, .int .i64 0, .string ByteArray.empty] 23)) (lay _ (.cells #[.bool false] 4))) (lay _ (.cells #[.string s, .int .i64 0] 50))
  have OH := Lib.hid (((BxN.new w #[.int .i64 0, .int .i64 0, .string ByteArray.empty] 23).later (lay _ (.cells #[.bool false] 4))).later (lay _ (.cells #[.string s, .int .i64 0] 50)))
  have K0 := (BxN.new (w.alloc (.cells #[.int .i64 0, .int .i64 0, .string ByteArray.empty] 23)) #[.bool false] 4).later (lay _ (.cells #[.string s, .int .i64 0] 50))
  have R0 := BxN.new ((w.alloc (.cells #[.int .i64 0, .int .i64 0, .string ByteArray.empty] 23)).alloc (.cells #[.bool false] 4)) #[.string s, .int .i64 0] 50
  simp only [World.size_alloc] at K0 R0
  have KH := Lib.hid K0
  have RH := Lib.hid R0
  have BH := Lib.hid LW
  clear K0 R0
  have RD := Lib.hid (opRead_no3 (w.heap.size + 1 + 1) s T V hs h1 h2 h3 _ RH.out (hE.later LW) (by omega))
  clear LW hE
  go_enter_defers Tryd.func11, Tryd.ntmps11
  go_wp2_with fail
  refine RD.out.mono ?_
  rintro e w2 ⟨rfl, b2⟩
  have OH := Lib.hid (bxBelow OH.out b2 (by omega))
  have KH := Lib.hid (bxBelow KH.out b2 (by omega))
  have BH := Lib.hid (chainL BH.out b2 (by omega))
  clear b2
  go_wp2
  refine leaves_cons (f := 18) (args := #[.pointer (some ⟨w.heap.size + 1, 0, none⟩)]) (by simp) (by simp [go_sem]) ?_
  refine (catchP ⟨w.heap.size + 1, 0, none⟩ false T V _ (KH.out.cells 0 _ rfl) (KH.out.free 0)).mono ?_
  rintro e u' w'' ⟨rfl, rfl, rfl⟩
  have O2 := OH.out.far (p := ⟨w.heap.size + 1, 0, none⟩) (by show w.heap.size + 1 ≠ w.heap.size; omega) (.bool false)
  have K2 := KH.out.put 0 (by simp) (.bool false)
  have o0 := O2.cells 0 _ rfl
  have o1 := O2.cells 1 _ rfl
  have o2 := O2.cells 2 _ rfl
  have k0 := K2.cells 0 _ rfl
  have FIN := Lib.hid (BH.out.setCell (p := ⟨w.heap.size + 1, 0, none⟩) (Nat.le_succ _) (.bool false))
  clear O2 K2
  simp [Leaves, settle, results, Tryd.results11, go_sem, o0, o1, o2, k0]
  exact ⟨rfl, FIN.out⟩

set_option maxRecDepth 100000 in
set_option maxHeartbeats 8000000 in
theorem start_no4 (s : ByteArray) (T : TypeId) (V : Value) (hs : s.size ≤ 1048576) {K A : Int} {S : ByteArray} {l1 l2 l3 : Nat} (h1 : rdN s 0 = some (K, l1)) (h2 : rdN s (0 + l1) = some (A, l2)) (h3 : rdT s (0 + l1 + l2) = some (S, l3)) (hv : okO 1 0 K A S = false) (w : World) (hE : ErrAt T V w) :
    Calls Tryd.prog 11 #[.string s, .func (.func 12) #[] #[], .func (.func 13) #[] #[]] w (RetW NoOp w) := by
  have hmf : ∀ (fn : Fn) (first cap : Array Value) (w : World), (Instr.makeFunc fn first cap).run Tryd.prog w = .ok (.func fn first cap) w := fun _ _ _ _ => rfl
  have LW := chainX w (chainX w (lay w (.cells #[.int .i64 0, .int .i64 0, .string ByteArray.empty] 23)) (lay _ (.cells #[.bool false] 4))) (lay _ (.cells #[.string s, .int .i64 0] 50))
  have OH := Lib.hid (((BxN.new w #[.int .i64 0, .int .i64 0, .string ByteArray.empty] 23).later (lay _ (.cells #[.bool false] 4))).later (lay _ (.cells #[.string s, .int .i64 0] 50)))
  have K0 := (BxN.new (w.alloc (.cells #[.int .i64 0, .int .i64 0, .string ByteArray.empty] 23)) #[.bool false] 4).later (lay _ (.cells #[.string s, .int .i64 0] 50))
  have R0 := BxN.new ((w.alloc (.cells #[.int .i64 0, .int .i64 0, .string ByteArray.empty] 23)).alloc (.cells #[.bool false] 4)) #[.string s, .int .i64 0] 50
  simp only [World.size_alloc] at K0 R0
  have KH := Lib.hid K0
  have RH := Lib.hid R0
  have BH := Lib.hid LW
  clear K0 R0
  have RD := Lib.hid (opRead_yes (w.heap.size + 1 + 1) s hs h1 h2 h3 _ RH.out)
  have EH := Lib.hid (hE.later LW)
  have OK := Lib.hid (fun w' => opIsOk K A S false hv w')
  clear LW hE hv
  generalize ((0 + l1 + l2 + l3 : Nat) : Int) = n at *
  go_enter_defers Tryd.func11, Tryd.ntmps11
  go_wp2_with fail
  refine RD.out.mono ?_
  rintro e w2 ⟨rfl, X2, b2⟩
  have OH := Lib.hid (bxBelow OH.out b2 (by omega))
  have KH := Lib.hid (bxBelow KH.out b2 (by omega))
  have BH := Lib.hid (chainL BH.out b2 (by omega))
  have EH := Lib.hid (show ErrAt T V w2 from ⟨(b2.cell (p := ⟨0, 0, none⟩) (by show 0 < _; omega)).trans EH.out.1, by have := X2.lt; omega⟩)
  have RH := Lib.hid X2
  clear X2 b2
  have LY := lay w2 (.cells #[.int .i64 K, .int .i64 A, .string S] 23)
  have VH := Lib.hid (BxN.new w2 #[.int .i64 K, .int .i64 A, .string S] 23)
  have NE := Lib.hid RH.out.lt
  have OH := Lib.hid (OH.out.later LY)
  have KH := Lib.hid (KH.out.later LY)
  have RH := Lib.hid (RH.out.later LY)
  have EH := Lib.hid (EH.out.later LY)
  have BH := Lib.hid (chainX w BH.out LY)
  clear LY
  have V_0 := VH.out.cells 0 _ rfl
  have V_1 := VH.out.cells 1 _ rfl
  have V_2 := VH.out.cells 2 _ rfl
  go_wp2_with fail
  refine (OK.out _).mono ?_
  rintro e w7 ⟨rfl, b9⟩
  (try replace b9 := undrewX b9)
  have OH := Lib.hid (OH.out.later b9)
  have KH := Lib.hid (KH.out.later b9)
  have RH := Lib.hid (RH.out.later b9)
  have VH := Lib.hid (VH.out.later b9)
  have EH := Lib.hid (EH.out.later b9)
  have BH := Lib.hid (chainX w BH.out b9)
  clear b9 V_0 V_1 V_2
  go_wp2_with fail
  refine (want_no _ T V _ EH.out).mono ?_
  rintro e w8 ⟨rfl, rfl⟩
  go_wp2
  refine leaves_cons (f := 18) (args := #[.pointer (some ⟨w.heap.size + 1, 0, none⟩)]) (by simp) (by simp [go_sem]) ?_
  refine (catchP ⟨w.heap.size + 1, 0, none⟩ false T V _ (KH.out.cells 0 _ rfl) (KH.out.free 0)).mono ?_
  rintro e u' w'' ⟨rfl, rfl, rfl⟩
  have O2 := OH.out.far (p := ⟨w.heap.size + 1, 0, none⟩) (by show w.heap.size + 1 ≠ w.heap.size; omega) (.bool false)
  have K2 := KH.out.put 0 (by simp) (.bool false)
  have o0 := O2.cells 0 _ rfl
  have o1 := O2.cells 1 _ rfl
  have o2 := O2.cells 2 _ rfl
  have k0 := K2.cells 0 _ rfl
  have FIN := Lib.hid (BH.out.setCell (p := ⟨w.heap.size + 1, 0, none⟩) (Nat.le_succ _) (.bool false))
  clear O2 K2
  simp [Leaves, settle, results, Tryd.results11, go_sem, o0, o1, o2, k0]
  exact ⟨rfl, FIN.out⟩

set_option maxRecDepth 100000 in
set_option maxHeartbeats 8000000 in
theorem start_yes (s : ByteArray) (T : TypeId) (V : Value) (hs : s.size ≤ 1048576) {K A : Int} {S : ByteArray} {l1 l2 l3 : Nat} (h1 : rdN s 0 = some (K, l1)) (h2 : rdN s (0 + l1) = some (A, l2)) (h3 : rdT s (0 + l1 + l2) = some (S, l3)) (hv : okO 1 0 K A S = true) (w : World) (hE : ErrAt T V w) :
    Calls Tryd.prog 11 #[.string s, .func (.func 12) #[] #[], .func (.func 13) #[] #[]] w (RetW (.tuple #[.agg #[.int .i64 K, .int .i64 A, .string S], .int .i64 ((0 + l1 + l2 + l3 : Nat) : Int), .bool true]) w) := by
  have hmf : ∀ (fn : Fn) (first cap : Array Value) (w : World), (Instr.makeFunc fn first cap).run Tryd.prog w = .ok (.func fn first cap) w := fun _ _ _ _ => rfl
  have LW := chainX w (chainX w (lay w (.cells #[.int .i64 0, .int .i64 0, .string ByteArray.empty] 23)) (lay _ (.cells #[.bool false] 4))) (lay _ (.cells #[.string s, .int .i64 0] 50))
  have OH := Lib.hid (((BxN.new w #[.int .i64 0, .int .i64 0, .string ByteArray.empty] 23).later (lay _ (.cells #[.bool false] 4))).later (lay _ (.cells #[.string s, .int .i64 0] 50)))
  have K0 := (BxN.new (w.alloc (.cells #[.int .i64 0, .int .i64 0, .string ByteArray.empty] 23)) #[.bool false] 4).later (lay _ (.cells #[.string s, .int .i64 0] 50))
  have R0 := BxN.new ((w.alloc (.cells #[.int .i64 0, .int .i64 0, .string ByteArray.empty] 23)).alloc (.cells #[.bool false] 4)) #[.string s, .int .i64 0] 50
  simp only [World.size_alloc] at K0 R0
  have KH := Lib.hid K0
  have RH := Lib.hid R0
  have BH := Lib.hid LW
  clear K0 R0
  have RD := Lib.hid (opRead_yes (w.heap.size + 1 + 1) s hs h1 h2 h3 _ RH.out)
  have EH := Lib.hid (hE.later LW)
  have OK := Lib.hid (fun w' => opIsOk K A S true hv w')
  clear LW hE hv
  generalize ((0 + l1 + l2 + l3 : Nat) : Int) = n at *
  go_enter_defers Tryd.func11, Tryd.ntmps11
  go_wp2_with fail
  refine RD.out.mono ?_
  rintro e w2 ⟨rfl, X2, b2⟩
  have OH := Lib.hid (bxBelow OH.out b2 (by omega))
  have KH := Lib.hid (bxBelow KH.out b2 (by omega))
  have BH := Lib.hid (chainL BH.out b2 (by omega))
  have EH := Lib.hid (show ErrAt T V w2 from ⟨(b2.cell (p := ⟨0, 0, none⟩) (by show 0 < _; omega)).trans EH.out.1, by have := X2.lt; omega⟩)
  have RH := Lib.hid X2
  clear X2 b2
  have LY := lay w2 (.cells #[.int .i64 K, .int .i64 A, .string S] 23)
  have VH := Lib.hid (BxN.new w2 #[.int .i64 K, .int .i64 A, .string S] 23)
  have NE := Lib.hid RH.out.lt
  have OH := Lib.hid (OH.out.later LY)
  have KH := Lib.hid (KH.out.later LY)
  have RH := Lib.hid (RH.out.later LY)
  have EH := Lib.hid (EH.out.later LY)
  have BH := Lib.hid (chainX w BH.out LY)
  clear LY
  have V_0 := VH.out.cells 0 _ rfl
  have V_1 := VH.out.cells 1 _ rfl
  have V_2 := VH.out.cells 2 _ rfl
  go_wp2_with fail
  refine (OK.out _).mono ?_
  rintro e w7 ⟨rfl, b9⟩
  (try replace b9 := undrewX b9)
  have OH := Lib.hid (OH.out.later b9)
  have KH := Lib.hid (KH.out.later b9)
  have RH := Lib.hid (RH.out.later b9)
  have VH := Lib.hid (VH.out.later b9)
  have EH := Lib.hid (EH.out.later b9)
  have BH := Lib.hid (chainX w BH.out b9)
  clear b9 V_0 V_1 V_2
  go_wp2_with fail
  refine (want_yes _ _).mono ?_
  rintro e w8 ⟨rfl, rfl⟩
  have ne0 := NE.out
  generalize w2.heap.size = vb at *
  have ne1 : vb ≠ w.heap.size := by omega
  have ne2 : w.heap.size ≠ vb := by omega
  have ne3 : vb ≠ w.heap.size + 1 := by omega
  have ne4 : w.heap.size + 1 ≠ vb := by omega
  have V_0 := VH.out.cells 0 _ rfl
  have V_1 := VH.out.cells 1 _ rfl
  have V_2 := VH.out.cells 2 _ rfl
  have O_0 := OH.out.cells 0 _ rfl
  have O_1 := OH.out.cells 1 _ rfl
  have O_2 := OH.out.cells 2 _ rfl
  have of := OH.out.free
  have K_0 := KH.out.cells 0 _ rfl
  have kf := KH.out.free
  have R_1 := RH.out.cells 1 _ rfl
  generalize hrb : w.heap.size + 1 + 1 = rb at *
  have ne5 : rb ≠ w.heap.size := by omega
  have ne6 : w.heap.size ≠ rb := by omega
  have ne7 : rb ≠ w.heap.size + 1 := by omega
  have ne8 : w.heap.size + 1 ≠ rb := by omega
  clear hrb ne0
  go_wp2_with fail
  go_region_held3 (fun w' => w'.cell? ⟨vb, 0, none⟩ = some (.int .i64 K) ∧ w'.cell? ⟨vb, 1, none⟩ = some (.int .i64 A) ∧ w'.cell? ⟨vb, 2, none⟩ = some (.string S) ∧ w'.cell? ⟨rb, 1, none⟩ = some (.int .i64 n)) (go_keep)
    (fail)
  go_wp2
  have p0 := OH.out.put 0 (by simp) (.int .i64 K)
  have p1 := p0.put 1 (by simp) (.int .i64 A)
  have p2 := p1.put 2 (by simp) (.string S)
  have OD := Lib.hid (BxN.drew (p2.far (p := ⟨w.heap.size + 1, 0, none⟩) (by show w.heap.size + 1 ≠ w.heap.size; omega) (.bool true)))
  have k1 := ((KH.out.far (p := ⟨w.heap.size, 0, none⟩) (by show w.heap.size ≠ w.heap.size + 1; omega) (.int .i64 K)).far (p := ⟨w.heap.size, 1, none⟩) (by show w.heap.size ≠ w.heap.size + 1; omega) (.int .i64 A)).far (p := ⟨w.heap.size, 2, none⟩) (by show w.heap.size ≠ w.heap.size + 1; omega) (.string S)
  have KD := Lib.hid (BxN.drew (k1.put 0 (by simp) (.bool true)))
  have BD := Lib.hid (((((BH.out.setCell (p := ⟨w.heap.size, 0, none⟩) (Nat.le_refl _) (.int .i64 K)).setCell (p := ⟨w.heap.size, 1, none⟩) (Nat.le_refl _) (.int .i64 A)).setCell (p := ⟨w.heap.size, 2, none⟩) (Nat.le_refl _) (.string S)).setCell (p := ⟨w.heap.size + 1, 0, none⟩) (Nat.le_succ _) (.bool true)).drew)
  clear p0 p1 p2 k1 V_0 V_1 V_2 O_0 O_1 O_2 K_0 R_1 of kf
  generalize (((((w8.setCell ⟨w.heap.size, 0, none⟩ (.int .i64 K)).setCell ⟨w.heap.size, 1, none⟩ (.int .i64 A)).setCell ⟨w.heap.size, 2, none⟩ (.string S)).setCell ⟨w.heap.size + 1, 0, none⟩ (.bool true)).drew) = wz at *
  refine leaves_cons (f := 18) (args := #[.pointer (some ⟨w.heap.size + 1, 0, none⟩)]) (by simp) (by simp [go_sem]) ?_
  refine (catchR ⟨w.heap.size + 1, 0, none⟩ true T V _ (KD.out.cells 0 _ rfl) (KD.out.free 0)).mono ?_
  rintro e u' w'' ⟨rfl, rfl, rfl⟩
  have O2 := OD.out.far (p := ⟨w.heap.size + 1, 0, none⟩) (by show w.heap.size + 1 ≠ w.heap.size; omega) (.bool true)
  have K2 := KD.out.put 0 (by simp) (.bool true)
  have o0 := O2.cells 0 _ rfl
  have o1 := O2.cells 1 _ rfl
  have o2 := O2.cells 2 _ rfl
  have k0 := K2.cells 0 _ rfl
  have FIN := Lib.hid (BD.out.setCell (p := ⟨w.heap.size + 1, 0, none⟩) (Nat.le_succ _) (.bool true))
  clear O2 K2
  simp [Leaves, settle, results, Tryd.results11, go_sem, o0, o1, o2, k0]
  exact ⟨rfl, FIN.out⟩

set_option maxRecDepth 100000 in
set_option maxHeartbeats 8000000 in
theorem implGetOp_no1 (s : ByteArray) (T : TypeId) (V : Value) (hs : s.size ≤ 1048576) (h1 : rdN s 0 = none) (w : World) (hE : ErrAt T V w) :
    Calls Tryd.prog 5 #[.string s] w (RetW (NoOp) w) := by
  have LW := lay w (.cells #[.int .i64 0, .int .i64 0, .string ByteArray.empty] 23)
  have OH := Lib.hid (BxN.new w #[.int .i64 0, .int .i64 0, .string ByteArray.empty] 23)
  have C := Lib.hid (start_no1 s T V hs h1 _ (hE.later LW))
  have BH := Lib.hid LW
  clear LW hE
  go_enter Tryd.func5, Tryd.ntmps5
  go_wp2_with fail
  refine C.out.mono ?_
  rintro e w2 ⟨rfl, b2⟩
  have OH := Lib.hid (OH.out.later b2)
  have BH := Lib.hid (chainX w BH.out b2)
  clear b2 C
  have O_0 := OH.out.cells 0 _ rfl
  have O_1 := OH.out.cells 1 _ rfl
  have O_2 := OH.out.cells 2 _ rfl
  have of := OH.out.free
  have FIN := Lib.hid (((BH.out.setCell (p := ⟨w.heap.size, 0, none⟩) (Nat.le_refl _) (.int .i64 0)).setCell (p := ⟨w.heap.size, 1, none⟩) (Nat.le_refl _) (.int .i64 0)).setCell (p := ⟨w.heap.size, 2, none⟩) (Nat.le_refl _) (.string ByteArray.empty))
  go_wp2
  exact bodyPost_ret (v := NoOp) (by simp [results, Tryd.results5, go_sem, *]) rfl ⟨rfl, FIN.out⟩

set_option maxRecDepth 100000 in
set_option maxHeartbeats 8000000 in
theorem implGetOp_no2 (s : ByteArray) (T : TypeId) (V : Value) (hs : s.size ≤ 1048576) {K : Int} {l1 : Nat} (h1 : rdN s 0 = some (K, l1)) (h2 : rdN s (0 + l1) = none) (w : World) (hE : ErrAt T V w) :
    Calls Tryd.prog 5 #[.string s] w (RetW (NoOp) w) := by
  have LW := lay w (.cells #[.int .i64 0, .int .i64 0, .string ByteArray.empty] 23)
  have OH := Lib.hid (BxN.new w #[.int .i64 0, .int .i64 0, .string ByteArray.empty] 23)
  have C := Lib.hid (start_no2 s T V hs h1 h2 _ (hE.later LW))
  have BH := Lib.hid LW
  clear LW hE
  go_enter Tryd.func5, Tryd.ntmps5
  go_wp2_with fail
  refine C.out.mono ?_
  rintro e w2 ⟨rfl, b2⟩
  have OH := Lib.hid (OH.out.later b2)
  have BH := Lib.hid (chainX w BH.out b2)
  clear b2 C
  have O_0 := OH.out.cells 0 _ rfl
  have O_1 := OH.out.cells 1 _ rfl
  have O_2 := OH.out.cells 2 _ rfl
  have of := OH.out.free
  have FIN := Lib.hid (((BH.out.setCell (p := ⟨w.heap.size, 0, none⟩) (Nat.le_refl _) (.int .i64 0)).setCell (p := ⟨w.heap.size, 1, none⟩) (Nat.le_refl _) (.int .i64 0)).setCell (p := ⟨w.heap.size, 2, none⟩) (Nat.le_refl _) (.string ByteArray.empty))
  go_wp2
  exact bodyPost_ret (v := NoOp) (by simp [results, Tryd.results5, go_sem, *]) rfl ⟨rfl, FIN.out⟩

set_option maxRecDepth 100000 in
set_option maxHeartbeats 8000000 in
theorem implGetOp_no3 (s : ByteArray) (T : TypeId) (V : Value) (hs : s.size ≤ 1048576) {K A : Int} {l1 l2 : Nat} (h1 : rdN s 0 = some (K, l1)) (h2 : rdN s (0 + l1) = some (A, l2)) (h3 : rdT s (0 + l1 + l2) = none) (w : World) (hE : ErrAt T V w) :
    Calls Tryd.prog 5 #[.string s] w (RetW (NoOp) w) := by
  have LW := lay w (.cells #[.int .i64 0, .int .i64 0, .string ByteArray.empty] 23)
  have OH := Lib.hid (BxN.new w #[.int .i64 0, .int .i64 0, .string ByteArray.empty] 23)
  have C := Lib.hid (start_no3 s T V hs h1 h2 h3 _ (hE.later LW))
  have BH := Lib.hid LW
  clear LW hE
  go_enter Tryd.func5, Tryd.ntmps5
  go_wp2_with fail
  refine C.out.mono ?_
  rintro e w2 ⟨rfl, b2⟩
  have OH := Lib.hid (OH.out.later b2)
  have BH := Lib.hid (chainX w BH.out b2)
  clear b2 C
  have O_0 := OH.out.cells 0 _ rfl
  have O_1 := OH.out.cells 1 _ rfl
  have O_2 := OH.out.cells 2 _ rfl
  have of := OH.out.free
  have FIN := Lib.hid (((BH.out.setCell (p := ⟨w.heap.size, 0, none⟩) (Nat.le_refl _) (.int .i64 0)).setCell (p := ⟨w.heap.size, 1, none⟩) (Nat.le_refl _) (.int .i64 0)).setCell (p := ⟨w.heap.size, 2, none⟩) (Nat.le_refl _) (.string ByteArray.empty))
  go_wp2
  exact bodyPost_ret (v := NoOp) (by simp [results, Tryd.results5, go_sem, *]) rfl ⟨rfl, FIN.out⟩

set_option maxRecDepth 100000 in
set_option maxHeartbeats 8000000 in
theorem implGetOp_no4 (s : ByteArray) (T : TypeId) (V : Value) (hs : s.size ≤ 1048576) {K A : Int} {S : ByteArray} {l1 l2 l3 : Nat} (h1 : rdN s 0 = some (K, l1)) (h2 : rdN s (0 + l1) = some (A, l2)) (h3 : rdT s (0 + l1 + l2) = some (S, l3)) (hv : okO 1 0 K A S = false) (w : World) (hE : ErrAt T V w) :
    Calls Tryd.prog 5 #[.string s] w (RetW (NoOp) w) := by
  have LW := lay w (.cells #[.int .i64 0, .int .i64 0, .string ByteArray.empty] 23)
  have OH := Lib.hid (BxN.new w #[.int .i64 0, .int .i64 0, .string ByteArray.empty] 23)
  have C := Lib.hid (start_no4 s T V hs h1 h2 h3 hv _ (hE.later LW))
  have BH := Lib.hid LW
  clear LW hE
  go_enter Tryd.func5, Tryd.ntmps5
  go_wp2_with fail
  refine C.out.mono ?_
  rintro e w2 ⟨rfl, b2⟩
  have OH := Lib.hid (OH.out.later b2)
  have BH := Lib.hid (chainX w BH.out b2)
  clear b2 C
  have O_0 := OH.out.cells 0 _ rfl
  have O_1 := OH.out.cells 1 _ rfl
  have O_2 := OH.out.cells 2 _ rfl
  have of := OH.out.free
  have FIN := Lib.hid (((BH.out.setCell (p := ⟨w.heap.size, 0, none⟩) (Nat.le_refl _) (.int .i64 0)).setCell (p := ⟨w.heap.size, 1, none⟩) (Nat.le_refl _) (.int .i64 0)).setCell (p := ⟨w.heap.size, 2, none⟩) (Nat.le_refl _) (.string ByteArray.empty))
  go_wp2
  exact bodyPost_ret (v := NoOp) (by simp [results, Tryd.results5, go_sem, *]) rfl ⟨rfl, FIN.out⟩

set_option maxRecDepth 100000 in
set_option maxHeartbeats 8000000 in
theorem implGetOp_yes (s : ByteArray) (T : TypeId) (V : Value) (hs : s.size ≤ 1048576) {K A : Int} {S : ByteArray} {l1 l2 l3 : Nat} (h1 : rdN s 0 = some (K, l1)) (h2 : rdN s (0 + l1) = some (A, l2)) (h3 : rdT s (0 + l1 + l2) = some (S, l3)) (hv : okO 1 0 K A S = true) (w : World) (hE : ErrAt T V w) :
    Calls Tryd.prog 5 #[.string s] w (RetW (.tuple #[.agg #[.int .i64 K, .int .i64 A, .string S], .int .i64 ((0 + l1 + l2 + l3 : Nat) : Int), .bool true]) w) := by
  have LW := lay w (.cells #[.int .i64 0, .int .i64 0, .string ByteArray.empty] 23)
  have OH := Lib.hid (BxN.new w #[.int .i64 0, .int .i64 0, .string ByteArray.empty] 23)
  have C := Lib.hid (start_yes s T V hs h1 h2 h3 hv _ (hE.later LW))
  have BH := Lib.hid LW
  clear LW hE
  generalize ((0 + l1 + l2 + l3 : Nat) : Int) = n at *
  go_enter Tryd.func5, Tryd.ntmps5
  go_wp2_with fail
  refine C.out.mono ?_
  rintro e w2 ⟨rfl, b2⟩
  have OH := Lib.hid (OH.out.later b2)
  have BH := Lib.hid (chainX w BH.out b2)
  clear b2 C
  have O_0 := OH.out.cells 0 _ rfl
  have O_1 := OH.out.cells 1 _ rfl
  have O_2 := OH.out.cells 2 _ rfl
  have of := OH.out.free
  have FIN := Lib.hid (((BH.out.setCell (p := ⟨w.heap.size, 0, none⟩) (Nat.le_refl _) (.int .i64 K)).setCell (p := ⟨w.heap.size, 1, none⟩) (Nat.le_refl _) (.int .i64 A)).setCell (p := ⟨w.heap.size, 2, none⟩) (Nat.le_refl _) (.string S))
  go_wp2
  exact bodyPost_ret (v := .tuple #[.agg #[.int .i64 K, .int .i64 A, .string S], .int .i64 n, .bool true]) (by simp [results, Tryd.results5, go_sem, *]) rfl ⟨rfl, FIN.out⟩
end Go.Proofs.YtbnjgehgaellmaaDoor.Rd
