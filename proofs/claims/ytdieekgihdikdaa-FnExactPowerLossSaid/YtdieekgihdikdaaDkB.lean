/-
  Writes put into the buffer, in the program.
-/
import Derived.Test.YtdieekgihdikdaaDkO
namespace Go.Proofs.Ytdieekgihdikdaa.Rd
open Go.RowKit Go.ChangeShapes Go.WideShapes Go.Proofs.Ytdieekgihdikdaa.GfI Go.Proofs.Ytdieekgihdikdaa.GfS
open Go.Proofs.Ytdieekgihdikdaa.Sg (BxN)
set_option linter.unusedVariables false
set_option linter.unusedSimpArgs false

/-- What a call hands back: a list of its own. -/
def AnsLW {α : Type} [Rdb α] [Enc α] (E : TypeId) (l : List α) (w : World) (e : Ending) (w' : World) : Prop := ∃ a c, e = .returned (.slice a l.length c) ∧ OwnL E w.heap.size w' (.slice a l.length c) l ∧ Below w.heap.size w w'
set_option maxRecDepth 100000 in
set_option maxHeartbeats 4000000 in
theorem cloneSW (a : Option Addr) (cap : Nat) (l : List ByteArray) (w : World) (hl : l.length ≤ 1000000) {fr : Bool} {lo : Nat} (h : Rows fr lo w a l) :
    Calls Try.prog 100 #[.slice a l.length cap] w (AnsLW 9 l w) := by
  have q22 : ∀ (w : World) (a : Option Addr) (n c n' c' : Nat), (binOp .eql 28 (.slice a n c) (.slice none n' c')).run Try.prog w = .ok (.bool a.isNone) w := fun w a n c n' c' => Lib.run_eql_slice_nil w _ _ a n c n' c' Try.underlying28
  cases a with
  | none =>
    have e : l = [] := by rcases h with h | ⟨b, off, e, _⟩; exact h; cases e
    subst e
    have G := Lib.hid (show AnsLW 9 ([] : List ByteArray) w (.returned (.slice none 0 0)) w from ⟨none, 0, rfl, OwnL.nil _ _ _, Below.refl _ _⟩)
    clear h
    go_enter Try.func100, Try.ntmps100
    go_wp2
    go_ret
    exact G.out
  | some ad =>
    have LH := Lib.hid (lay w (.cells #[] 9))
    have J0 := Lib.hid (OwnL.made (α := ByteArray) 9 w.heap.size w (Nat.le_refl _))
    have WH := Lib.hid (h.below LH.out)
    clear h
    go_enter Try.func100, Try.ntmps100
    go_wp2_with (at_builtin; refine wpList_append_F rfl (.tmp 5) (.tmp 6) 28 9 (.string ByteArray.empty) 16 rfl Try.underlying28 infoStr rfl (by omega) w.heap.size _ [] l rfl J0.out (some ad) cap rfl WH.out (by simp; omega) (by rw [World.size_alloc]; omega) ?_; intro v' w3 J3 g3; rw [List.nil_append] at J3; obtain ⟨a3, c3, rfl⟩ := J3.val)
    have B3 := Lib.hid (LH.out.grown g3 (by rw [World.size_alloc]; omega) (fun c hc => by cases hc; exact Nat.le_refl _))
    have G := Lib.hid (show AnsLW 9 l w (.returned (.slice a3 l.length c3)) w3 from ⟨a3, c3, rfl, J3, B3.out⟩)
    clear J3 g3
    generalize l.length = n at *
    (try go_wp2)
    go_ret
    exact G.out
/-- A disk in lists of the call's own, the writes' block behind the sectors'. -/
def AnsM (d : DDisk) (w : World) (e : Ending) (w' : World) : Prop := ∃ a0 c0 a1 c1 m, e = .returned (.agg #[.slice a0 d.sectors.length c0, .slice a1 d.waits.length c1]) ∧ OwnL 9 w.heap.size w' (.slice a0 d.sectors.length c0) d.sectors ∧ (∀ g, (Value.slice a0 d.sectors.length c0).ownBlock = some g → g < m) ∧ OwnL 87 m w' (.slice a1 d.waits.length c1) d.waits ∧ (w.heap.size ≤ m ∧ m ≤ w'.heap.size) ∧ Below w.heap.size w w'
/-- Writes to consecutive sectors. -/
def addW : Int → List ByteArray → List DPending
  | _, [] => []
  | a, s :: l => ⟨a, s⟩ :: addW (a + 1) l
theorem addW_len : ∀ (a : Int) (l : List ByteArray), (addW a l).length = l.length
  | _, [] => rfl
  | a, s :: l => by show (addW (a + 1) l).length + 1 = l.length + 1; rw [addW_len]
theorem addW_snoc : ∀ (a : Int) (l : List ByteArray) (s : ByteArray), addW a (l ++ [s]) = addW a l ++ [⟨a + l.length, s⟩]
  | a, [], s => by simp [addW]
  | a, t :: l, s => by
    show ⟨a, t⟩ :: addW (a + 1) (l ++ [s]) = ⟨a, t⟩ :: (addW (a + 1) l ++ [⟨a + (t :: l).length, s⟩])
    rw [addW_snoc (a + 1) l s, List.length_cons]
    have : a + 1 + (l.length : Int) = a + ((l.length + 1 : Nat) : Int) := by omega
    rw [this]
theorem addW_take {a : Int} {l : List ByteArray} {j : Nat} {s : ByteArray} (h : l[j]? = some s) : addW a (l.take (j + 1)) = addW a (l.take j) ++ [⟨a + (j : Int), s⟩] := by
  have hj := (List.getElem?_eq_some_iff.1 h).1
  rw [List.take_add_one, h]
  show addW a (l.take j ++ [s]) = _
  rw [addW_snoc, List.length_take, Nat.min_eq_left (by omega)]
theorem addW_mem : ∀ {a : Int} {l : List ByteArray} {x : DPending}, x ∈ addW a l → x.bytes ∈ l
  | _, [], _, h => by simp [addW] at h
  | a, s :: l, x, h => by
    rcases List.mem_cons.1 h with q | q
    · rw [q]; simp
    · exact List.mem_cons_of_mem _ (addW_mem q)
/-- A disk with more writes in the buffer. -/
def bufD (d : DDisk) (a : Int) (l : List ByteArray) : DDisk := ⟨d.sectors, d.waits ++ addW a l⟩
end Go.Proofs.Ytdieekgihdikdaa.Rd
