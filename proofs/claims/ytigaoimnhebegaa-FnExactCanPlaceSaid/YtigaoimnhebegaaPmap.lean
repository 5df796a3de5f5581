/-
  A map from numbers to interface values that the call made: read as a function from numbers to values (nilIface: not there).
-/
import Derived.WalkKit
import Derived.Below
import Derived.Maps.Own
import Derived.Maps.OwnOps
import Derived.Maps.Views
namespace Go.Proofs.Ytigaoimnhebegaa.Pm
open Go.RowKit
open Go.Maps (Keyed IsMap isMap_empty)
set_option linter.unusedVariables false

/-- How an element of the map reads: as itself. -/
def Rh (v : Value) : Option (DataW Value × List MemPlace) := some (.held v, [])

/-- Block b of w is a map of at most n entries; at the number x it holds m x (nilIface where it holds nothing). -/
def isNil : Value → Bool
  | .nilIface => true
  | _ => false
def pick (v : Value) (z : DataW Value) : DataW Value := if isNil v then z else .held v
def Fun (P : Program) (k : TypeId) (w : World) (b n : Nat) (m : Int → Value) : Prop :=
  ∃ D : DataW Value, IsMap D ∧ w.ownsMap P k Rh b n D ∧ ∀ x z, D.atKey (.int .i64 x) z = pick (m x) z
theorem Fun.made (P : Program) (k : TypeId) (w : World) : Fun P k (w.alloc (.map #[] 0)) w.heap.size 0 (fun _ => .nilIface) :=
  ⟨_, isMap_empty, World.ownsMap_made _ _ _ _, fun x z => rfl⟩
theorem Fun.kept {P : Program} {k : TypeId} {w w' : World} {b n : Nat} {m : Int → Value} {r : Option Nat} (h : Fun P k w b n m) (g : w.grownBy w' r) (hne : some b ≠ r) : Fun P k w' b n m := by
  obtain ⟨D, hD, ho, hm⟩ := h; exact ⟨D, hD, ho.kept g hne, hm⟩
theorem Fun.lt {P : Program} {k : TypeId} {w : World} {b n : Nat} {m : Int → Value} (h : Fun P k w b n m) : b < w.heap.size := by obtain ⟨D, _, ho, _⟩ := h; exact ho.lt
theorem Fun.later {P : Program} {k : TypeId} {w w' : World} {b n : Nat} {m : Int → Value} (h : Fun P k w b n m) (g : Below w.heap.size w w') : Fun P k w' b n m :=
  h.kept (r := none) ⟨g.os, g.tape, g.output, g.size, fun c hc _ => g.block c hc⟩ (by simp)
theorem Fun.set {P : Program} {k : TypeId} {w : World} {b n : Nat} {m : Int → Value} (h : Fun P k w b n m) {p : Addr} (hp : p.block ≠ b) (v : Value) : Fun P k (w.setCell p v) b n m :=
  h.kept (r := some p.block) ⟨rfl, rfl, rfl, by simp, fun c hc hne => Below.heap_setCell _ _ _ _ (fun e => hne (by rw [e]))⟩ (fun e => hp (Option.some.inj e).symm)
theorem Fun.drew {P : Program} {k : TypeId} {w : World} {b n : Nat} {m : Int → Value} (h : Fun P k w b n m) : Fun P k w.drew b n m := by
  obtain ⟨D, hD, ho, hm⟩ := h; exact ⟨D, hD, ho.drew, hm⟩
theorem Fun.mono {P : Program} {k : TypeId} {w : World} {b n n' : Nat} {m : Int → Value} (h : Fun P k w b n m) (hn : n ≤ n') : Fun P k w b n' m := by
  obtain ⟨D, hD, ho, hm⟩ := h; exact ⟨D, hD, ho.mono hn, hm⟩
/-- The map with one more entry. -/
def upd (m : Int → Value) (x : Int) (v : Value) : Int → Value := fun y => if y = x then v else m y
theorem at_put {D : DataW Value} (hD : IsMap D) {m : Int → Value} (hm : ∀ x z, D.atKey (.int .i64 x) z = pick (m x) z) (x : Int) (v : Value) (hv : isNil v = false) :
    ∀ y z, (D.put (.int .i64 x) (.held v)).atKey (.int .i64 y) z = pick (upd m x v y) z := by
  intro y z
  unfold upd
  by_cases e : y = x
  · subst e; rw [if_pos rfl, Maps.atKey_put_same hD (show WideAt.IsKeyLit (.int .i64 y) from trivial)]; unfold pick; rw [hv]; rfl
  · rw [if_neg e, Maps.atKey_put_other (by intro q; exact e (by injection q)), hm]

/-- A store into such a map, at the operation. -/
theorem wpList_store {P : Program} (w : World) {ops : Array Oper} {rest : List Oper} {o : Oper} {a : Act} {Q : Exit → Act → World → Prop}
    (hg : o.guard = none) (m x v : Operand) (t : TypeId) (hop : o.op = Op.mapUpdate t m x v)
    (k e : TypeId) (K : Keyed P k) (ht : P.underlying t = some (.map k e)) (hk : P.underlying k = some (.int .i64)) (b n : Nat) (f : Int → Value)
    (hm : a.eval m = .map (some b)) (hown : Fun P k w b n f) (hn : n < maxLen) (z : Int) (val : Value) (hx : a.eval x = .int .i64 z) (hv : a.eval v = val) (hn2 : isNil val = false) (hz : (Lit.int .i64 z).wf = true)
    (hK : ∀ w', Fun P k w' b (n + 1) (upd f z val) → w.grownBy w' (some b) → wpList P ops Q rest (a.put o.dst undef) w') :
    wpList P ops Q (o :: rest) a w := by
  obtain ⟨D, hD, ho, hf⟩ := hown
  exact wpList_mapUpdate_own w hg m x v t hop k e K ht Rh b n D hm ho hn (.int .i64 z) val (.int .i64 z) hx hv (Maps.keyOf_int_mk hk hz) (.held val) [] rfl
    (fun w' o' g' => hK w' ⟨_, hD.put _ _, o', at_put hD hf z val hn2⟩ g')

/-- What a look-up gives: as an equation on the operation's run. -/
theorem Fun.look {P : Program} {k t e : TypeId} {w : World} {b n : Nat} {m : Int → Value} (h : Fun P k w b n m) (K : Keyed P k) (ht : P.underlying t = some (.map k e)) (hk : P.underlying k = some (.int .i64))
    (hz : (zeroValue e).run P w = .ok .nilIface w) (x : Int) (hx : (Lit.int .i64 x).wf = true) : (Instr.lookup t (.map (some b)) (.int .i64 x) false).run P w = .ok (m x) w := by
  obtain ⟨D, hD, ho, hm⟩ := h
  obtain ⟨v, ps, hrun, hv⟩ := ho.lookup K ht hz (zd := .held .nilIface) (zp := []) rfl (Maps.keyOf_int_mk hk hx)
  rw [hm] at hv
  have hv : pick (m x) (.held .nilIface) = .held v := by unfold Rh at hv; simp at hv; exact hv.1.symm
  have e : v = m x := by
    unfold pick at hv
    cases q : isNil (m x)
    · rw [q] at hv; simpa using hv.symm
    · rw [q] at hv
      have e2 : m x = .nilIface := by cases hm2 : m x <;> rw [hm2] at q <;> first | rfl | cases q
      rw [e2]; simpa using hv.symm
  rw [hrun, e]
/-- .. with ok. -/
theorem Fun.look2 {P : Program} {k t e : TypeId} {w : World} {b n : Nat} {m : Int → Value} (h : Fun P k w b n m) (K : Keyed P k) (ht : P.underlying t = some (.map k e)) (hk : P.underlying k = some (.int .i64))
    (hz : (zeroValue e).run P w = .ok .nilIface w) (x : Int) (hx : (Lit.int .i64 x).wf = true) : (Instr.lookup t (.map (some b)) (.int .i64 x) true).run P w = .ok (.tuple #[m x, .bool (!isNil (m x))]) w := by
  obtain ⟨D, hD, ⟨es, clock, hb, F, _, rfl⟩, hm⟩ := h
  have h0 := hm x .nil
  have h1 := hm x (.lit (.bool true))
  rcases Maps.fit_look true K ht hz hb F (Maps.keyOf_int_mk hk hx) with ⟨hrun, _, hat⟩ | ⟨e0, y, _, _, hrun, hRv, hat, _⟩
  · rw [hat] at h0
    unfold pick at h0
    cases q : isNil (m x)
    · rw [q] at h0; simp at h0
    · have e2 : m x = .nilIface := by cases hm2 : m x <;> rw [hm2] at q <;> first | rfl | cases q
      rw [hrun, e2]; rfl
  · rw [hat] at h0 h1
    have hy : y.1 = .held e0.val := by unfold Rh at hRv; have : (DataW.held e0.val, []) = y := by simpa using hRv
                                       rw [← this]
    rw [hy] at h0 h1
    unfold pick at h0 h1
    cases q : isNil (m x)
    · rw [q] at h0
      have : e0.val = m x := by simpa using h0
      rw [hrun, this]; rfl
    · rw [q] at h0; simp at h0
/-- A store into such a map, as an equation on the operation's run; no block is made. -/
theorem Fun.update {P : Program} {k t e : TypeId} {w : World} {b n : Nat} {m : Int → Value} (h : Fun P k w b n m) (K : Keyed P k) (ht : P.underlying t = some (.map k e)) (hk : P.underlying k = some (.int .i64)) (hn : n < maxLen)
    (z : Int) (hz : (Lit.int .i64 z).wf = true) (val : Value) (hv : isNil val = false) :
    ∃ w', (Instr.mapUpdate t (.map (some b)) (.int .i64 z) val).run P w = .ok () w' ∧ Fun P k w' b (n + 1) (upd m z val) ∧ w.grownBy w' (some b) ∧ w'.heap.size = w.heap.size := by
  obtain ⟨D, hD, ho, hm⟩ := h
  obtain ⟨w', hrun, ho', g'⟩ := ho.update K ht hn (Maps.keyOf_int_mk hk hz) (val := val) (d := .held val) (ps := []) rfl
  refine ⟨w', hrun, ⟨_, hD.put _ _, ho', at_put hD hm z val hv⟩, g', ?_⟩
  obtain ⟨es, clock, hb, F, hs, rfl⟩ := ho
  obtain ⟨es', clock', hrun2, _⟩ := Maps.fit_store (R' := Rh) K ht hb F (Nat.lt_of_le_of_lt hs hn) (fun _ _ _ _ hz => hz) (Maps.keyOf_int_mk hk hz) (val := val) (yv := (.held val, [])) rfl
  rw [hrun] at hrun2
  injection hrun2 with _ e
  rw [e]; simp [ChangeMaps.setBlock]
/-- .. at the operation. -/
theorem wpList_store2 {P : Program} (w : World) {ops : Array Oper} {rest : List Oper} {o : Oper} {a : Act} {Q : Exit → Act → World → Prop}
    (hg : o.guard = none) (m x v : Operand) (t : TypeId) (hop : o.op = Op.mapUpdate t m x v)
    (k e : TypeId) (K : Keyed P k) (ht : P.underlying t = some (.map k e)) (hk : P.underlying k = some (.int .i64)) (b n : Nat) (f : Int → Value)
    (hm : a.eval m = .map (some b)) (hown : Fun P k w b n f) (hn : n < maxLen) (z : Int) (val : Value) (hx : a.eval x = .int .i64 z) (hv : a.eval v = val) (hn2 : isNil val = false) (hz : (Lit.int .i64 z).wf = true)
    (hK : ∀ w', Fun P k w' b (n + 1) (upd f z val) → w.grownBy w' (some b) → w'.heap.size = w.heap.size → wpList P ops Q rest (a.put o.dst undef) w') :
    wpList P ops Q (o :: rest) a w := by
  refine wpList_plain hg fun K' hK' => ?_
  obtain ⟨w', hrun, r1, r2, r3⟩ := hown.update K ht hk hn z hz val hn2
  unfold Oper.wp
  simp [execOp, hop, hm, hx, hv, hrun, Result.andThen]
  exact hK' _ _ (hK w' r1 r2 r3)
end Go.Proofs.Ytigaoimnhebegaa.Pm
