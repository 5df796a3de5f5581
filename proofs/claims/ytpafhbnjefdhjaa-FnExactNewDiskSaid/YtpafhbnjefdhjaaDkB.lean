/-
  Writes put into the buffer, in the program.
-/
import Derived.Test.YtpafhbnjefdhjaaDkO
namespace Go.Proofs.Ytpafhbnjefdhjaa.Rd
open Go.RowKit Go.ChangeShapes Go.WideShapes Go.Proofs.Ytpafhbnjefdhjaa.GfI Go.Proofs.Ytpafhbnjefdhjaa.GfS
open Go.Proofs.Ytpafhbnjefdhjaa.Sg (BxN)
set_option linter.unusedVariables false
set_option linter.unusedSimpArgs false

/-- What a call hands back: a list of its own. -/
def AnsLW {α : Type} [Rdb α] [Enc α] (E : TypeId) (l : List α) (w : World) (e : Ending) (w' : World) : Prop := ∃ a c, e = .returned (.slice a l.length c) ∧ OwnL E w.heap.size w' (.slice a l.length c) l ∧ Below w.heap.size w w'
set_option maxRecDepth 100000 in
set_option maxHeartbeats 4000000 in
theorem cloneSW (a : Option Addr) (cap : Nat) (l : List ByteArray) (w : World) (hl : l.length ≤ 1000000) {fr : Bool} {lo : Nat} (h : Rows fr lo w a l) :
    Calls Try.prog 97 #[.slice a l.length cap] w (AnsLW 9 l w) := by
  have q22 : ∀ (w : World) (a : Option Addr) (n c n' c' : Nat), (binOp .eql 22 (.slice a n c) (.slice none n' c')).run Try.prog w = .ok (.bool a.isNone) w := fun w a n c n' c' => Lib.run_eql_slice_nil w _ _ a n c n' c' Try.underlying22
  cases a with
  | none =>
    have e : l = [] := by rcases h with h | ⟨b, off, e, _⟩; exact h; cases e
    subst e
    have G := Lib.hid (show AnsLW 9 ([] : List ByteArray) w (.returned (.slice none 0 0)) w from ⟨none, 0, rfl, OwnL.nil _ _ _, Below.refl _ _⟩)
    clear h
    go_enter Try.func97, Try.ntmps97
    go_wp2
    go_ret
    exact G.out
  | some ad =>
    have LH := Lib.hid (lay w (.cells #[] 9))
    have J0 := Lib.hid (OwnL.made (α := ByteArray) 9 w.heap.size w (Nat.le_refl _))
    have WH := Lib.hid (h.below LH.out)
    clear h
    go_enter Try.func97, Try.ntmps97
    go_wp2_with (at_builtin; refine wpList_append_F rfl (.tmp 5) (.tmp 6) 22 9 (.string ByteArray.empty) 16 rfl Try.underlying22 infoStr rfl (by omega) w.heap.size _ [] l rfl J0.out (some ad) cap rfl WH.out (by simp; omega) (by rw [World.size_alloc]; omega) ?_; intro v' w3 J3 g3; rw [List.nil_append] at J3; obtain ⟨a3, c3, rfl⟩ := J3.val)
    have B3 := Lib.hid (LH.out.grown g3 (by rw [World.size_alloc]; omega) (fun c hc => by cases hc; exact Nat.le_refl _))
    have G := Lib.hid (show AnsLW 9 l w (.returned (.slice a3 l.length c3)) w3 from ⟨a3, c3, rfl, J3, B3.out⟩)
    clear J3 g3
    generalize l.length = n at *
    (try go_wp2)
    go_ret
    exact G.out
set_option maxRecDepth 100000 in
set_option maxHeartbeats 4000000 in
theorem clonePW (a : Option Addr) (cap : Nat) (l : List DPending) (w : World) (hl : l.length ≤ 1000000) {fr : Bool} {lo : Nat} (h : Rows fr lo w a l) :
    Calls Try.prog 98 #[.slice a l.length cap] w (AnsLW 63 l w) := by
  have q22 : ∀ (w : World) (a : Option Addr) (n c n' c' : Nat), (binOp .eql 28 (.slice a n c) (.slice none n' c')).run Try.prog w = .ok (.bool a.isNone) w := fun w a n c n' c' => Lib.run_eql_slice_nil w _ _ a n c n' c' Try.underlying28
  cases a with
  | none =>
    have e : l = [] := by rcases h with h | ⟨b, off, e, _⟩; exact h; cases e
    subst e
    have G := Lib.hid (show AnsLW 63 ([] : List DPending) w (.returned (.slice none 0 0)) w from ⟨none, 0, rfl, OwnL.nil _ _ _, Below.refl _ _⟩)
    clear h
    go_enter Try.func98, Try.ntmps98
    go_wp2
    go_ret
    exact G.out
  | some ad =>
    have LH := Lib.hid (lay w (.cells #[] 63))
    have J0 := Lib.hid (OwnL.made (α := DPending) 63 w.heap.size w (Nat.le_refl _))
    have WH := Lib.hid (h.below LH.out)
    clear h
    go_enter Try.func98, Try.ntmps98
    go_wp2_with (at_builtin; refine wpList_append_F rfl (.tmp 5) (.tmp 6) 28 63 (.agg #[.int .i64 0, .string ByteArray.empty]) 24 rfl Try.underlying28 infoPending rfl (by omega) w.heap.size _ [] l rfl J0.out (some ad) cap rfl WH.out (by simp; omega) (by rw [World.size_alloc]; omega) ?_; intro v' w3 J3 g3; rw [List.nil_append] at J3; obtain ⟨a3, c3, rfl⟩ := J3.val)
    have B3 := Lib.hid (LH.out.grown g3 (by rw [World.size_alloc]; omega) (fun c hc => by cases hc; exact Nat.le_refl _))
    have G := Lib.hid (show AnsLW 63 l w (.returned (.slice a3 l.length c3)) w3 from ⟨a3, c3, rfl, J3, B3.out⟩)
    clear J3 g3
    generalize l.length = n at *
    (try go_wp2)
    go_ret
    exact G.out
/-- A disk in lists of the call's own, the writes' block behind the sectors'. -/
def AnsM (d : DDisk) (w : World) (e : Ending) (w' : World) : Prop := ∃ a0 c0 a1 c1 m, e = .returned (.agg #[.slice a0 d.sectors.length c0, .slice a1 d.waits.length c1]) ∧ OwnL 9 w.heap.size w' (.slice a0 d.sectors.length c0) d.sectors ∧ (∀ g, (Value.slice a0 d.sectors.length c0).ownBlock = some g → g < m) ∧ OwnL 63 m w' (.slice a1 d.waits.length c1) d.waits ∧ (w.heap.size ≤ m ∧ m ≤ w'.heap.size) ∧ Below w.heap.size w w'
set_option maxRecDepth 100000 in
set_option maxHeartbeats 4000000 in
theorem implCloneM (d : DDisk) (a0 : Option Addr) (c0 : Nat) (a1 : Option Addr) (c1 : Nat) (w : World) (hn : d.sectors.length ≤ 1000000) (hm : d.waits.length ≤ 1000000) (r : Rw2 w d a0 a1) :
    Calls Try.prog 78 #[.agg #[.slice a0 d.sectors.length c0, .slice a1 d.waits.length c1]] w (AnsM d w) := by
  have L := Lib.hid (chain (lay w (.cells #[.slice a0 d.sectors.length c0, .slice a1 d.waits.length c1] 30)) (lay _ (.cells #[.slice none 0 0, .slice none 0 0] 30)))
  have X := Lib.hid ((BxN.new w #[.slice a0 d.sectors.length c0, .slice a1 d.waits.length c1] 30).later (lay _ (.cells #[.slice none 0 0, .slice none 0 0] 30)))
  have Y0 := BxN.new (w.alloc (.cells #[.slice a0 d.sectors.length c0, .slice a1 d.waits.length c1] 30)) #[.slice none 0 0, .slice none 0 0] 30
  rw [World.size_alloc] at Y0
  have Y := Lib.hid Y0
  have x0 := X.out.cells 0 _ rfl
  have x1 := X.out.cells 1 _ rfl
  have C1 := Lib.hid (fun w' (b : Below w.heap.size w w') => cloneSW a0 c0 d.sectors w' hn (r.1.below b))
  have C2 := Lib.hid (fun w' (b : Below w.heap.size w w') => clonePW a1 c1 d.waits w' hm (r.2.below b))
  have SZ := Lib.hid (show ((w.alloc (.cells #[.slice a0 d.sectors.length c0, .slice a1 d.waits.length c1] 30)).alloc (.cells #[.slice none 0 0, .slice none 0 0] 30)).heap.size = w.heap.size + 1 + 1 from by simp)
  have FIN := Lib.hid (fun (w1 w2 : World) (p0 p1 : Option Addr) (k0 k1 : Nat) (o0 : OwnL 9 (w.heap.size + 1 + 1) w1 (.slice p0 d.sectors.length k0) d.sectors) (o1 : OwnL 63 w1.heap.size w2 (.slice p1 d.waits.length k1) d.waits) (b1 : w.heap.size + 1 + 1 ≤ w1.heap.size) (b2 : Below w1.heap.size w1 w2) (b : Below w.heap.size w w2) =>
    (show AnsM d w (.returned (.agg #[.slice p0 d.sectors.length k0, .slice p1 d.waits.length k1])) ((w2.setCell ⟨w.heap.size + 1, 0, none⟩ (.slice p0 d.sectors.length k0)).setCell ⟨w.heap.size + 1, 1, none⟩ (.slice p1 d.waits.length k1)) from
      ⟨p0, k0, p1, k1, w1.heap.size, rfl, (((o0.later b2).set _ _ (by show w.heap.size + 1 < _; omega)).set _ _ (by show w.heap.size + 1 < _; omega)).weakB (by omega), fun g e => (o0.blk e).2, (o1.set _ _ (by show w.heap.size + 1 < _; omega)).set _ _ (by show w.heap.size + 1 < _; omega), ⟨by omega, by have := b2.size; simpa using this⟩, (b.setCell (p := ⟨w.heap.size + 1, 0, none⟩) (by show _ ≤ w.heap.size + 1; omega) _).setCell (p := ⟨w.heap.size + 1, 1, none⟩) (by show _ ≤ w.heap.size + 1; omega) _⟩))
  clear Y0 r hn hm
  go_enter Try.func78, Try.ntmps78
  go_wp2_with fail
  go_region_with (first
    | (go_at_call 97; refine (C1.out _ L.out.drew).mono ?_; rintro e w1 ⟨p0, k0, rfl, o0, b1⟩; have b1 := undrewX b1; have B1 := Lib.hid (chainX w L.out b1); have XN := X.out.later b1; have x2 := XN.cells 1 _ rfl; have Y1 := Lib.hid (Y.out.later b1); have O0 := Lib.hid o0; have S1 := Lib.hid (show w.heap.size + 1 + 1 ≤ w1.heap.size from by rw [← SZ.out]; exact b1.size); clear XN b1 o0)
    | (go_at_call 98; refine (C2.out _ B1.out).mono ?_; rintro e w2 ⟨p1, k1, rfl, o1, b2⟩; have B2 := Lib.hid (chainX w B1.out b2); have Y2 := Y1.out.later b2; have y0 := Y2.cells 0 _ rfl; have y1 := Y2.cells 1 _ rfl; have z0 := Y2.free 0; have z1 := Y2.free 1; have F := Lib.hid (FIN.out w1 w2 p0 p1 k0 k1 (by have := O0.out; rw [show ((w.alloc (.cells #[.slice a0 d.sectors.length c0, .slice a1 d.waits.length c1] 30)).alloc (.cells #[.slice none 0 0, .slice none 0 0] 30)).drew.heap.size = w.heap.size + 1 + 1 from SZ.out] at this; exact this) o1 S1.out b2 B2.out); clear Y2 b2 o1))
  all_goals
    go_wp2
    exact bodyPost_ret (v := .agg #[.slice p0 d.sectors.length k0, .slice p1 d.waits.length k1]) (by simp [results, Try.results78, go_sem, *]) rfl F.out
/-- Writes to consecutive sectors. -/
def addW : Int → List ByteArray → List DPending
  | _, [] => []
  | a, s :: l => ⟨a, s⟩ :: addW (a + 1) l
theorem addW_len : ∀ (a : Int) (l : List ByteArray), (addW a l).length = l.length
  | _, [] => rfl
  | a, s :: l => by show (addW (a + 1) l).length + 1 = l.length + 1; rw [addW_len]
theorem addW_snoc : ∀ (a : Int) (l : List ByteArray) (s : ByteArray), addW a (l ++ [s]) = addW a l ++ [⟨a + l.length, s⟩]
  | a, [], s => by simp [addW]
  | a, t :: l, s => by
    show ⟨a, t⟩ :: addW (a + 1) (l ++ [s]) = ⟨a, t⟩ :: (addW (a + 1) l ++ [⟨a + (t :: l).length, s⟩])
    rw [addW_snoc (a + 1) l s, List.length_cons]
    have : a + 1 + (l.length : Int) = a + ((l.length + 1 : Nat) : Int) := by omega
    rw [this]
theorem addW_take {a : Int} {l : List ByteArray} {j : Nat} {s : ByteArray} (h : l[j]? = some s) : addW a (l.take (j + 1)) = addW a (l.take j) ++ [⟨a + (j : Int), s⟩] := by
  have hj := (List.getElem?_eq_some_iff.1 h).1
  rw [List.take_add_one, h]
  show addW a (l.take j ++ [s]) = _
  rw [addW_snoc, List.length_take, Nat.min_eq_left (by omega)]
theorem addW_mem : ∀ {a : Int} {l : List ByteArray} {x : DPending}, x ∈ addW a l → x.bytes ∈ l
  | _, [], _, h => by simp [addW] at h
  | a, s :: l, x, h => by
    rcases List.mem_cons.1 h with q | q
    · rw [q]; simp
    · exact List.mem_cons_of_mem _ (addW_mem q)
/-- A disk with more writes in the buffer. -/
def bufD (d : DDisk) (a : Int) (l : List ByteArray) : DDisk := ⟨d.sectors, d.waits ++ addW a l⟩
set_option maxRecDepth 100000 in
set_option maxHeartbeats 4000000 in
theorem implBuffered (d : DDisk) (at' : Int) (list : List ByteArray) (a0 : Option Addr) (c0 : Nat) (a1 : Option Addr) (c1 : Nat) (al : Option Addr) (cl : Nat) (w : World) (hn : d.sectors.length ≤ 100000) (hm : d.waits.length ≤ 100000) (hl : list.length ≤ 100000) (hat : list = [] ∨ (0 ≤ at' ∧ at' ≤ 100000)) {fr : Bool} {lo : Nat} (r : Rw2 w d a0 a1) (rl : Rows fr lo w al list) :
    Calls Try.prog 66 #[.agg #[.slice a0 d.sectors.length c0, .slice a1 d.waits.length c1], .int .i64 at', .slice al list.length cl] w (AnsKD (bufD d at' list) w) := by
  have L := Lib.hid (chain (lay w (.cells #[.slice a0 d.sectors.length c0, .slice a1 d.waits.length c1] 30)) (lay _ (.cells #[.slice none 0 0, .slice none 0 0] 30)))
  have X := Lib.hid ((BxN.new w #[.slice a0 d.sectors.length c0, .slice a1 d.waits.length c1] 30).later (lay _ (.cells #[.slice none 0 0, .slice none 0 0] 30)))
  have Y0 := BxN.new (w.alloc (.cells #[.slice a0 d.sectors.length c0, .slice a1 d.waits.length c1] 30)) #[.slice none 0 0, .slice none 0 0] 30
  rw [World.size_alloc] at Y0
  have Y := Lib.hid Y0
  have x0 := X.out.cells 0 _ rfl
  have x1 := X.out.cells 1 _ rfl
  have SZ := Lib.hid (show ((w.alloc (.cells #[.slice a0 d.sectors.length c0, .slice a1 d.waits.length c1] 30)).alloc (.cells #[.slice none 0 0, .slice none 0 0] 30)).heap.size = w.heap.size + 1 + 1 from by simp)
  have C1 := Lib.hid (implCloneM d a0 c0 a1 c1 _ (by omega) (by omega) (r.below L.out))
  have RW := Lib.hid (fun w' (b : Below w.heap.size w w') => rl.below b)
  have GET := Lib.hid (fun j (h : j < list.length) => get_lt h)
  have AT := Lib.hid (fun j s (h : list[j]? = some s) => addW_take (a := at') h)
  have HAT := Lib.hid (fun (h : 0 < list.length) => (show 0 ≤ at' ∧ at' ≤ 100000 from hat.resolve_left (fun e => by rw [e] at h; simp at h)))
  have AL := Lib.hid (fun j (h : j ≤ list.length) => (show (d.waits ++ addW at' (list.take j)).length = d.waits.length + j from by rw [List.length_append, addW_len, List.length_take]; omega))
  have AA := Lib.hid (show d.waits ++ addW at' (list.take list.length) = (bufD d at' list).waits from by rw [List.take_length]; rfl)
  have A0 := Lib.hid (show d.waits ++ addW at' (list.take 0) = d.waits from by simp [addW])
  have ZS := Lib.hid (fun j s (h : list[j]? = some s) => rows_strsz rl s (List.mem_of_getElem? h))
  clear Y0 r rl hat
  go_enter Try.func66, Try.ntmps66
  go_wp2_with fail
  refine C1.out.mono ?_
  rintro e w1 ⟨p0, k0, p1, k1, m, rfl, o0, hb0, o1, hm2, b1⟩
  have B1 := Lib.hid (chainX w L.out b1)
  have X1 := X.out.later b1
  have Y1 := Y.out.later b1
  have x2 := X1.cells 0 _ rfl
  have x3 := X1.cells 1 _ rfl
  have xf2 := X1.free 0
  have xf3 := X1.free 1
  have HM := Lib.hid (show w.heap.size + 1 + 1 ≤ m ∧ m ≤ w1.heap.size from by have := hm2; rw [SZ.out] at this; exact this)
  have hm3 := HM.out
  have o0' : OwnL 9 (w.heap.size + 1 + 1) w1 (.slice p0 d.sectors.length k0) d.sectors := by have := o0; rw [SZ.out] at this; exact this
  have O0 := Lib.hid ((o0'.set ⟨w.heap.size, 0, none⟩ (.slice p0 d.sectors.length k0) (by show w.heap.size < _; omega)).set ⟨w.heap.size, 1, none⟩ (.slice p1 d.waits.length k1) (by show w.heap.size < _; omega))
  have O1 := Lib.hid (show OwnL 63 m ((w1.setCell ⟨w.heap.size, 0, none⟩ (.slice p0 d.sectors.length k0)).setCell ⟨w.heap.size, 1, none⟩ (.slice p1 d.waits.length k1)) (.slice p1 d.waits.length k1) (d.waits ++ addW at' (list.take 0)) from by rw [A0.out]; exact (o1.set ⟨w.heap.size, 0, none⟩ (.slice p0 d.sectors.length k0) (by show w.heap.size < _; omega)).set ⟨w.heap.size, 1, none⟩ (.slice p1 d.waits.length k1) (by show w.heap.size < _; omega))
  have X2 := Lib.hid ((X1.put 0 (by simp) (.slice p0 d.sectors.length k0)).put 1 (by simp) (.slice p1 d.waits.length k1))
  have Y2 := Lib.hid ((Y1.far (p := ⟨w.heap.size, 0, none⟩) (by show w.heap.size ≠ w.heap.size + 1; omega) (.slice p0 d.sectors.length k0)).far (p := ⟨w.heap.size, 1, none⟩) (by show w.heap.size ≠ w.heap.size + 1; omega) (.slice p1 d.waits.length k1))
  have B2 := Lib.hid ((B1.out.setCell (p := ⟨w.heap.size, 0, none⟩) (Nat.le_refl _) (.slice p0 d.sectors.length k0)).setCell (p := ⟨w.heap.size, 1, none⟩) (Nat.le_refl _) (.slice p1 d.waits.length k1))
  have S2 := Lib.hid (show m ≤ ((w1.setCell ⟨w.heap.size, 0, none⟩ (.slice p0 d.sectors.length k0)).setCell ⟨w.heap.size, 1, none⟩ (.slice p1 d.waits.length k1)).heap.size from by simp; omega)
  have HB0 := Lib.hid hb0
  have FIN := Lib.hid (fun (wr : World) (q1 : Option Addr) (c : Nat) (h0 : OwnL 9 (w.heap.size + 1 + 1) wr (.slice p0 d.sectors.length k0) d.sectors) (h1 : OwnL 63 m wr (.slice q1 (d.waits.length + list.length) c) (d.waits ++ addW at' (list.take list.length))) (hS : m ≤ wr.heap.size) (hb : Below w.heap.size w wr) =>
    (show AnsKD (bufD d at' list) w (.returned (.agg #[.slice p0 d.sectors.length k0, .slice q1 (d.waits.length + list.length) c])) ((wr.setCell ⟨w.heap.size + 1, 0, none⟩ (.slice p0 d.sectors.length k0)).setCell ⟨w.heap.size + 1, 1, none⟩ (.slice q1 (d.waits.length + list.length) c)) from by
      have e := AL.out list.length (Nat.le_refl _)
      rw [AA.out] at h1 e
      rw [← e] at h1 ⊢
      have g0 := h0.one
      have g1 := h1.one
      refine ⟨p0, k0, q1, c, rfl, ⟨Nat.le_refl _, m, by have := HM.out; omega, by simpa using hS, ?_, ?_⟩, ⟨g0.2, g1.2⟩, (hb.setCell (p := ⟨w.heap.size + 1, 0, none⟩) (by show _ ≤ w.heap.size + 1; omega) _).setCell (p := ⟨w.heap.size + 1, 1, none⟩) (by show _ ≤ w.heap.size + 1; omega) _⟩
      · refine (((?_ : One (w.heap.size + 1 + 1) m wr p0 d.sectors).set _ _ (.inl (by show w.heap.size + 1 < _; omega))).set _ _ (.inl (by show w.heap.size + 1 < _; omega))).wide (by omega) (Nat.le_refl _)
        rcases g0.1 with z | ⟨q, rfl, rr, z1, z2⟩
        · exact .inl z
        · exact .inr ⟨q, rfl, rr, z1, HB0.out q rfl⟩
      · exact ((g1.1.set _ _ (.inl (by show w.heap.size + 1 < _; have := HM.out; omega))).set _ _ (.inl (by show w.heap.size + 1 < _; have := HM.out; omega))).wide (Nat.le_refl _) (by simp)))
  clear b1 o0 o0' o1 X1 Y1 A0 hb0 hm2 AA
  obtain ⟨n, hnn⟩ : ∃ n, n = d.sectors.length := ⟨_, rfl⟩
  obtain ⟨mw, hmm⟩ : ∃ mw, mw = d.waits.length := ⟨_, rfl⟩
  obtain ⟨nl, hll⟩ : ∃ nl, nl = list.length := ⟨_, rfl⟩
  rw [← hnn] at O0 O1 X2 Y2 B2 S2 HB0 FIN hn
  rw [← hmm] at O0 O1 X2 Y2 B2 S2 AL FIN hm
  rw [← hll] at GET HAT AL FIN hl
  rw [← hnn, ← hmm, ← hll]
  clear hnn x0 x1 hmm hll
  go_wp2
  go_loopw [13] (fun i wr => ∃ (j : Nat) (q1 : Option Addr) (c : Nat), j ≤ nl ∧ i = .int .i64 j ∧ OwnL 9 (w.heap.size + 1 + 1) wr (.slice p0 n k0) d.sectors ∧ OwnL 63 m wr (.slice q1 (mw + j) c) (d.waits ++ addW at' (list.take j)) ∧ m ≤ wr.heap.size ∧ Below w.heap.size w wr ∧ BxN wr w.heap.size [.slice p0 n k0, .slice q1 (mw + j) c] ∧ BxN wr (w.heap.size + 1) [.slice none 0 0, .slice none 0 0]) (fun i _ => nl - (intOf i).toNat)
  case atStart => exact ⟨0, p1, k1, by omega, rfl, O0.out, O1.out, S2.out, B2.out, X2.out, Y2.out⟩
  case round =>
    obtain ⟨j, q1, c, hj, rfl, h0, h1, hS, hB, hX, hY⟩ := hrel
    clear X2 Y2 B2 O0 O1 S2 x2 x3 xf2 xf3
    by_cases hlt : j < nl
    · obtain ⟨s, hs⟩ := GET.out j hlt
      obtain ⟨b, off, cs, rfl, -, hBb, ⟨rfl, -⟩, hcc⟩ := (RW.out _ hB).at' hs
      have c0' : wr.cell? ⟨b, off + j, none⟩ = some (.string s) := by have := hcc 0 _ rfl; rwa [show off + j * Rdb.size ByteArray + 0 = off + j from by show off + j * 1 + 0 = _; omega] at this
      obtain ⟨at0, at1⟩ := HAT.out (by omega)
      have WA : IntKind.i64.wrap (at' + (j : Int)) = at' + (j : Int) := by rw [IntKind.wrap_i64]; omega
      have AT2 := Lib.hid (show d.waits ++ addW at' (list.take (j + 1)) = (d.waits ++ addW at' (list.take j)) ++ [⟨at' + (j : Int), s⟩] from by rw [AT.out j s hs, List.append_assoc])
      have wfy : Enc.wf (⟨at' + (j : Int), s⟩ : DPending) := ⟨WalkArith.wf_i64 (by show _ ≤ at' + (j : Int) ∧ at' + (j : Int) ≤ _; omega), ZS.out j s hs⟩
      have y1 := hX.cells 1 _ rfl
      have LN := AL.out j hj
      have OB := hX.lt
      have EB : (.cells (Enc.enc (⟨at' + (j : Int), s⟩ : DPending)).toArray 63 : Obj) = .cells #[.int .i64 (at' + (j : Int)), .string s] 63 := rfl
      have NE := own_ne (h1.alloc (.cells #[.int .i64 (at' + (j : Int)), .string s] 63)) (h0.alloc (.cells #[.int .i64 (at' + (j : Int)), .string s] 63)) (by decide)
      have NE2 := own_ne (h0.alloc (.cells #[.int .i64 (at' + (j : Int)), .string s] 63)) (h1.alloc (.cells #[.int .i64 (at' + (j : Int)), .string s] 63)) (by decide)
      have H0 := Lib.hid h0
      have H1 := Lib.hid h1
      have HB := Lib.hid hB
      have HX := Lib.hid hX
      have HY := Lib.hid hY
      have HS := Lib.hid hS
      have N2 := Lib.hid NE2
      have LNH := Lib.hid LN
      have WF := Lib.hid wfy
      have LZ := Lib.hid (lay wr (.cells #[.int .i64 (at' + (j : Int)), .string s] 63))
      clear h0 h1 hB hX hY hS NE NE2 hcc hs LN wfy EB
      go_wp2_with (at_builtin; refine wpList_append_F1 (α := DPending) rfl (.tmp 19) (.tmp 25) 28 63 (.agg #[.int .i64 0, .string ByteArray.empty]) 24 rfl Try.underlying28 infoPending rfl (by omega) m (.slice q1 (mw + j) c) (d.waits ++ addW at' (list.take j)) ⟨at' + (j : Int), s⟩ rfl H1.out WF.out rfl (by rw [LNH.out]; omega) HS.out ?_; intro v' w3 J3 g3; rw [← AT2.out] at J3; obtain ⟨q2, c2, e2⟩ := J3.val; rw [AL.out (j + 1) (by omega)] at e2; subst e2; have BL := (Below.refl m (wr.alloc (.cells #[.int .i64 (at' + (j : Int)), .string s] 63))).grown g3 (by rw [World.size_alloc]; have := HS.out; omega) (fun k hk => (H1.out.blk hk).1); have X3 := BxN.lo (HX.out.later LZ.out) BL (by show w.heap.size < m; omega); have x5 := X3.cells 1 _ rfl; have xf5 := X3.free 1; have G3 := Lib.hid g3; have J3H := Lib.hid J3; have BLH := Lib.hid BL; have X3H := Lib.hid X3; clear J3 BL X3 g3 y1)
      have Q0 := Lib.hid (((H0.out.alloc _).kept G3.out N2.out).set ⟨w.heap.size, 1, none⟩ (.slice q2 (mw + (j + 1)) c2) (by show w.heap.size < _; omega))
      have Q1 := Lib.hid (J3H.out.set ⟨w.heap.size, 1, none⟩ (.slice q2 (mw + (j + 1)) c2) (by show w.heap.size < m; omega))
      have QS := Lib.hid (show m ≤ (w3.setCell ⟨w.heap.size, 1, none⟩ (.slice q2 (mw + (j + 1)) c2)).heap.size from by rw [World.size_setCell]; have := HS.out; have := BLH.out.size; rw [World.size_alloc] at this; omega)
      have QB := Lib.hid (((chainX w HB.out LZ.out).grown G3.out (by rw [World.size_alloc]; have := HB.out.size; omega) (fun k hk => by have := (H1.out.blk hk).1; omega)).setCell (p := ⟨w.heap.size, 1, none⟩) (Nat.le_refl _) (.slice q2 (mw + (j + 1)) c2))
      have QX := Lib.hid (X3H.out.put 1 (by simp) (.slice q2 (mw + (j + 1)) c2))
      have QY := Lib.hid ((BxN.lo (HY.out.later LZ.out) BLH.out (by show w.heap.size + 1 < m; omega)).far (p := ⟨w.heap.size, 1, none⟩) (by show w.heap.size ≠ w.heap.size + 1; omega) (.slice q2 (mw + (j + 1)) c2))
      clear H0 H1 HB HX HY HS N2 LNH WF LZ G3 J3H BLH X3H
      (try go_wp2)
      go_roundw
      case rel => exact ⟨j + 1, q2, c2, by omega, by go_num, Q0.out, Q1.out, QS.out, QB.out, QX.out, QY.out⟩
      case measure => simp [intOf]; omega
    · obtain rfl : j = nl := by omega
      have y0 := hX.cells 0 _ rfl
      have y1 := hX.cells 1 _ rfl
      have v0 := hY.cells 0 _ rfl
      have v1 := hY.cells 1 _ rfl
      have vf0 := hY.free 0
      have vf1 := hY.free 1
      have F := Lib.hid (FIN.out wr q1 c h0 h1 hS hB)
      clear h0 h1 hS hB hX hY
      go_wp2
      exact bodyPost_ret (v := .agg #[.slice p0 n k0, .slice q1 (mw + j) c]) (by simp [results, Try.results66, go_sem, *]) rfl F.out
end Go.Proofs.Ytpafhbnjefdhjaa.Rd
