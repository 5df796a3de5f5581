/-
  The state of a placement group, told of lists: order of names, heads behind so many entries of the log, and what a map of heads by their names holds. No program runs.
-/
import Derived.Maps.OwnIn
import Derived.Maps.Views
import Derived.StringKeys
import Derived.Test.YtbckdfoapmjilaaGreatDoorIfB
import Derived.Test.YtbckdfoapmjilaaGreatDoorEnt
import Derived.Test.YtbckdfoapmjilaaGreatDoorDPgState
namespace Go.Proofs.YtbckdfoapmjilaaGreatDoor.Rd
open Go.RowKit Go.ChangeShapes Go.WideShapes Go.Proofs.YtbckdfoapmjilaaGreatDoor.GfS
set_option linter.unusedVariables false
set_option linter.unusedSimpArgs false

def sLt (a b : ByteArray) : Bool := Op.bytesLess a.toList b.toList
def sameS (a b : ByteArray) : Bool := a.toList == b.toList
theorem bl_irrefl : ∀ x : List UInt8, Op.bytesLess x x = false
  | [] => rfl
  | a :: x => by rw [Op.bytesLess, bl_irrefl x]; simp
theorem bl_trans : ∀ x y z : List UInt8, Op.bytesLess x y = true → Op.bytesLess y z = true → Op.bytesLess x z = true
  | _, [], _, h, _ => by unfold Op.bytesLess at h; simp at h
  | _, _ :: _, [], _, h => by unfold Op.bytesLess at h; simp at h
  | [], _ :: _, _ :: _, _, _ => rfl
  | a :: x, b :: y, c :: z, h, k => by
    rw [Op.bytesLess] at h k ⊢
    simp only [Bool.or_eq_true, Bool.and_eq_true, decide_eq_true_eq, beq_iff_eq] at h k ⊢
    rcases h with h | ⟨rfl, h⟩
    · rcases k with k | ⟨rfl, k⟩
      · exact Or.inl (UInt8.lt_trans h k)
      · exact Or.inl h
    · rcases k with k | ⟨rfl, k⟩
      · exact Or.inl k
      · exact Or.inr ⟨rfl, bl_trans x y z h k⟩
theorem bl_tri : ∀ x y : List UInt8, Op.bytesLess x y = false → Op.bytesLess y x = false → x = y
  | [], [], _, _ => rfl
  | [], _ :: _, h, _ => by simp [Op.bytesLess] at h
  | _ :: _, [], _, h => by simp [Op.bytesLess] at h
  | a :: x, b :: y, h, k => by
    rw [Op.bytesLess] at h k
    simp only [Bool.or_eq_false_iff, Bool.and_eq_false_iff, decide_eq_false_iff_not, beq_eq_false_iff_ne, ne_eq] at h k
    have e : a = b := UInt8.le_antisymm (UInt8.not_lt.1 k.1) (UInt8.not_lt.1 h.1)
    subst e
    rw [bl_tri x y (h.2.resolve_left (fun q => q rfl)) (k.2.resolve_left (fun q => q rfl))]
theorem ba_ext {a b : ByteArray} (h : a.toList = b.toList) : a = b := by
  rw [Lib.toList_data, Lib.toList_data] at h
  cases a; cases b
  congr 1
  exact Array.ext' h
theorem sameS_iff {a b : ByteArray} : sameS a b = true ↔ a = b := by
  unfold sameS
  rw [beq_iff_eq]
  exact ⟨ba_ext, fun h => by rw [h]⟩
theorem sameS_self (a : ByteArray) : sameS a a = true := sameS_iff.2 rfl
theorem sLt_irrefl (a : ByteArray) : sLt a a = false := bl_irrefl _
theorem sLt_trans {a b c : ByteArray} (h : sLt a b = true) (k : sLt b c = true) : sLt a c = true := bl_trans _ _ _ h k
theorem sLt_tri {a b : ByteArray} (h : sLt a b = false) (k : sLt b a = false) : a = b := ba_ext (bl_tri _ _ h k)
theorem sLt_ne {a b : ByteArray} (h : sLt a b = true) : a ≠ b := fun e => by rw [e, sLt_irrefl] at h; cases h

/-! ### heads -/
def mkH (e : DEntry) : DHead := ⟨e.name, e.ver, e.size, e.sum⟩
def newH (e : DEntry) : List DHead := if e.gone then [] else [mkH e]
/-- An entry among heads. -/
def putH : List DHead → DEntry → List DHead
  | [], e => newH e
  | h :: r, e => if sLt h.name e.name then h :: putH r e else newH e ++ (if sameS h.name e.name then r else h :: r)
def RisH (l : List DHead) : Prop := l.Pairwise (fun a b => sLt a.name b.name = true)
theorem mem_newH {e : DEntry} {x : DHead} : x ∈ newH e ↔ e.gone = false ∧ x = mkH e := by
  unfold newH
  cases e.gone <;> simp
theorem mem_putH {e : DEntry} {x : DHead} : ∀ {l : List DHead}, RisH l → (x ∈ putH l e ↔ (x ∈ l ∧ x.name ≠ e.name) ∨ (e.gone = false ∧ x = mkH e))
  | [], _ => by rw [putH, mem_newH]; simp
  | h :: r, R => by
    obtain ⟨R1, R2⟩ := List.pairwise_cons.1 R
    rw [putH]
    cases q : sLt h.name e.name
    · simp only [Bool.false_eq_true, if_false, List.mem_append, mem_newH]
      cases q2 : sameS h.name e.name
      · simp only [Bool.false_eq_true, if_false]
        have a : sLt e.name h.name = true := by
          cases z : sLt e.name h.name
          · have := sLt_tri q z; rw [sameS_iff.2 this] at q2; cases q2
          · rfl
        have b : ∀ y ∈ h :: r, y.name ≠ e.name := fun y hy => by
          rcases List.mem_cons.1 hy with rfl | hy
          · exact (sLt_ne a).symm
          · exact (sLt_ne (sLt_trans a (R1 y hy))).symm
        constructor
        · rintro (z | z)
          · exact Or.inr z
          · exact Or.inl ⟨z, b x z⟩
        · rintro (z | z)
          · exact Or.inr z.1
          · exact Or.inl z
      · simp only [if_true]
        have a := sameS_iff.1 q2
        have b : ∀ y ∈ r, y.name ≠ e.name := fun y hy => by rw [← a]; exact (sLt_ne (R1 y hy)).symm
        constructor
        · rintro (z | z)
          · exact Or.inr z
          · exact Or.inl ⟨List.mem_cons_of_mem _ z, b x z⟩
        · rintro (z | z)
          · rcases List.mem_cons.1 z.1 with rfl | y
            · exact absurd a z.2
            · exact Or.inr y
          · exact Or.inl z
    · simp only [if_true, List.mem_cons, mem_putH R2]
      have a := sLt_ne q
      constructor
      · rintro (rfl | z | z)
        · exact Or.inl ⟨Or.inl rfl, a⟩
        · exact Or.inl ⟨Or.inr z.1, z.2⟩
        · exact Or.inr z
      · rintro (⟨rfl | z, y⟩ | z)
        · exact Or.inl rfl
        · exact Or.inr (Or.inl ⟨z, y⟩)
        · exact Or.inr (Or.inr z)
theorem ris_putH {e : DEntry} : ∀ {l : List DHead}, RisH l → RisH (putH l e)
  | [], _ => by rw [putH]; unfold newH; cases e.gone <;> simp [RisH]
  | h :: r, R => by
    obtain ⟨R1, R2⟩ := List.pairwise_cons.1 R
    rw [putH]
    cases q : sLt h.name e.name
    · simp only [Bool.false_eq_true, if_false]
      cases q2 : sameS h.name e.name
      · simp only [Bool.false_eq_true, if_false]
        have a : sLt e.name h.name = true := by
          cases z : sLt e.name h.name
          · have := sLt_tri q z; rw [sameS_iff.2 this] at q2; cases q2
          · rfl
        unfold newH
        cases e.gone
        · refine List.pairwise_cons.2 ⟨fun y hy => ?_, R⟩
          rcases List.mem_cons.1 hy with rfl | hy
          · exact a
          · exact sLt_trans a (R1 y hy)
        · exact R
      · simp only [if_true]
        have a := sameS_iff.1 q2
        unfold newH
        cases e.gone
        · refine List.pairwise_cons.2 ⟨fun y hy => ?_, R2⟩
          show sLt e.name y.name = true
          rw [← a]
          exact R1 y hy
        · exact R2
    · simp only [if_true]
      refine List.pairwise_cons.2 ⟨fun y hy => ?_, ris_putH R2⟩
      rcases (mem_putH R2).1 hy with z | ⟨_, rfl⟩
      · exact R1 y z.1
      · exact q
theorem len_putH {e : DEntry} : ∀ {l : List DHead}, RisH l → (putH l e).length + (if ∃ h ∈ l, h.name = e.name then 1 else 0) = l.length + (newH e).length
  | [], _ => by simp [putH]
  | h :: r, R => by
    obtain ⟨R1, R2⟩ := List.pairwise_cons.1 R
    rw [putH]
    cases q : sLt h.name e.name
    · simp only [Bool.false_eq_true, if_false]
      cases q2 : sameS h.name e.name
      · have a : sLt e.name h.name = true := by
          cases z : sLt e.name h.name
          · have := sLt_tri q z; rw [sameS_iff.2 this] at q2; cases q2
          · rfl
        have b : ¬ ∃ y ∈ h :: r, y.name = e.name := by
          rintro ⟨y, hy, ey⟩
          rcases List.mem_cons.1 hy with rfl | hy
          · exact (sLt_ne a).symm ey
          · exact (sLt_ne (sLt_trans a (R1 y hy))).symm ey
        rw [if_neg b]
        simp
        omega
      · rw [if_pos (show ∃ y ∈ h :: r, y.name = e.name from ⟨h, List.mem_cons_self, sameS_iff.1 q2⟩)]
        simp
        omega
    · have ih := len_putH (e := e) R2
      have b : (∃ y ∈ h :: r, y.name = e.name) ↔ ∃ y ∈ r, y.name = e.name := by
        constructor
        · rintro ⟨y, hy, ey⟩
          rcases List.mem_cons.1 hy with rfl | hy
          · exact absurd ey (sLt_ne q)
          · exact ⟨y, hy, ey⟩
        · rintro ⟨y, hy, ey⟩
          exact ⟨y, List.mem_cons_of_mem _ hy, ey⟩
      simp only [if_true, List.length_cons]
      by_cases c : ∃ y ∈ r, y.name = e.name
      · rw [if_pos c] at ih
        rw [if_pos (b.2 c)]
        omega
      · rw [if_neg c] at ih
        rw [if_neg (fun z => c (b.1 z))]
        omega
/-- What stands behind the place of an entry. -/
def tailH (l : List DHead) (k : Nat) (nm : ByteArray) : List DHead := match l[k]? with
  | some h => if sameS h.name nm then l.drop (k + 1) else l.drop k
  | none => []
theorem putH_at {e : DEntry} : ∀ {l : List DHead} {k : Nat}, (∀ i h, i < k → l[i]? = some h → sLt h.name e.name = true) → k ≤ l.length → (∀ h, l[k]? = some h → sLt h.name e.name = false) → putH l e = l.take k ++ (newH e ++ tailH l k e.name)
  | [], k, _, hk, _ => by
    have : k = 0 := by simpa using hk
    subst this
    simp [putH, tailH]
  | h :: r, 0, _, _, h2 => by
    have q := h2 h rfl
    rw [putH]
    simp only [q, Bool.false_eq_true, if_false, List.take_zero, List.nil_append]
    rfl
  | h :: r, k + 1, h1, hk, h2 => by
    have q := h1 0 h (Nat.zero_lt_succ _) rfl
    rw [putH, if_pos q, putH_at (k := k) (fun i x hi hx => h1 (i + 1) x (by omega) (by simpa using hx)) (by simpa using hk) (fun x hx => h2 x (by simpa using hx))]
    simp [tailH]
/-! ### a map of heads by their names -/
def keyS (s : ByteArray) : Lit := .string s.data.toList
def headV (h : DHead) : Value := .agg #[.string h.name, .int .i64 h.ver.epoch, .int .i64 h.ver.seq, .int .i64 h.size, .int .i64 h.sum]
theorem keyS_inj {a b : ByteArray} (h : keyS a = keyS b) : a = b := by
  unfold keyS at h
  exact ba_ext (by rw [Lib.toList_data, Lib.toList_data]; exact Lit.string.inj h)
theorem keyS_ne {a b : ByteArray} (h : a ≠ b) : keyS a ≠ keyS b := fun e => h (keyS_inj e)
theorem keyS_lit (a : ByteArray) : WideAt.IsKeyLit (keyS a) := by trivial
structure NM (D : DataW Value) (l : List DHead) : Prop where
  tidy : Maps.Tidy D
  ris : RisH l
  has : ∀ s, Maps.has D (keyS s) = true ↔ ∃ h ∈ l, h.name = s
  at_ : ∀ h z, h ∈ l → D.atKey (keyS h.name) z = .held (headV h)
  size : Maps.size D = l.length
theorem NM.nil : NM (.map []) [] := ⟨Maps.tidy_empty, List.Pairwise.nil, fun s => by simp [Maps.has_eq], fun h z hh => (by cases hh), rfl⟩
theorem NM.add {D : DataW Value} {l : List DHead} (H : NM D l) (h : DHead) (hl : ∀ x ∈ l, sLt x.name h.name = true) : NM (D.put (keyS h.name) (.held (headV h))) (l ++ [h]) := by
  have hn : ¬ ∃ x ∈ l, x.name = h.name := by rintro ⟨x, hx, e⟩; exact sLt_ne (hl x hx) e
  have hf : Maps.has D (keyS h.name) = false := by
    cases z : Maps.has D (keyS h.name)
    · rfl
    · exact absurd ((H.has _).1 z) hn
  refine ⟨H.tidy.put (keyS_lit _) _, ?_, fun s => ?_, fun x z hx => ?_, ?_⟩
  · unfold RisH
    rw [List.pairwise_append]
    exact ⟨H.ris, by simp, fun a ha b hb => by rw [List.mem_singleton] at hb; subst hb; exact hl a ha⟩
  · by_cases e : s = h.name
    · subst e
      rw [Maps.has_put_same H.tidy.isMap (keyS_lit _)]
      exact ⟨fun _ => ⟨h, by simp, rfl⟩, fun _ => rfl⟩
    · rw [Maps.has_put_other (keyS_ne e), H.has s]
      constructor
      · rintro ⟨x, hx, ex⟩; exact ⟨x, List.mem_append_left _ hx, ex⟩
      · rintro ⟨x, hx, ex⟩
        rcases List.mem_append.1 hx with hx | hx
        · exact ⟨x, hx, ex⟩
        · rw [List.mem_singleton] at hx; subst hx; exact absurd ex.symm e
  · rcases List.mem_append.1 hx with hx | hx
    · rw [Maps.atKey_put_other (keyS_ne (sLt_ne (hl x hx)))]; exact H.at_ x z hx
    · rw [List.mem_singleton] at hx; subst hx
      exact Maps.atKey_put_same H.tidy.isMap (keyS_lit _) _ _
  · rw [Maps.size_put H.tidy, hf, List.length_append, H.size]; rfl
theorem NM.put {D : DataW Value} {l : List DHead} (H : NM D l) (e : DEntry) (g : e.gone = false) : NM (D.put (keyS e.name) (.held (headV (mkH e)))) (putH l e) := by
  have M := fun x => mem_putH (x := x) (e := e) H.ris
  refine ⟨H.tidy.put (keyS_lit _) _, ris_putH H.ris, fun s => ?_, fun x z hx => ?_, ?_⟩
  · by_cases q : s = e.name
    · subst q
      rw [Maps.has_put_same H.tidy.isMap (keyS_lit _)]
      exact ⟨fun _ => ⟨mkH e, (M _).2 (Or.inr ⟨g, rfl⟩), rfl⟩, fun _ => rfl⟩
    · rw [Maps.has_put_other (keyS_ne q), H.has s]
      constructor
      · rintro ⟨x, hx, ex⟩; exact ⟨x, (M _).2 (Or.inl ⟨hx, by rw [ex]; exact q⟩), ex⟩
      · rintro ⟨x, hx, ex⟩
        rcases (M _).1 hx with hx | ⟨_, rfl⟩
        · exact ⟨x, hx.1, ex⟩
        · exact absurd ex.symm q
  · rcases (M _).1 hx with hx | ⟨_, rfl⟩
    · rw [Maps.atKey_put_other (keyS_ne hx.2)]; exact H.at_ x z hx.1
    · exact Maps.atKey_put_same H.tidy.isMap (keyS_lit _) _ _
  · have L := len_putH (e := e) H.ris
    have n1 : (newH e).length = 1 := by unfold newH; rw [g]; rfl
    rw [n1] at L
    rw [Maps.size_put H.tidy]
    by_cases c : ∃ h ∈ l, h.name = e.name
    · rw [if_pos c] at L
      rw [if_pos ((H.has _).2 c), H.size]
      omega
    · rw [if_neg c] at L
      rw [if_neg (fun z => c ((H.has _).1 z)), H.size]
      omega
theorem NM.del {D : DataW Value} {l : List DHead} (H : NM D l) (e : DEntry) (g : e.gone = true) : NM (D.del (keyS e.name)) (putH l e) := by
  have M := fun x => mem_putH (x := x) (e := e) H.ris
  refine ⟨H.tidy.del _, ris_putH H.ris, fun s => ?_, fun x z hx => ?_, ?_⟩
  · by_cases q : s = e.name
    · subst q
      rw [Maps.has_del_same]
      constructor
      · intro z; cases z
      · rintro ⟨x, hx, ex⟩
        rcases (M _).1 hx with hx | ⟨g2, _⟩
        · exact absurd ex hx.2
        · rw [g] at g2; cases g2
    · rw [Maps.has_del_other (keyS_ne q), H.has s]
      constructor
      · rintro ⟨x, hx, ex⟩; exact ⟨x, (M _).2 (Or.inl ⟨hx, by rw [ex]; exact q⟩), ex⟩
      · rintro ⟨x, hx, ex⟩
        rcases (M _).1 hx with hx | ⟨g2, _⟩
        · exact ⟨x, hx.1, ex⟩
        · rw [g] at g2; cases g2
  · rcases (M _).1 hx with hx | ⟨g2, _⟩
    · rw [Maps.atKey_del_other (keyS_ne hx.2)]; exact H.at_ x z hx.1
    · rw [g] at g2; cases g2
  · have L := len_putH (e := e) H.ris
    have n0 : (newH e).length = 0 := by unfold newH; rw [g]; rfl
    have S := Maps.size_del (k := keyS e.name) H.tidy
    rw [n0] at L
    by_cases c : ∃ h ∈ l, h.name = e.name
    · rw [if_pos c] at L
      rw [if_pos ((H.has _).2 c), H.size] at S
      omega
    · rw [if_neg c] at L
      rw [if_neg (fun z => c ((H.has _).1 z)), H.size] at S
      omega
/-! ### valid states -/
def fullB (v : DVer) : Bool := verB v && !verZ v
def headB (m : DVer) (h : DHead) : Bool := Nam.nameB h.name && ((fullB h.ver && !verL m h.ver) && (inB h.size 0 64 && sumB h.sum))
def lastB (m : DVer) (x : DLast) : Bool := inB x.client 100 105 && (inB x.no 1 1000 && (fullB x.ver && !verL m x.ver))
def badH (m : DVer) (h : DHead) : Bool := !headB m h
def badL (m : DVer) (x : DLast) : Bool := !lastB m x
def badC (c : DChunk) : Bool := !chunkB c
def hLt (a b : DHead) : Bool := sLt a.name b.name
def lLt (a b : DLast) : Bool := decide (a.client < b.client)
def cLt (a b : DChunk) : Bool := if sameS a.name b.name then (if a.ver.epoch = b.ver.epoch ∧ a.ver.seq = b.ver.seq then decide (a.pos < b.pos) else verL a.ver b.ver) else sLt a.name b.name
/-- A list with an order, a test and a greatest length. -/
def SeqP {α : Type} (m : Nat) (lt : α → α → Bool) (p : α → Bool) (l : List α) : Prop :=
  l.length ≤ m ∧ (∀ (i : Nat) (x y : α), l[i]? = some x → l[i + 1]? = some y → lt x y = true) ∧ ∀ (i : Nat) (x : α), l[i]? = some x → p x = true
def verAt (t : DVer) (l : List DEntry) : Nat → DVer
  | 0 => t
  | i + 1 => match l[i]? with | some e => e.ver | none => t
def headsAt (b : List DHead) (l : List DEntry) (n : Nat) : List DHead := (l.take n).foldl putH b
def LogP (t : DVer) (b : List DHead) (l : List DEntry) : Prop :=
  l.length ≤ 24 ∧ ∀ (i : Nat) (e : DEntry), l[i]? = some e → entryB e = true ∧ (e.prior.epoch = (verAt t l i).epoch ∧ e.prior.seq = (verAt t l i).seq) ∧ (headsAt b l (i + 1)).length ≤ 16
def lastV (d : DPgState) : DVer := verAt d.tail d.log d.log.length
def TailP (d : DPgState) : Prop := verB d.tail = true ∧ SeqP 16 hLt (headB d.tail) d.base ∧ SeqP 6 lLt (lastB d.tail) d.clients
def StP (d : DPgState) : Prop := (inB d.pg.pool 1 4 = true ∧ inB d.pg.no 0 15 = true ∧ inB d.seen 0 60 = true ∧ inB d.started 0 d.seen = true) ∧ TailP d ∧ LogP d.tail d.base d.log ∧ verB d.firm = true ∧ verL (lastV d) d.firm = false ∧ SeqP 160 cLt chunkB d.chunks
theorem headsAt_succ (b : List DHead) {l : List DEntry} {n : Nat} {e : DEntry} (h : l[n]? = some e) : headsAt b l (n + 1) = putH (headsAt b l n) e := by
  unfold headsAt
  rw [List.take_add_one, h, List.foldl_append]
  rfl
theorem SeqP.risH {m : Nat} {p : DHead → Bool} {l : List DHead} (h : SeqP m hLt p l) : RisH l := by
  have S : ∀ j i x y, l[i]? = some x → l[i + j + 1]? = some y → sLt x.name y.name = true := by
    intro j
    induction j with
    | zero => exact fun i x y hx hy => h.2.1 i x y hx hy
    | succ j ih =>
      intro i x y hx hy
      have hz : i + j + 1 < l.length := by have := (List.getElem?_eq_some_iff.1 hy).1; omega
      exact sLt_trans (ih i x _ hx (List.getElem?_eq_getElem hz)) (h.2.1 (i + j + 1) _ y (List.getElem?_eq_getElem hz) hy)
  unfold RisH
  rw [List.pairwise_iff_getElem]
  intro i j hi hj hij
  have e : i + (j - i - 1) + 1 = j := by omega
  exact S (j - i - 1) i _ _ (List.getElem?_eq_getElem hi) (by rw [e]; exact List.getElem?_eq_getElem hj)
def IdxW (P : Prop) (w : World) (e : Ending) (w' : World) : Prop := ∃ i : Int, e = .returned (.int .i64 i) ∧ Below w.heap.size w w' ∧ ((0 ≤ i ∧ P) ∨ (i = -1 ∧ ¬ P))
theorem none_of {α : Type} {l : List α} {p : α → Bool} (h : ∀ i x, i < l.length → l[i]? = some x → p x = false) : ¬ ∃ x, x ∈ l ∧ p x = true := by
  rintro ⟨x, hx, hp⟩
  obtain ⟨i, hi, rfl⟩ := List.getElem_of_mem hx
  rw [h i _ hi (List.getElem?_eq_getElem hi)] at hp
  cases hp
end Go.Proofs.YtbckdfoapmjilaaGreatDoor.Rd
