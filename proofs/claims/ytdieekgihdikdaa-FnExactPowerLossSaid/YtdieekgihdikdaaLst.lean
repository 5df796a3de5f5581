/-
  Lists of numbers: whether one rises, whether a number stands in it, a number put into a rising one, the library's sort; the model's and the program's functions.
-/
import Derived.Test.YtdieekgihdikdaaRdI
import Derived.Test.YtdieekgihdikdaaMatRes2
import Derived.Test.YtdieekgihdikdaaWithin
import Derived.Laws.AppendOwnNone
import Derived.IntWalk
import Derived.BigQuiet
import Derived.Deep.QuietTactic
namespace Go.Proofs.Ytdieekgihdikdaa.Ac
open Go.RowKit Go.Proofs.Ytdieekgihdikdaa.GfI Go.Proofs.Ytdieekgihdikdaa.GfS Go.Proofs.Ytdieekgihdikdaa.MixC
open Go.Proofs.Ytdieekgihdikdaa.Gf2 (Ib OwnS wpList_append_int)
open Go.Proofs.Ytdieekgihdikdaa.Rd (lay chain)
set_option linter.unusedVariables false
set_option linter.unusedSimpArgs false

/-- A Bool that tells whether P, and memory that was there is as it was. -/
def IffB (P : Prop) (w : World) (e : Ending) (w' : World) : Prop := ∃ b, e = .returned (.bool b) ∧ (b = true ↔ P) ∧ Below w.heap.size w w'
theorem IffB.yes {P : Prop} {w w' : World} (h : P) (b : Below w.heap.size w w') : IffB P w (.returned (.bool true)) w' := ⟨true, rfl, by simp [h], b⟩
theorem IffB.no {P : Prop} {w w' : World} (h : ¬ P) (b : Below w.heap.size w w') : IffB P w (.returned (.bool false)) w' := ⟨false, rfl, by simp [h], b⟩

def zF (z : List Int) (i : Nat) : Int := z.getD i 0
def RisN (z : Nat → Int) (n : Nat) : Prop := ∀ i, i + 1 < n → z i < z (i + 1)
theorem RisN.step {z : Nat → Int} {k : Nat} (h : RisN z (k + 1)) (d : z k < z (k + 1)) : RisN z (k + 1 + 1) := fun i hi => if e : i = k then by rw [e]; exact d else h i (by omega)
def InN (z : Nat → Int) (n : Nat) : Prop := ∀ i, i < n → inB (z i) 0 15 = true
theorem InN.step {z : Nat → Int} {k : Nat} (h : InN z k) (d : inB (z k) 0 15 = true) : InN z (k + 1) := fun i hi => if e : i = k then by rw [e]; exact d else h i (by omega)
/-- A list that may list devices that are out. -/
def OutP (z : List Int) : Prop := RisN (zF z) z.length ∧ InN (zF z) z.length

theorem nodup_snoc {l : List Int} {x : Int} (h : l.Nodup) (hx : x ∉ l) : (l ++ [x]).Nodup := by
  rw [List.nodup_append]
  exact ⟨h, by simp, fun a ha b hb e => hx (by simp at hb; rw [← hb, ← e]; exact ha)⟩
theorem take_snoc (l : List Int) (q : Nat) (h : q < l.length) : l.take (q + 1) = l.take q ++ [l.getD q 0] := by
  rw [List.take_succ_eq_append_getElem h, List.getD_eq_getElem?_getD, List.getElem?_eq_getElem h]; rfl
theorem nodup_not {l : List Int} {q : Nat} (h : l.Nodup) (hq : q < l.length) : l.getD q 0 ∉ l.take q := by
  have h1 : (l.take (q + 1)).Nodup := h.sublist (List.take_sublist _ _)
  rw [take_snoc l q hq, List.nodup_append] at h1
  exact fun hm => h1.2.2 _ hm _ (by simp) rfl
theorem getD_mem {l : List Int} {q : Nat} (hq : q < l.length) : l.getD q 0 ∈ l := by
  rw [List.getD_eq_getElem?_getD, List.getElem?_eq_getElem hq]; exact List.getElem_mem hq
set_option maxRecDepth 100000 in
theorem isRising (a : Option Addr) (cap : Nat) (z : List Int) (w : World) (hz : z.length ≤ 2097152) (h : Words w a z) :
    Calls Try.prog 52 #[.slice a z.length cap] w (IffB (RisN (zF z) z.length) w) := by
  obtain ⟨n, hn⟩ : ∃ n, n = z.length := ⟨_, rfl⟩
  have HN := Lib.hid hn
  rw [← hn] at hz ⊢
  clear hn
  go_enter Try.func52, Try.ntmps52
  go_wp2
  go_loopw [3] (fun i wr => ∃ k q : Nat, (k + 1 ≤ n ∨ k = 0) ∧ i = .int .i64 (k + 1 : Nat) ∧ RisN (zF z) (k + 1) ∧ wr = w.drewN q) (fun i _ => n + 1 - (intOf i).toNat)
  case atStart => exact ⟨0, 0, by omega, rfl, fun i hi => by omega, rfl⟩
  case round =>
    obtain ⟨k, q, hkn, rfl, R, hw⟩ := hrel
    have HR := Lib.hid R
    have BW := Lib.hid (show Below w.heap.size w wr by rw [hw]; exact below_drewN (Below.refl _ _) q)
    have HW := Lib.hid hw
    clear R hw
    by_cases hlt : k + 1 < n
    · have hkz : k + 1 < z.length := by rw [← HN.out]; exact hlt
      obtain ⟨b1, o1, rfl, hB, hc⟩ := (h.below BW.out).resolve_left (by intro e; rw [e] at hkz; simp at hkz)
      have c0 := hc (k + 1) hkz
      have c1 := hc k (by omega)
      have z0 : zF z (k + 1) = z.getD (k + 1) 0 := rfl
      have z1 : zF z k = z.getD k 0 := rfl
      rw [← z0] at c0
      rw [← z1] at c1
      have j0 : (0 : Int) ≤ (k : Int) := by omega
      have j1 : (k : Int) < (n : Int) := by omega
      have WK : IntKind.i64.wrap (((k + 1 : Nat) : Int) - 1) = (k : Int) := by rw [IntKind.wrap_i64]; omega
      have k0 : (0 : Int) ≤ ((k + 1 : Nat) : Int) := by omega
      have k1 : ((k + 1 : Nat) : Int) < (n : Int) := by omega
      clear hc z0 z1
      by_cases hq : zF z k < zF z (k + 1)
      · have P := Lib.hid (HR.out.step hq)
        generalize zF z (k + 1) = y at *
        generalize zF z k = x at *
        clear HR h
        go_wp2
        go_quiet (fail)
        go_wp2
        go_roundw
        case rel => exact ⟨k + 1, q + nq, by omega, by go_num, P.out, by rw [HW.out, World.drewN_drewN]⟩
        case measure => simp [intOf]; omega
      · have P := Lib.hid (show ¬ RisN (zF z) n from fun h => hq (h k hlt))
        generalize zF z (k + 1) = y at *
        generalize zF z k = x at *
        clear HR h
        go_wp2
        go_quiet (fail)
        go_wp2
        go_ret
        exact IffB.no P.out (below_drewN BW.out _)
    · have P := Lib.hid (show RisN (zF z) n from fun i hi => HR.out i (by omega))
      clear HR h
      go_wp2
      go_ret
      exact IffB.yes P.out BW.out
/-- The first k numbers are within, and rise. -/
def RsK (z : Nat → Int) (k : Nat) : Prop := InN z k ∧ RisN z k
set_option maxRecDepth 100000 in
set_option maxHeartbeats 2000000 in
theorem l00Rises (a : Option Addr) (cap : Nat) (z : List Int) (w : World) (hz : z.length ≤ 2097152) (h : Words w a z) :
    Calls Try.prog 46 #[.slice a z.length cap, .int .i64 0, .int .i64 15] w (IffB (OutP z) w) := by
  obtain ⟨n, hn⟩ : ∃ n, n = z.length := ⟨_, rfl⟩
  have HN := Lib.hid hn
  rw [← hn] at hz ⊢
  clear hn
  go_enter Try.func46, Try.ntmps46
  go_wp2
  go_loopw [7] (fun i wr => ∃ k : Nat, k ≤ n ∧ i = .int .i64 k ∧ RsK (zF z) k ∧ Below w.heap.size w wr) (fun i _ => n - (intOf i).toNat)
  case atStart => exact ⟨0, by omega, rfl, ⟨fun i hi => by omega, fun i hi => by omega⟩, Below.refl _ _⟩
  case round =>
    obtain ⟨k, hk, rfl, R, hw⟩ := hrel
    have HR := Lib.hid R
    have BA := Lib.hid hw
    clear R
    by_cases hlt : k < n
    · have hkz : k < z.length := by rw [← HN.out]; exact hlt
      obtain ⟨b, off, rfl, hB, hc⟩ := (h.below hw).resolve_left (by intro e; rw [e] at hkz; simp at hkz)
      have c0 := hc k hkz
      have W1 := fun w' => (l00In (zF z k) 0 15 w').mono (fun e v q => show e = .returned (.bool (inB (zF z k) 0 15)) ∧ v = w' from ⟨q.1, q.2.symm⟩)
      have HC := Lib.hid hc
      have NO := Lib.hid (show ¬ RsK (zF z) (k + 1) → ¬ OutP z from fun r p => r ⟨fun i hi => p.2 i (by omega), fun i hi => p.1 i (by omega)⟩)
      clear hc hw h
      rcases k with _ | k
      · rw [show z.getD 0 0 = zF z 0 from rfl, Nat.add_zero] at c0
        have YS := Lib.hid (fun (e : inB (zF z 0) 0 15 = true) => show RsK (zF z) (0 + 1) from ⟨fun i hi => by rw [show i = 0 by omega]; exact e, fun i hi => by omega⟩)
        have N1 := Lib.hid (fun (e : inB (zF z 0) 0 15 = false) => NO.out (fun r => by have := r.1 0 (by omega); rw [e] at this; cases this))
        clear HC NO HR
        generalize zF z 0 = x at *
        cases I1 : inB x 0 15
        · have G := Lib.hid (N1.out I1)
          rw [I1] at W1
          have W1 := Lib.hid W1
          clear I1 N1 YS
          go_wp2
          go_quiet (((go_at_call 47; first | (with_reducible exact Calls.quiet_of_same (W1.out _)))))
          go_wp2
          go_ret
          exact IffB.no G.out (below_drewN BA.out _)
        · have G := Lib.hid (YS.out I1)
          rw [I1] at W1
          have W1 := Lib.hid W1
          clear I1 N1 YS
          go_wp2
          go_quiet (((go_at_call 47; first | (with_reducible exact Calls.quiet_of_same (W1.out _)))))
          go_wp2
          go_roundw
          case rel => exact ⟨0 + 1, by omega, by go_num, G.out, below_drewN BA.out _⟩
          case measure => simp [intOf]; omega
      · have e0 := HC.out k (by omega)
        rw [show z.getD (k + 1) 0 = zF z (k + 1) from rfl] at c0
        rw [show z.getD k 0 = zF z k from rfl] at e0
        have YS := Lib.hid (fun (e : inB (zF z (k + 1)) 0 15 = true) (d : zF z k < zF z (k + 1)) => show RsK (zF z) (k + 1 + 1) from ⟨HR.out.1.step e, HR.out.2.step d⟩)
        have N1 := Lib.hid (fun (e : inB (zF z (k + 1)) 0 15 = false) => NO.out (fun r => by have := r.1 (k + 1) (by omega); rw [e] at this; cases this))
        have N2 := Lib.hid (fun (e : zF z (k + 1) ≤ zF z k) => NO.out (fun r => by have := r.2 k (by omega); omega))
        clear HC NO HR
        have j0 : (0 : Int) ≤ (k : Int) + 1 := by omega
        have j1 : (k : Int) + 1 < (n : Int) := by omega
        have j2 : decide ((0 : Int) < (k : Int) + 1) = true := decide_eq_true (by omega)
        have j3 : (0 : Int) ≤ (k : Int) := by omega
        have j4 : (k : Int) < (n : Int) := by omega
        have j6 : ((k : Int) + 1).toNat = k + 1 := by omega
        have j7 : (0 : Int) ≤ (k : Int) + 1 - 1 := by omega
        have j8 : (k : Int) + 1 - 1 < (n : Int) := by omega
        have j9 : ((k : Int) + 1 - 1).toNat = k := by omega
        have WJ2 : IntKind.i64.wrap (k : Int) = (k : Int) := by rw [IntKind.wrap_i64]; omega
        have WJ : IntKind.i64.wrap ((k : Int) + 1 - 1) = (k : Int) := by rw [IntKind.wrap_i64]; omega
        generalize zF z (k + 1) = x at *
        generalize zF z k = p at *
        cases I1 : inB x 0 15
        · have G := Lib.hid (N1.out I1)
          rw [I1] at W1
          have W1 := Lib.hid W1
          clear I1 N1 YS N2
          go_wp2
          go_quiet (((go_at_call 47; first | (with_reducible exact Calls.quiet_of_same (W1.out _)))))
          go_wp2
          go_ret
          exact IffB.no G.out (below_drewN BA.out _)
        · by_cases hr : x ≤ p
          · have G := Lib.hid (N2.out hr)
            have jr : decide (x ≤ p) = true := decide_eq_true hr
            rw [I1] at W1
            have W1 := Lib.hid W1
            clear I1 N1 YS N2
            go_wp2
            go_quiet (((go_at_call 47; first | (with_reducible exact Calls.quiet_of_same (W1.out _)))))
            go_wp2
            go_ret
            exact IffB.no G.out (below_drewN BA.out _)
          · have G := Lib.hid (YS.out I1 (by omega))
            have jr : decide (x ≤ p) = false := decide_eq_false hr
            rw [I1] at W1
            have W1 := Lib.hid W1
            clear I1 N1 YS N2
            go_wp2
            go_quiet (((go_at_call 47; first | (with_reducible exact Calls.quiet_of_same (W1.out _)))))
            go_wp2
            go_roundw
            case rel => exact ⟨k + 1 + 1, by omega, by go_num, G.out, below_drewN BA.out _⟩
            case measure => simp [intOf]; omega
    · obtain rfl : k = n := by omega
      have G := Lib.hid (show OutP z from ⟨by rw [← HN.out]; exact HR.out.2, by rw [← HN.out]; exact HR.out.1⟩)
      clear hw h
      go_wp2
      go_ret
      exact IffB.yes G.out BA.out
def HasB (x : Int) (zs : List Int) (w : World) (e : Ending) (w' : World) : Prop := e = .returned (.bool (decide (x ∈ zs))) ∧ w = w'
theorem mem_take_succ {zs : List Int} {k : Nat} {x : Int} (hk : k < zs.length) (h : x ∉ zs.take k) (e : zs.getD k 0 ≠ x) : x ∉ zs.take (k + 1) := by
  rw [take_snoc zs k hk]
  intro hm
  rcases List.mem_append.1 hm with hm | hm
  · exact h hm
  · simp at hm; exact e (by rw [hm]; simp [List.getD])
/-- n into a rising list, unless it is there. -/
def put (n : Int) : List Int → List Int
  | [] => [n]
  | a :: l => if n ≤ a then (if n < a then n :: a :: l else a :: l) else a :: put n l
theorem mem_put {n z : Int} : ∀ {l : List Int}, z ∈ put n l ↔ z = n ∨ z ∈ l
  | [] => by simp [put]
  | a :: l => by
    unfold put
    split
    · split
      · simp
      · have : n = a := by omega
        subst this; simp
    · rw [List.mem_cons, mem_put, List.mem_cons]
      constructor
      · rintro (h | h | h)
        · exact .inr (.inl h)
        · exact .inl h
        · exact .inr (.inr h)
      · rintro (h | h | h)
        · exact .inr (.inl h)
        · exact .inl h
        · exact .inr (.inr h)
theorem sorted_put {n : Int} : ∀ {l : List Int}, l.Pairwise (· < ·) → (put n l).Pairwise (· < ·)
  | [], _ => by simp [put]
  | a :: l, h => by
    have ha := List.pairwise_cons.1 h
    unfold put
    split
    · split
      · rename_i h1
        exact List.pairwise_cons.2 ⟨fun z hz => by
          rcases List.mem_cons.1 hz with rfl | hz
          · exact h1
          · have := ha.1 z hz; omega, h⟩
      · exact h
    · exact List.pairwise_cons.2 ⟨fun z hz => by
        rcases mem_put.1 hz with rfl | hz
        · omega
        · exact ha.1 z hz, sorted_put ha.2⟩
theorem put_len (n : Int) : ∀ l : List Int, (put n l).length ≤ l.length + 1
  | [] => by simp [put]
  | a :: l => by
    unfold put
    have := put_len n l
    split
    · split <;> simp
    · simp; omega
/-- A list of numbers behind another of the call's own. -/
theorem wpList_append_list {w : World} {ops : Array Oper} {rest : List Oper} {o : Oper} {a : Act} {Q : Exit → Act → World → Prop} (hgd : o.guard = none) (s x : Operand)
    (ho : o.op = .call { callee := .builtin .append, args := #[s, x], argTypes := #[32, 32] }) (B : Nat) (v : Value) (zs ls : List Int) (hs : a.eval s = v) (hb : Ib B w v zs) (al : Option Addr) (c : Nat)
    (hx : a.eval x = .slice al ls.length c) (hn : al = none → c = 0) (hw : Words w al ls) (hlen : zs.length + ls.length ≤ 1000000) (hB : B ≤ w.heap.size)
    (h : ∀ v' w', Ib B w' v' (zs ++ ls) → w.grownBy w' v.ownBlock → wpList Try.prog ops Q rest (a.put o.dst v') w') : wpList Try.prog ops Q (o :: rest) a w := by
  obtain ⟨i0, hi, hz0, hz1, hz2⟩ := info_parts info2
  have go : ∀ ad : Addr, al = some ad → (∀ j u, (ls.map (Value.int .i64))[j]? = some u → w.cell? (ad.add j) = some u) → wpList Try.prog ops Q (o :: rest) a w := by
    intro ad e hN
    subst e
    refine wpList_append_own _ hgd s x 32 ho B 2 i0 (.int .i64 0) 1 8 Try.underlying32 hi hz0 hz1 hz2 rfl (by decide) v zs.length (zs.map (Value.int .i64)) hs hb ad ls.length c (ls.map (Value.int .i64)) hx (by simp) hN (by intro u hu; obtain ⟨y, _, rfl⟩ := List.mem_map.1 hu; rfl) (by unfold maxLen; omega) (by omega) hB ?_
    intro v' w' ho' hg' _
    refine h v' w' ?_ hg'
    unfold Ib
    rw [List.length_append, List.map_append]
    exact ho'
  by_cases he : ls = []
  · subst he
    cases al with
    | none =>
      have hc := hn rfl
      subst hc
      refine wpList_append_own_none hgd s x 32 ho B 2 i0 1 Try.underlying32 hi v zs.length (zs.map (Value.int .i64)) hs hb hx ?_
      exact h v w (by rw [List.append_nil]; exact hb) ⟨rfl, rfl, rfl, Nat.le_refl _, fun _ _ _ => rfl⟩
    | some ad => exact go ad rfl (fun j u hu => by simp at hu)
  · obtain ⟨b, off, rfl, hBb, nums⟩ := hw.resolve_left he
    refine go _ rfl (fun j u hu => ?_)
    obtain ⟨y, hy, rfl⟩ := (by simpa using hu : ∃ y, ls[j]? = some y ∧ Value.int .i64 y = u)
    have hj : j < ls.length := (List.getElem?_eq_some_iff.1 hy).1
    have := nums j hj
    rw [List.getD_eq_getElem?_getD, hy] at this
    rw [Addr.add_lit]
    exact this
/-- A list of the call's own, handed back. -/
def NodR (l : List Int) (w : World) (e : Ending) (w' : World) : Prop := ∃ a c, e = .returned (.slice a l.length c) ∧ (a = none → c = 0) ∧ Ib w.heap.size w' (.slice a l.length c) l ∧ Below w.heap.size w w'
theorem Ib.shape2 {B : Nat} {w : World} {v : Value} {zs : List Int} (h : Ib B w v zs) : ∃ a c, v = .slice a zs.length c ∧ (a = none → c = 0) := by
  rcases h.2 with ⟨rfl, h0⟩ | ⟨g, cap, cur, rfl, _⟩
  · exact ⟨none, 0, by rw [h0], fun _ => rfl⟩
  · exact ⟨_, cap, rfl, fun h => by cases h⟩

def srt (l : List Int) : List Int := l.mergeSort (fun x y => decide (x ≤ y))
theorem srt_len (l : List Int) : (srt l).length = l.length := (List.mergeSort_perm l _).length_eq
theorem put_lt {n : Int} {s : List Int} : ∀ {t : List Int}, (∀ z, z ∈ t → z < n) → put n (t ++ s) = t ++ put n s
  | [], _ => rfl
  | a :: t, h => by
    have h1 := h a List.mem_cons_self
    show put n (a :: (t ++ s)) = a :: (t ++ put n s)
    conv => lhs; unfold put
    rw [if_neg (by omega), put_lt (fun z hz => h z (List.mem_cons_of_mem _ hz))]
theorem put_ge {n : Int} {s : List Int} : ∀ {t : List Int}, (∃ z, z ∈ t ∧ n ≤ z) → put n (t ++ s) = put n t ++ s
  | [], h => by obtain ⟨z, hz, _⟩ := h; cases hz
  | a :: t, h => by
    show put n (a :: (t ++ s)) = put n (a :: t) ++ s
    unfold put
    by_cases h1 : n ≤ a
    · rw [if_pos h1, if_pos h1]; split <;> rfl
    · rw [if_neg h1, if_neg h1, put_ge (t := t) (by
        obtain ⟨z, hz, hn⟩ := h
        rcases List.mem_cons.1 hz with rfl | hz
        · exact absurd hn h1
        · exact ⟨z, hz, hn⟩)]; rfl
/-- What is built when the numbers t have been met. -/
structure PutI (n : Int) (t : List Int) (d : Bool) (zs : List Int) : Prop where
  no : d = false → zs = t ∧ ∀ z, z ∈ t → z < n
  yes : d = true → zs = put n t ∧ ∃ z, z ∈ t ∧ n ≤ z
theorem PutI.lt {n : Int} {t zs : List Int} {y : Int} (h : PutI n t false zs) (hy : y < n) : PutI n (t ++ [y]) false (zs ++ [y]) := by
  obtain ⟨e, k⟩ := h.no rfl
  exact ⟨fun _ => ⟨by rw [e], fun z hz => by
    rcases List.mem_append.1 hz with hz | hz
    · exact k z hz
    · have : z = y := by simpa using hz
      omega⟩, fun q => by cases q⟩
theorem PutI.gt {n : Int} {t zs : List Int} {y : Int} (h : PutI n t false zs) (hy : n < y) : PutI n (t ++ [y]) true (zs ++ [n] ++ [y]) := by
  obtain ⟨e, k⟩ := h.no rfl
  refine ⟨(fun q => by cases q), fun _ => ⟨?_, y, by simp, by omega⟩⟩
  rw [put_lt k, e]; unfold put; rw [if_pos (by omega), if_pos hy]; simp
theorem PutI.eq {n : Int} {t zs : List Int} {y : Int} (h : PutI n t false zs) (hy : y = n) : PutI n (t ++ [y]) true (zs ++ [y]) := by
  obtain ⟨e, k⟩ := h.no rfl
  refine ⟨(fun q => by cases q), fun _ => ⟨?_, y, by simp, by omega⟩⟩
  rw [put_lt k, e]; unfold put; rw [if_pos (by omega), if_neg (by omega)]
theorem PutI.more {n : Int} {t zs : List Int} {y : Int} (h : PutI n t true zs) : PutI n (t ++ [y]) true (zs ++ [y]) := by
  obtain ⟨e, z, hz, k⟩ := h.yes rfl
  refine ⟨(fun q => by cases q), fun _ => ⟨?_, z, by simp [hz], k⟩⟩
  rw [put_ge ⟨z, hz, k⟩, e]
theorem PutI.last {n : Int} {t zs : List Int} (h : PutI n t false zs) : zs ++ [n] = put n t := by
  obtain ⟨e, k⟩ := h.no rfl
  have := put_lt (s := []) k
  rw [List.append_nil] at this
  rw [this, e]; rfl
theorem PutI.len {n : Int} {t zs : List Int} {d : Bool} (h : PutI n t d zs) : zs.length ≤ t.length + 1 := by
  cases d
  · rw [(h.no rfl).1]; omega
  · rw [(h.yes rfl).1]; exact put_len n t
/-- A list handed back. -/
def ListR (zs : List Int) (w : World) (e : Ending) (w' : World) : Prop := ∃ a cap, e = .returned (.slice a zs.length cap) ∧ Words w' a zs ∧ Below w.heap.size w w'
theorem ListR.of {w0 w : World} {v : Value} {zs : List Int} (h : Ib w0.heap.size w v zs) (b : Below w0.heap.size w0 w) : ListR zs w0 (.returned v) w := by
  obtain ⟨a, L, cap, rfl⟩ := h.shape
  obtain ⟨O, rfl⟩ := Gf2.Ib.own (w0 := w0) h (Nat.le_refl _)
  exact ⟨a, cap, rfl, O.words, b⟩

end Go.Proofs.Ytdieekgihdikdaa.Ac
