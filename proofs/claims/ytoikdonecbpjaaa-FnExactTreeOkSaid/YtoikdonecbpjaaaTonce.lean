/-
  Nothing stands in two buckets, or twice in one: the model's function.
-/
import Derived.Test.YtoikdonecbpjaaaTspec2
import Derived.Test.YtoikdonecbpjaaaMatRes2
namespace Go.Proofs.Ytoikdonecbpjaaa.Tm
open Go.RowKit Go.Proofs.Ytoikdonecbpjaaa.GfI Go.Proofs.Ytoikdonecbpjaaa.GfS Go.Proofs.Ytoikdonecbpjaaa.MixC
open Go.Proofs.Ytoikdonecbpjaaa.Gf2 (Ib wpList_append_int)
open Go.Proofs.Ytoikdonecbpjaaa.It (lay chain)
open Go.Proofs.Ytoikdonecbpjaaa.Rc (Recs)
open Go.Proofs.Ytoikdonecbpjaaa.Bk (Bks tval bval)
open Go.Proofs.Ytoikdonecbpjaaa.Sg (BxN)
set_option linter.unusedVariables false

/-- The first n lists, one behind the other. -/
def flatL (L : Nat → List Int) : Nat → List Int
  | 0 => []
  | n + 1 => flatL L n ++ L n
theorem mem_flatL {L : Nat → List Int} {x : Int} : ∀ {n : Nat}, x ∈ flatL L n ↔ ∃ j, j < n ∧ x ∈ L j
  | 0 => by simp [flatL]
  | n + 1 => by
    unfold flatL
    rw [List.mem_append, mem_flatL]
    constructor
    · rintro (⟨j, hj, h⟩ | h)
      · exact ⟨j, by omega, h⟩
      · exact ⟨n, by omega, h⟩
    · rintro ⟨j, hj, h⟩
      by_cases e : j = n
      · subst e; exact .inr h
      · exact .inl ⟨j, by omega, h⟩
theorem nodup_snoc {l : List Int} {x : Int} (h : l.Nodup) (hx : x ∉ l) : (l ++ [x]).Nodup := by
  rw [List.nodup_append]
  exact ⟨h, by simp, fun a ha b hb e => hx (by simp at hb; rw [← hb, ← e]; exact ha)⟩
theorem take_snoc (l : List Int) (q : Nat) (h : q < l.length) : l.take (q + 1) = l.take q ++ [l.getD q 0] := by
  rw [List.take_succ_eq_append_getElem h, List.getD_eq_getElem?_getD, List.getElem?_eq_getElem h]; rfl
theorem nodup_not {l : List Int} {q : Nat} (h : l.Nodup) (hq : q < l.length) : l.getD q 0 ∉ l.take q := by
  have h1 : (l.take (q + 1)).Nodup := h.sublist (List.take_sublist _ _)
  rw [take_snoc l q hq, List.nodup_append] at h1
  exact fun hm => h1.2.2 _ hm _ (by simp) rfl
theorem getD_mem {l : List Int} {q : Nat} (hq : q < l.length) : l.getD q 0 ∈ l := by
  rw [List.getD_eq_getElem?_getD, List.getElem?_eq_getElem hq]; exact List.getElem_mem hq
theorem TD.Once.bad {T : TD} (h : T.Once) {i q : Nat} (hi : i < T.bn) (hq : q < (T.L i).length) : (T.L i).getD q 0 ∉ flatL T.L i ++ (T.L i).take q := by
  intro hm
  rcases List.mem_append.1 hm with hm | hm
  · obtain ⟨j, hj, hx⟩ := mem_flatL.1 hm
    exact h.two j i hj hi _ hx (getD_mem hq)
  · exact nodup_not (h.one i hi) hq hm
theorem once_of {T : TD} (h : (flatL T.L T.bn).Nodup) : T.Once := by
  have key : ∀ n, (flatL T.L n).Nodup → (∀ j, j < n → (T.L j).Nodup) ∧ ∀ j k, j < k → k < n → ∀ x, x ∈ T.L j → x ∈ T.L k → False := by
    intro n
    induction n with
    | zero => intro _; exact ⟨fun j hj => by omega, fun j k _ hk => by omega⟩
    | succ n ih =>
      intro h
      unfold flatL at h
      rw [List.nodup_append] at h
      obtain ⟨a, b⟩ := ih h.1
      refine ⟨fun j hj => ?_, fun j k hjk hk x hx hy => ?_⟩
      · by_cases e : j = n
        · subst e; exact h.2.1
        · exact a j (by omega)
      · by_cases e : k = n
        · subst e; exact h.2.2 x (mem_flatL.2 ⟨j, hjk, hx⟩) x hy rfl
        · exact b j k hjk (by omega) x hx hy
  obtain ⟨a, b⟩ := key _ h
  exact ⟨a, b⟩

def HasB (x : Int) (zs : List Int) (w : World) (e : Ending) (w' : World) : Prop := e = .returned (.bool (decide (x ∈ zs))) ∧ w = w'
theorem mem_take_succ {zs : List Int} {k : Nat} {x : Int} (hk : k < zs.length) (h : x ∉ zs.take k) (e : zs.getD k 0 ≠ x) : x ∉ zs.take (k + 1) := by
  rw [take_snoc zs k hk]
  intro hm
  rcases List.mem_append.1 hm with hm | hm
  · exact h hm
  · simp at hm; exact e (by rw [hm]; simp [List.getD])
set_option maxRecDepth 100000 in
theorem l00Has (a : Option Addr) (cap : Nat) (zs : List Int) (x : Int) (w : World) (hl : zs.length ≤ 2097152) (h : Words w a zs) :
    Calls Try.prog 81 #[.slice a zs.length cap, .int .i64 x] w (HasB x zs w) := by
  obtain ⟨n, hn⟩ : ∃ n, n = zs.length := ⟨_, rfl⟩
  rw [← hn] at hl ⊢
  have HN := Lib.hid hn
  clear hn
  go_enter Try.func81, Try.ntmps81
  go_wp2
  go_loop [5] (fun i => ∃ k : Nat, k ≤ n ∧ i = .int .i64 k ∧ x ∉ zs.take k) (fun i => n - (intOf i).toNat)
  case atStart => exact ⟨0, by omega, rfl, by simp⟩
  case round =>
    obtain ⟨k, hk, rfl, N⟩ := hrel
    have NH := Lib.hid N
    clear N
    by_cases hlt : k < n
    · obtain ⟨b, off, rfl, hB, hcc⟩ := h.resolve_left (by intro e; rw [e] at HN; have := HN.out; simp at this; omega)
      have c0 := hcc k (by rw [← HN.out]; exact hlt)
      have HK : Hid (k < zs.length) := by show _ < _; rw [← HN.out]; exact hlt
      clear hcc h
      by_cases q : zs.getD k 0 = x
      · have R := Lib.hid (show HasB x zs w (.returned (.bool true)) w from ⟨by rw [decide_eq_true (by rw [← q]; exact getD_mem HK.out)], rfl⟩)
        generalize zs.getD k 0 = y at *
        subst q
        go_wp2
        go_ret
        exact R.out
      · have N2 := Lib.hid (mem_take_succ HK.out NH.out q)
        generalize zs.getD k 0 = y at *
        have q' : (y == x) = false := by simpa using q
        clear q
        go_wp2
        go_round
        case rel => exact ⟨k + 1, by omega, by go_num, N2.out⟩
        case measure => simp [intOf]; omega
    · obtain rfl : k = n := by omega
      have R := Lib.hid (show HasB x zs w (.returned (.bool false)) w from ⟨by rw [decide_eq_false (by have := NH.out; rw [HN.out, List.take_length] at this; exact this)], rfl⟩)
      clear h
      go_wp2
      go_ret
      exact R.out

theorem _root_.Go.Proofs.Ytoikdonecbpjaaa.Sg.BxN.grown {w w1 : World} {b : Nat} {vs : List Value} {r : Option Nat} (h : BxN w b vs) (g : w.grownBy w1 r) (hr : ∀ c, r = some c → b ≠ c) : BxN w1 b vs := by
  have e : w1.heap[b]? = w.heap[b]? := g.block b h.lt (fun q => hr b q.symm rfl)
  exact ⟨Nat.lt_of_lt_of_le h.lt g.size, fun i v hv => (World.cell?_of_block e).trans (h.cells i v hv), fun i => (World.frozen?_of_block e).trans (h.free i)⟩
/-- What has been met: the first i lists, and q numbers of the next. -/
def seenL (T : TD) (i q : Nat) : List Int := flatL T.L i ++ (T.L i).take q
theorem seen_zero (T : TD) (i : Nat) : seenL T i 0 = flatL T.L i := by unfold seenL; simp
theorem seen_snoc (T : TD) {i q : Nat} (h : q < (T.L i).length) : seenL T i (q + 1) = seenL T i q ++ [(T.L i).getD q 0] := by
  unfold seenL; rw [take_snoc _ _ h, List.append_assoc]
theorem seen_end (T : TD) (i : Nat) : seenL T i (T.L i).length = flatL T.L (i + 1) := by
  unfold seenL; rw [List.take_length]; rfl
theorem flatL_len {L : Nat → List Int} {m : Nat} : ∀ {n : Nat}, (∀ i, i < n → (L i).length ≤ m) → (flatL L n).length ≤ n * m
  | 0, _ => by simp [flatL]
  | n + 1, h => by
    unfold flatL
    rw [List.length_append]
    have := flatL_len (n := n) (fun i hi => h i (by omega))
    have := h n (by omega)
    rw [Nat.succ_mul]; omega
theorem seen_len {T : TD} (B : T.BktOk) {i q : Nat} (hi : i < T.bn) : (seenL T i q).length ≤ 200 := by
  unfold seenL
  rw [List.length_append]
  have h1 := flatL_len (L := T.L) (m := 8) (n := i) (fun j hj => (B.each j (by omega)).2.2.2.2)
  have h2 := (B.each i hi).2.2.2.2
  have h3 := B.n
  have h4 := List.length_take_le q (T.L i)
  have h5 : ((T.L i).take q).length ≤ (T.L i).length := by rw [List.length_take]; omega
  omega

set_option maxRecDepth 100000 in
set_option maxHeartbeats 4000000 in
theorem l06Once (T : TD) (A : TA) (w : World) (B : T.BktOk) (hdn : T.dn ≤ 2097152) (h : TIn w T A) :
    Calls Try.prog 99 #[A.val T] w (IffB T.Once w) := by
  obtain ⟨da, dc, ba, bc, I, C⟩ := A
  obtain ⟨dn, hdn'⟩ : ∃ dn, dn = T.dn := ⟨_, rfl⟩
  obtain ⟨bn, hbn⟩ : ∃ bn, bn = T.bn := ⟨_, rfl⟩
  have LH := Lib.hid (lay w (.cells #[.slice da dn dc, .slice ba bn bc] 31))
  have X := Lib.hid (BxN.new w #[.slice da dn dc, .slice ba bn bc] 31)
  have HD := h.bkts
  have hn := B.n
  have hB8 := Lib.hid (fun i hi => (B.each i hi).2.2.2.2)
  have SL := Lib.hid (fun i q hi => @seen_len T B i q hi)
  clear h B
  show Calls Try.prog 99 #[tval (.slice da T.dn dc) (.slice ba T.bn bc)] w _
  rw [← hbn] at hn HD hB8 SL
  rw [← hdn'] at hdn
  rw [← hdn', ← hbn]
  have HD := Lib.hid HD
  have HBN := Lib.hid hbn
  have BAD := Lib.hid (show ∀ i q, i < bn → q < (T.L i).length → (T.L i).getD q 0 ∈ seenL T i q → ¬ T.Once from fun i q hi hq hm d => d.bad (by rw [← HBN.out]; exact hi) hq hm)
  clear hdn' hbn
  have LB := Lib.hid (LH.out.alloc (B := w.heap.size) (by simp) (.cells #[] 2))
  have XB := Lib.hid (X.out.later (lay _ (.cells #[] 2)))
  have J0 : Ib (w.heap.size + 1) ((w.alloc (.cells #[.slice da dn dc, .slice ba bn bc] 31)).alloc (.cells #[] 2)) (.slice (some ⟨(w.alloc (.cells #[.slice da dn dc, .slice ba bn bc] 31)).heap.size, 0, none⟩) 0 0) (seenL T 0 0) :=
    World.ownsRow_made _ #[] 0 (by simp) (by unfold maxLen; omega) (by simp)
  rw [World.size_alloc] at J0
  have J0 := Lib.hid J0
  go_enter Try.func99, Try.ntmps99
  go_wp2
  go_loopw [3, 4] (fun v i wr => ∃ n : Nat, n ≤ bn ∧ i = .int .i64 n ∧ (seenL T n 0).Nodup ∧ Ib (w.heap.size + 1) wr v (seenL T n 0) ∧ BxN wr w.heap.size [.slice da dn dc, .slice ba bn bc] ∧ Below w.heap.size w wr) (fun _ i _ => bn - (intOf i).toNat)
  case atStart => exact ⟨0, by omega, rfl, by simp [seenL, flatL], J0.out, XB.out, LB.out⟩
  case round =>
    obtain ⟨n, hn2, rfl, ND, J, XR, hw⟩ := hrel
    obtain ⟨wo, rfl⟩ : ∃ wo : World, wo = wr := ⟨_, rfl⟩
    have HW := Lib.hid hw
    have XH := Lib.hid XR
    have JH := Lib.hid J
    have NDH := Lib.hid ND
    have x1 := XR.cells 1 _ rfl
    clear ND J XR hw
    by_cases hlt : n < bn
    · have h8 := hB8.out n hlt
      have HSE := Lib.hid (seen_end T n)
      have HSZ := Lib.hid (seen_zero T (n + 1))
      have HBD := Lib.hid (fun q => BAD.out n q hlt)
      have HSN := Lib.hid (fun q => @seen_snoc T n q)
      have HSL := Lib.hid (fun q => SL.out n q hlt)
      go_wp2
      go_loopw [3, 5] (fun v i wr => ∃ q : Nat, q ≤ (T.L n).length ∧ i = .int .i64 q ∧ (seenL T n q).Nodup ∧ Ib (w.heap.size + 1) wr v (seenL T n q) ∧ BxN wr w.heap.size [.slice da dn dc, .slice ba bn bc] ∧ Below w.heap.size w wr) (fun _ i _ => (T.L n).length - (intOf i).toNat)
      case atStart => exact ⟨0, by omega, rfl, NDH.out, JH.out, XH.out, HW.out⟩
      case round =>
        obtain ⟨q, hq, rfl, ND, J, XR, hw⟩ := hrel
        have HWq := Lib.hid hw
        have XHq := Lib.hid XR
        have NDq := Lib.hid ND
        have y1 := XR.cells 1 _ rfl
        have hb := HD.out.below hw
        obtain ⟨b, off, rfl, hB, hcc⟩ := hb.resolve_left (by omega)
        obtain ⟨-, -, c2, wd⟩ := hcc n hlt
        clear hcc hb ND XR hw x1
        by_cases hlt2 : q < (T.L n).length
        · obtain ⟨b2, off2, eI, hB2, nums⟩ := wd.resolve_left (by intro e; rw [e] at hlt2; simp at hlt2)
          have d := nums q hlt2
          rw [eI] at c2
          have SN := Lib.hid (HSN.out q hlt2)
          have BDq := Lib.hid (HBD.out q hlt2)
          have SLq := HSL.out q
          clear wd nums eI HSN HBD HSL
          generalize seenL T n q = zs at *
          generalize (T.L n).getD q 0 = x at *
          generalize C n = cn at *
          have LE := HWq.out.size
          have XLT := XHq.out.lt
          obtain ⟨av, lv, cv, rfl⟩ := J.shape
          obtain ⟨O, rfl⟩ := Gf2.Ib.own (w0 := w) J (by omega)
          have JH := Lib.hid J
          have OH := Lib.hid O.words
          clear J O
          by_cases hx : x ∈ zs
          · have G := Lib.hid (BDq.out hx)
            have HH := fun w' (K : Words w' av zs) => l00Has av cv zs x w' (by omega) K
            unfold HasB at HH
            rw [decide_eq_true hx] at HH
            have HH := Lib.hid HH
            clear hx
            go_wp2_with fail
            refine (HH.out _ OH.out).mono ?_
            rintro e w2 ⟨rfl, rfl⟩
            go_wp2
            go_ret
            exact IffB.no G.out HWq.out
          · have ND2 := Lib.hid (nodup_snoc NDq.out hx)
            have HH := fun w' (K : Words w' av zs) => l00Has av cv zs x w' (by omega) K
            unfold HasB at HH
            rw [decide_eq_false hx] at HH
            have HH := Lib.hid HH
            clear hx
            go_wp2_with fail
            refine (HH.out _ OH.out).mono ?_
            rintro e w2 ⟨rfl, rfl⟩
            go_wp2_with (at_builtin; refine wpList_append_int rfl (.tmp 38) (.tmp 40) rfl (w.heap.size + 1) _ zs rfl x JH.out rfl (by omega) (by omega) ?_; intro v' w3 J3 g3)
            have B3 := Lib.hid (HWq.out.trans (Below.mono (JH.out.grown (by omega) _ g3) (by omega)))
            have X3 := Lib.hid ((XHq.out.later (lay _ _)).grown g3 (fun c hc e => by have := (World.ownsRow.lt JH.out c hc).1; omega))
            have J3H := Lib.hid J3
            clear J3 g3
            go_roundw
            case rel => exact ⟨q + 1, by omega, by go_num, by rw [SN.out]; exact ND2.out, by rw [SN.out]; exact J3H.out, X3.out, B3.out⟩
            case measure => simp [intOf]; omega
        · obtain rfl : q = (T.L n).length := by omega
          have ND2 := Lib.hid (show (seenL T (n + 1) 0).Nodup by rw [HSZ.out, ← HSE.out]; exact NDq.out)
          have J2 := Lib.hid (show Ib (w.heap.size + 1) wr u3 (seenL T (n + 1) 0) by rw [HSZ.out, ← HSE.out]; exact J)
          clear J wd
          go_wp2
          go_roundw
          case rel => exact ⟨n + 1, by omega, by go_num, ND2.out, J2.out, XHq.out, HWq.out⟩
          case measure => simp [intOf]; omega
    · obtain rfl : n = bn := by omega
      have G : Hid T.Once := by show T.Once; have := NDH.out; rw [seen_zero, HBN.out] at this; exact once_of this
      go_wp2
      go_ret
      exact IffB.yes G.out HW.out
end Go.Proofs.Ytoikdonecbpjaaa.Tm
