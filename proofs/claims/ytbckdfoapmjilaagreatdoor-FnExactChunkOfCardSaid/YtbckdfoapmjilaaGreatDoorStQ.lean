/-
  Where a chunk stands among chunks, in the model (written by tools/gen/stq.py).
-/
import Derived.Test.YtbckdfoapmjilaaGreatDoorStC
import Derived.Test.YtbckdfoapmjilaaGreatDoorStZ
import Derived.Test.YtbckdfoapmjilaaGreatDoorRs
import Derived.Deep.DeepCutAuto
import Derived.Deep.RegionHeld3
namespace Go.Proofs.YtbckdfoapmjilaaGreatDoor.Rd
open Go.RowKit Go.ChangeShapes Go.WideShapes Go.Proofs.YtbckdfoapmjilaaGreatDoor.GfI Go.Proofs.YtbckdfoapmjilaaGreatDoor.GfS
open Go.Proofs.YtbckdfoapmjilaaGreatDoor.Sg (BxN)
set_option linter.unusedVariables false
set_option linter.unusedSimpArgs false

theorem verL_iff2 (a b : DVer) : verL a b = true ↔ a.epoch < b.epoch ∨ (a.epoch = b.epoch ∧ a.seq < b.seq) := by unfold verL; simp
theorem cLt_iff (a b : DChunk) : cLt a b = true ↔ sLt a.name b.name = true ∨ (a.name = b.name ∧ (a.ver.epoch < b.ver.epoch ∨ (a.ver.epoch = b.ver.epoch ∧ (a.ver.seq < b.ver.seq ∨ (a.ver.seq = b.ver.seq ∧ a.pos < b.pos))))) := by
  unfold cLt
  cases h : sameS a.name b.name
  · have n : a.name ≠ b.name := fun e => by rw [sameS_iff.2 e] at h; cases h
    simp [n]
  · have e := sameS_iff.1 h
    rw [e, sLt_irrefl]
    simp only [if_true, true_and, Bool.false_eq_true, false_or]
    by_cases q : a.ver.epoch = b.ver.epoch ∧ a.ver.seq = b.ver.seq
    · rw [if_pos q, decide_eq_true_eq]; omega
    · rw [if_neg q, verL_iff2]; omega
theorem cLt_trans {a b c : DChunk} (h : cLt a b = true) (k : cLt b c = true) : cLt a c = true := by
  rw [cLt_iff] at h k ⊢
  rcases h with h | ⟨e, h⟩
  · rcases k with k | ⟨e2, k⟩
    · exact .inl (sLt_trans h k)
    · exact .inl (by rw [← e2]; exact h)
  · rcases k with k | ⟨e2, k⟩
    · exact .inl (by rw [e]; exact k)
    · exact .inr ⟨e.trans e2, by omega⟩
theorem chkC_zero (a b : DChunk) : chkC a b = 0 ↔ cLt a b = false ∧ cLt b a = false := by
  have N := negChunk a b
  constructor
  · intro h
    have e1 : cLt a b = false := by rw [← N, h]; rfl
    refine ⟨e1, ?_⟩
    cases q : cLt b a
    · rfl
    · exfalso
      have z1 : cmpS a.name b.name = 0 ∧ verC a.ver b.ver = 0 ∧ cmpZ a.pos b.pos = 0 := by
        unfold chkC orZ orZ orZ orZ at h
        by_cases i : cmpS a.name b.name = 0 <;> by_cases j : verC a.ver b.ver = 0 <;> simp [i, j] at h <;> simp_all
      obtain ⟨z, z2, z3⟩ := z1
      rw [cLt_iff] at q
      have nm : a.name = b.name := by
        unfold cmpS at z
        cases s1 : sLt a.name b.name <;> cases s2 : sameS a.name b.name <;> simp [s1, s2] at z
        · exact sameS_iff.1 s2
      rw [nm, sLt_irrefl] at q
      have vv : a.ver.epoch = b.ver.epoch ∧ a.ver.seq = b.ver.seq := by
        unfold verC cmpZ orZ orZ orZ at z2
        by_cases i1 : a.ver.epoch < b.ver.epoch <;> by_cases i2 : b.ver.epoch < a.ver.epoch <;> by_cases i3 : a.ver.seq < b.ver.seq <;> by_cases i4 : b.ver.seq < a.ver.seq <;> simp [i1, i2, i3, i4] at z2 <;> omega
      have pp : a.pos = b.pos := by
        unfold cmpZ at z3
        by_cases i1 : a.pos < b.pos <;> by_cases i2 : b.pos < a.pos <;> simp [i1, i2] at z3 <;> omega
      simp at q
      omega
  · rintro ⟨h1, h2⟩
    have nm : a.name = b.name := by
      refine sLt_tri ?_ ?_
      · cases s : sLt a.name b.name
        · rfl
        · rw [(cLt_iff a b).2 (.inl s)] at h1; cases h1
      · cases s : sLt b.name a.name
        · rfl
        · rw [(cLt_iff b a).2 (.inl s)] at h2; cases h2
    have n1 : ¬ cLt a b = true := by rw [h1]; decide
    have n2 : ¬ cLt b a = true := by rw [h2]; decide
    rw [cLt_iff, nm] at n1
    rw [cLt_iff, nm] at n2
    simp only [sLt_irrefl, Bool.false_eq_true, false_or, true_and] at n1 n2
    have e : a.ver.epoch = b.ver.epoch := by omega
    have s : a.ver.seq = b.ver.seq := by omega
    have p : a.pos = b.pos := by omega
    unfold chkC cmpS verC cmpZ
    rw [nm, sLt_irrefl, sameS_self, e, s, p]
    simp [orZ]
/-- k is the place of c among l, b whether it is there. -/
def PlaceC (l : List DChunk) (c : DChunk) (k : Nat) (b : Bool) : Prop :=
  k ≤ l.length ∧ (∀ (i : Nat) (x : DChunk), i < k → l[i]? = some x → cLt x c = true) ∧ (∀ (x : DChunk), l[k]? = some x → cLt x c = false) ∧ (b = true ↔ ∃ x, l[k]? = some x ∧ cLt x c = false ∧ cLt c x = false)
def RisC (l : List DChunk) : Prop := ∀ (i j : Nat) (x y : DChunk), i < j → l[i]? = some x → l[j]? = some y → cLt x y = true
theorem risC_of {m : Nat} {p : DChunk → Bool} {l : List DChunk} (h : SeqP m cLt p l) : RisC l := by
  have S : ∀ d i x y, l[i]? = some x → l[i + d + 1]? = some y → cLt x y = true := by
    intro d
    induction d with
    | zero => exact fun i x y hx hy => h.2.1 i x y hx hy
    | succ d ih =>
      intro i x y hx hy
      have hz : i + d + 1 < l.length := by have := (List.getElem?_eq_some_iff.1 hy).1; omega
      exact cLt_trans (ih i x _ hx (List.getElem?_eq_getElem hz)) (h.2.1 (i + d + 1) _ y (List.getElem?_eq_getElem hz) hy)
  intro i j x y hij hx hy
  have e : i + (j - i - 1) + 1 = j := by omega
  exact S (j - i - 1) i x y hx (by rw [e]; exact hy)
def AnsC (l : List DChunk) (c : DChunk) (w : World) (e : Ending) (w' : World) : Prop := ∃ (k : Nat) (b : Bool), e = .returned (.tuple #[.int .i64 k, .bool b]) ∧ PlaceC l c k b ∧ Below w.heap.size w w'
theorem place_unique {l : List DChunk} {c : DChunk} {k k' : Nat} {b b' : Bool} (h : PlaceC l c k b) (h' : PlaceC l c k' b') : k = k' ∧ b = b' := by
  have e : k = k' := by
    rcases Nat.lt_trichotomy k k' with q | q | q
    · obtain ⟨x, hx⟩ := get_lt (show k < l.length by have := h'.1; omega)
      have h1 := h.2.2.1 x hx
      rw [h'.2.1 k x q hx] at h1; cases h1
    · exact q
    · obtain ⟨x, hx⟩ := get_lt (show k' < l.length by have := h.1; omega)
      have h1 := h'.2.2.1 x hx
      rw [h.2.1 k' x q hx] at h1; cases h1
  subst e
  refine ⟨rfl, ?_⟩
  have := h.2.2.2.trans h'.2.2.2.symm
  cases b <;> cases b' <;> simp_all
set_option maxRecDepth 100000 in
set_option maxHeartbeats 4000000 in
theorem specAt (a : Option Addr) (cap : Nat) (l : List DChunk) (c : DChunk) (w : World) (hl : l.length ≤ 2097152) {fr : Bool} {lo : Nat} (hc : Rows fr lo w a l) : Calls Tryz.prog 55 #[.slice a l.length cap, .agg #[.string c.name, .int .i64 c.ver.epoch, .int .i64 c.ver.seq, .int .i64 c.pos, .int .i64 c.sum, .string c.bytes]] w (AnsC l c w) := by
  have LY := lay w (.cells #[.string c.name, .int .i64 c.ver.epoch, .int .i64 c.ver.seq, .int .i64 c.pos, .int .i64 c.sum, .string c.bytes] 48)
  have LW := Lib.hid LY
  have CH := Lib.hid (BxN.new w #[.string c.name, .int .i64 c.ver.epoch, .int .i64 c.ver.seq, .int .i64 c.pos, .int .i64 c.sum, .string c.bytes] 48)
  have RH := Lib.hid (hc.below LY)
  have GET := Lib.hid (fun k (h : k < l.length) => get_lt h)
  have LEN := Lib.hid (fun k x (h : l[k]? = some x) => (List.getElem?_eq_some_iff.1 h).1)
  obtain ⟨n, hn⟩ : ∃ n, l.length = n := ⟨_, rfl⟩
  have HN := Lib.hid hn
  rw [hn] at hl GET LEN ⊢
  clear hn hc LY
  go_enter Tryz.func55, Tryz.ntmps55
  go_wp2
  go_loopw [6] (fun i wr => ∃ k : Nat, k ≤ n ∧ i = .int .i64 k ∧ (∀ (i : Nat) (x : DChunk), i < k → l[i]? = some x → cLt x c = true) ∧ Below (w.alloc (.cells #[.string c.name, .int .i64 c.ver.epoch, .int .i64 c.ver.seq, .int .i64 c.pos, .int .i64 c.sum, .string c.bytes] 48)).heap.size (w.alloc (.cells #[.string c.name, .int .i64 c.ver.epoch, .int .i64 c.ver.seq, .int .i64 c.pos, .int .i64 c.sum, .string c.bytes] 48)) wr) (fun i _ => n - (intOf i).toNat)
  case atStart => exact ⟨0, by omega, rfl, fun i x hi => absurd hi (Nat.not_lt_zero _), Below.refl _ _⟩
  case round =>
    obtain ⟨k, hk, rfl, H1, hw⟩ := hrel
    have H1 := Lib.hid H1
    have CH := Lib.hid (CH.out.later hw)
    have BF := Lib.hid hw
    have BH := Lib.hid (Below.refl wr.heap.size wr)
    by_cases hlt : k < n
    · obtain ⟨x, hx⟩ := GET.out k hlt
      obtain ⟨b, off, cs, ea, -, hB, hr, hcc⟩ := (RH.out.below hw).at' hx
      obtain ⟨rfl, f0_0, f0_1, f0_2, f0_3, f0_4, f0_5⟩ := shape_Chunk hr
      have z0 : wr.cell? ⟨b, off + k * 6, none⟩ = some (.string x.name) := hcc 0 _ rfl
      have z1 : wr.cell? ⟨b, off + k * 6 + 1, none⟩ = some (.int .i64 x.ver.epoch) := hcc 1 _ rfl
      have z2 : wr.cell? ⟨b, off + k * 6 + 2, none⟩ = some (.int .i64 x.ver.seq) := hcc 2 _ rfl
      have z3 : wr.cell? ⟨b, off + k * 6 + 3, none⟩ = some (.int .i64 x.pos) := hcc 3 _ rfl
      have z4 : wr.cell? ⟨b, off + k * 6 + 4, none⟩ = some (.int .i64 x.sum) := hcc 4 _ rfl
      have z5 : wr.cell? ⟨b, off + k * 6 + 5, none⟩ = some (.string x.bytes) := hcc 5 _ rfl
      have HX := Lib.hid hx
      have XR := Lib.hid (fun w' (q : Below wr.heap.size wr w') => (show w'.cell? ⟨b, off + k * 6, none⟩ = some (.string x.name) ∧ w'.cell? ⟨b, off + k * 6 + 1, none⟩ = some (.int .i64 x.ver.epoch) ∧ w'.cell? ⟨b, off + k * 6 + 2, none⟩ = some (.int .i64 x.ver.seq) ∧ w'.cell? ⟨b, off + k * 6 + 3, none⟩ = some (.int .i64 x.pos) ∧ w'.cell? ⟨b, off + k * 6 + 4, none⟩ = some (.int .i64 x.sum) ∧ w'.cell? ⟨b, off + k * 6 + 5, none⟩ = some (.string x.bytes) from ⟨(q.cell (p := ⟨b, off + k * 6, none⟩) hB).trans z0, (q.cell (p := ⟨b, off + k * 6 + 1, none⟩) hB).trans z1, (q.cell (p := ⟨b, off + k * 6 + 2, none⟩) hB).trans z2, (q.cell (p := ⟨b, off + k * 6 + 3, none⟩) hB).trans z3, (q.cell (p := ⟨b, off + k * 6 + 4, none⟩) hB).trans z4, (q.cell (p := ⟨b, off + k * 6 + 5, none⟩) hB).trans z5⟩))
      have CL := Lib.hid (fun w' (_ : Below wr.heap.size wr w') => specChunkLess x c w')
      have CM := Lib.hid (fun w' (_ : Below wr.heap.size wr w') => specChunkLess c x w')
      clear hcc hr hx hw
      subst ea
      cases q : cLt x c
      · rw [q] at CL
        have PL := Lib.hid (fun (b : Bool) (hb : b = true ↔ cLt c x = false) => (show PlaceC l c k b from ⟨by rw [HN.out]; exact hk, H1.out, fun y hy => (by rw [HX.out] at hy; cases hy; exact q), ⟨fun h => ⟨x, HX.out, q, hb.1 h⟩, fun ⟨y, hy, _, h2⟩ => (by rw [HX.out] at hy; cases hy; exact hb.2 h2)⟩⟩))
        clear q
        obtain ⟨C_0, C_1, C_2, C_3, C_4, C_5⟩ := c6 CH.out
        obtain ⟨z0, z1, z2, z3, z4, z5⟩ := XR.out _ BH.out
        go_wp2
        refine wp_region_noPanic ?_
        refine wp_region_held_drew (S := (fun w' => w'.cell? ⟨w.heap.size, 0, none⟩ = some (.string c.name) ∧ w'.cell? ⟨w.heap.size, 1, none⟩ = some (.int .i64 c.ver.epoch) ∧ w'.cell? ⟨w.heap.size, 2, none⟩ = some (.int .i64 c.ver.seq) ∧ w'.cell? ⟨w.heap.size, 3, none⟩ = some (.int .i64 c.pos) ∧ w'.cell? ⟨w.heap.size, 4, none⟩ = some (.int .i64 c.sum) ∧ w'.cell? ⟨w.heap.size, 5, none⟩ = some (.string c.bytes) ∧ w'.cell? ⟨b, off + k * 6, none⟩ = some (.string x.name) ∧ w'.cell? ⟨b, off + k * 6 + 1, none⟩ = some (.int .i64 x.ver.epoch) ∧ w'.cell? ⟨b, off + k * 6 + 2, none⟩ = some (.int .i64 x.ver.seq) ∧ w'.cell? ⟨b, off + k * 6 + 3, none⟩ = some (.int .i64 x.pos) ∧ w'.cell? ⟨b, off + k * 6 + 4, none⟩ = some (.int .i64 x.sum) ∧ w'.cell? ⟨b, off + k * 6 + 5, none⟩ = some (.string x.bytes))) (by kernel_rfl) ?_ (fun hHeld => ?_)
        · go_keep
        refine tj 0 rfl ?_
        try simp only [Act.put, ya, yb, yc, yd, ye, yf]
        refine tj 1 rfl ?_
        try simp only [Act.put, ya, yb, yc, yd, ye, yf]
        refine tj 2 rfl ?_
        try simp only [Act.put, ya, yb, yc, yd, ye, yf]
        refine tj 3 rfl ?_
        try simp only [Act.put, ya, yb, yc, yd, ye, yf]
        refine tj 4 rfl ?_
        try simp only [Act.put, ya, yb, yc, yd, ye, yf]
        refine tj 5 rfl ?_
        try simp only [Act.put, ya, yb, yc, yd, ye, yf]
        refine tj 6 rfl ?_
        try simp only [Act.put, ya, yb, yc, yd, ye, yf]
        refine tj 7 rfl ?_
        try simp only [Act.put, ya, yb, yc, yd, ye, yf]
        refine tj 8 rfl ?_
        try simp only [Act.put, ya, yb, yc, yd, ye, yf]
        refine tj 9 rfl ?_
        try simp only [Act.put, ya, yb, yc, yd, ye, yf]
        refine wpAnyH_ready (rs := [10]) (by kernel_rfl) (by simp) ?_
        refine AllReadyH.cons rfl (fun K hK => ?_) AllReadyH.nil
        go_simp
        (go_at_call 73; refine (CL.out _ (by first | exact BH.out | exact BH.out.drew)).mono ?_; rintro e9 w9 ⟨rfl, b9⟩; (try replace b9 := undrewX b9); have CH := Lib.hid (CH.out.later b9); have BH := Lib.hid (chainX _ BH.out b9); obtain ⟨C_0, C_1, C_2, C_3, C_4, C_5⟩ := c6 CH.out; obtain ⟨z0, z1, z2, z3, z4, z5⟩ := XR.out _ BH.out; clear b9)
        (try go_wp2_with fail)
        refine hK.out _ _ ?_ (fun hHeld10 => ?_)
        · (try dsimp only); go_keep
        clear hK K
        try simp only [Act.put, ya, yb, yc, yd, ye, yf]
        refine tj 11 rfl ?_
        try simp only [Act.put, ya, yb, yc, yd, ye, yf]
        refine wpAnyH_done (by kernel_rfl) ?_ _
        refine NoPanic.normal ?_
        generalize hq2 : cLt c x = q2 at *
        clear hq2
        cases q2
        · have PB := Lib.hid (PL.out true ⟨fun _ => rfl, fun _ => rfl⟩)
          clear PL
          obtain ⟨C_0, C_1, C_2, C_3, C_4, C_5⟩ := c6 CH.out
          obtain ⟨z0, z1, z2, z3, z4, z5⟩ := XR.out _ BH.out
          go_wp2
          refine wp_region_noPanic ?_
          refine wp_region_held_drew (S := (fun w' => w'.cell? ⟨w.heap.size, 0, none⟩ = some (.string c.name) ∧ w'.cell? ⟨w.heap.size, 1, none⟩ = some (.int .i64 c.ver.epoch) ∧ w'.cell? ⟨w.heap.size, 2, none⟩ = some (.int .i64 c.ver.seq) ∧ w'.cell? ⟨w.heap.size, 3, none⟩ = some (.int .i64 c.pos) ∧ w'.cell? ⟨w.heap.size, 4, none⟩ = some (.int .i64 c.sum) ∧ w'.cell? ⟨w.heap.size, 5, none⟩ = some (.string c.bytes) ∧ w'.cell? ⟨b, off + k * 6, none⟩ = some (.string x.name) ∧ w'.cell? ⟨b, off + k * 6 + 1, none⟩ = some (.int .i64 x.ver.epoch) ∧ w'.cell? ⟨b, off + k * 6 + 2, none⟩ = some (.int .i64 x.ver.seq) ∧ w'.cell? ⟨b, off + k * 6 + 3, none⟩ = some (.int .i64 x.pos) ∧ w'.cell? ⟨b, off + k * 6 + 4, none⟩ = some (.int .i64 x.sum) ∧ w'.cell? ⟨b, off + k * 6 + 5, none⟩ = some (.string x.bytes))) (by kernel_rfl) ?_ (fun hHeld => ?_)
          · go_keep
          refine tj 0 rfl ?_
          try simp only [Act.put, ya, yb, yc, yd, ye, yf]
          refine tj 1 rfl ?_
          try simp only [Act.put, ya, yb, yc, yd, ye, yf]
          refine tj 2 rfl ?_
          try simp only [Act.put, ya, yb, yc, yd, ye, yf]
          refine tj 3 rfl ?_
          try simp only [Act.put, ya, yb, yc, yd, ye, yf]
          refine tj 4 rfl ?_
          try simp only [Act.put, ya, yb, yc, yd, ye, yf]
          refine tj 5 rfl ?_
          try simp only [Act.put, ya, yb, yc, yd, ye, yf]
          refine tj 6 rfl ?_
          try simp only [Act.put, ya, yb, yc, yd, ye, yf]
          refine tj 7 rfl ?_
          try simp only [Act.put, ya, yb, yc, yd, ye, yf]
          refine tj 8 rfl ?_
          try simp only [Act.put, ya, yb, yc, yd, ye, yf]
          refine tj 9 rfl ?_
          try simp only [Act.put, ya, yb, yc, yd, ye, yf]
          refine tj 10 rfl ?_
          try simp only [Act.put, ya, yb, yc, yd, ye, yf]
          refine wpAnyH_ready (rs := [11]) (by kernel_rfl) (by simp) ?_
          refine AllReadyH.cons rfl (fun K hK => ?_) AllReadyH.nil
          go_simp
          (go_at_call 73; refine (CM.out _ (by first | exact BH.out | exact BH.out.drew)).mono ?_; rintro e9 w9 ⟨rfl, b9⟩; (try replace b9 := undrewX b9); have CH := Lib.hid (CH.out.later b9); have BH := Lib.hid (chainX _ BH.out b9); obtain ⟨C_0, C_1, C_2, C_3, C_4, C_5⟩ := c6 CH.out; obtain ⟨z0, z1, z2, z3, z4, z5⟩ := XR.out _ BH.out; clear b9)
          (try go_wp2_with fail)
          refine hK.out _ _ ?_ (fun hHeld11 => ?_)
          · (try dsimp only); go_keep
          clear hK K
          try simp only [Act.put, ya, yb, yc, yd, ye, yf]
          refine tj 12 rfl ?_
          try simp only [Act.put, ya, yb, yc, yd, ye, yf]
          refine tj 13 rfl ?_
          try simp only [Act.put, ya, yb, yc, yd, ye, yf]
          refine tj 14 rfl ?_
          try simp only [Act.put, ya, yb, yc, yd, ye, yf]
          refine tj 15 rfl ?_
          try simp only [Act.put, ya, yb, yc, yd, ye, yf]
          refine wpAnyH_done (by kernel_rfl) ?_ _
          refine NoPanic.normal ?_
          go_wp2
          go_ret2
          exact ⟨k, true, rfl, PB.out, chainX w LW.out (chainX _ BF.out BH.out)⟩
        · have PB := Lib.hid (PL.out false ⟨fun h => (by cases h), fun h => (by cases h)⟩)
          clear PL
          obtain ⟨C_0, C_1, C_2, C_3, C_4, C_5⟩ := c6 CH.out
          obtain ⟨z0, z1, z2, z3, z4, z5⟩ := XR.out _ BH.out
          go_wp2
          refine wp_region_noPanic ?_
          refine wp_region_held_drew (S := (fun w' => w'.cell? ⟨w.heap.size, 0, none⟩ = some (.string c.name) ∧ w'.cell? ⟨w.heap.size, 1, none⟩ = some (.int .i64 c.ver.epoch) ∧ w'.cell? ⟨w.heap.size, 2, none⟩ = some (.int .i64 c.ver.seq) ∧ w'.cell? ⟨w.heap.size, 3, none⟩ = some (.int .i64 c.pos) ∧ w'.cell? ⟨w.heap.size, 4, none⟩ = some (.int .i64 c.sum) ∧ w'.cell? ⟨w.heap.size, 5, none⟩ = some (.string c.bytes) ∧ w'.cell? ⟨b, off + k * 6, none⟩ = some (.string x.name) ∧ w'.cell? ⟨b, off + k * 6 + 1, none⟩ = some (.int .i64 x.ver.epoch) ∧ w'.cell? ⟨b, off + k * 6 + 2, none⟩ = some (.int .i64 x.ver.seq) ∧ w'.cell? ⟨b, off + k * 6 + 3, none⟩ = some (.int .i64 x.pos) ∧ w'.cell? ⟨b, off + k * 6 + 4, none⟩ = some (.int .i64 x.sum) ∧ w'.cell? ⟨b, off + k * 6 + 5, none⟩ = some (.string x.bytes))) (by kernel_rfl) ?_ (fun hHeld => ?_)
          · go_keep
          refine tj 0 rfl ?_
          try simp only [Act.put, ya, yb, yc, yd, ye, yf]
          refine tj 1 rfl ?_
          try simp only [Act.put, ya, yb, yc, yd, ye, yf]
          refine tj 2 rfl ?_
          try simp only [Act.put, ya, yb, yc, yd, ye, yf]
          refine tj 3 rfl ?_
          try simp only [Act.put, ya, yb, yc, yd, ye, yf]
          refine tj 4 rfl ?_
          try simp only [Act.put, ya, yb, yc, yd, ye, yf]
          refine tj 5 rfl ?_
          try simp only [Act.put, ya, yb, yc, yd, ye, yf]
          refine tj 6 rfl ?_
          try simp only [Act.put, ya, yb, yc, yd, ye, yf]
          refine tj 7 rfl ?_
          try simp only [Act.put, ya, yb, yc, yd, ye, yf]
          refine tj 8 rfl ?_
          try simp only [Act.put, ya, yb, yc, yd, ye, yf]
          refine tj 9 rfl ?_
          try simp only [Act.put, ya, yb, yc, yd, ye, yf]
          refine tj 10 rfl ?_
          try simp only [Act.put, ya, yb, yc, yd, ye, yf]
          refine wpAnyH_ready (rs := [11]) (by kernel_rfl) (by simp) ?_
          refine AllReadyH.cons rfl (fun K hK => ?_) AllReadyH.nil
          go_simp
          (go_at_call 73; refine (CM.out _ (by first | exact BH.out | exact BH.out.drew)).mono ?_; rintro e9 w9 ⟨rfl, b9⟩; (try replace b9 := undrewX b9); have CH := Lib.hid (CH.out.later b9); have BH := Lib.hid (chainX _ BH.out b9); obtain ⟨C_0, C_1, C_2, C_3, C_4, C_5⟩ := c6 CH.out; obtain ⟨z0, z1, z2, z3, z4, z5⟩ := XR.out _ BH.out; clear b9)
          (try go_wp2_with fail)
          refine hK.out _ _ ?_ (fun hHeld11 => ?_)
          · (try dsimp only); go_keep
          clear hK K
          try simp only [Act.put, ya, yb, yc, yd, ye, yf]
          refine tj 12 rfl ?_
          try simp only [Act.put, ya, yb, yc, yd, ye, yf]
          refine tj 13 rfl ?_
          try simp only [Act.put, ya, yb, yc, yd, ye, yf]
          refine tj 14 rfl ?_
          try simp only [Act.put, ya, yb, yc, yd, ye, yf]
          refine tj 15 rfl ?_
          try simp only [Act.put, ya, yb, yc, yd, ye, yf]
          refine wpAnyH_done (by kernel_rfl) ?_ _
          refine NoPanic.normal ?_
          go_wp2
          go_ret2
          exact ⟨k, false, rfl, PB.out, chainX w LW.out (chainX _ BF.out BH.out)⟩
      · rw [q] at CL
        have H2 := Lib.hid (show ∀ (i : Nat) (y : DChunk), i < k + 1 → l[i]? = some y → cLt y c = true from fun i y hi hy => by
          by_cases e : i = k
          · subst e; rw [HX.out] at hy; cases hy; exact q
          · exact H1.out i y (by omega) hy)
        clear q
        obtain ⟨C_0, C_1, C_2, C_3, C_4, C_5⟩ := c6 CH.out
        obtain ⟨z0, z1, z2, z3, z4, z5⟩ := XR.out _ BH.out
        go_wp2
        refine wp_region_noPanic ?_
        refine wp_region_held_drew (S := (fun w' => w'.cell? ⟨w.heap.size, 0, none⟩ = some (.string c.name) ∧ w'.cell? ⟨w.heap.size, 1, none⟩ = some (.int .i64 c.ver.epoch) ∧ w'.cell? ⟨w.heap.size, 2, none⟩ = some (.int .i64 c.ver.seq) ∧ w'.cell? ⟨w.heap.size, 3, none⟩ = some (.int .i64 c.pos) ∧ w'.cell? ⟨w.heap.size, 4, none⟩ = some (.int .i64 c.sum) ∧ w'.cell? ⟨w.heap.size, 5, none⟩ = some (.string c.bytes) ∧ w'.cell? ⟨b, off + k * 6, none⟩ = some (.string x.name) ∧ w'.cell? ⟨b, off + k * 6 + 1, none⟩ = some (.int .i64 x.ver.epoch) ∧ w'.cell? ⟨b, off + k * 6 + 2, none⟩ = some (.int .i64 x.ver.seq) ∧ w'.cell? ⟨b, off + k * 6 + 3, none⟩ = some (.int .i64 x.pos) ∧ w'.cell? ⟨b, off + k * 6 + 4, none⟩ = some (.int .i64 x.sum) ∧ w'.cell? ⟨b, off + k * 6 + 5, none⟩ = some (.string x.bytes))) (by kernel_rfl) ?_ (fun hHeld => ?_)
        · go_keep
        refine tj 0 rfl ?_
        try simp only [Act.put, ya, yb, yc, yd, ye, yf]
        refine tj 1 rfl ?_
        try simp only [Act.put, ya, yb, yc, yd, ye, yf]
        refine tj 2 rfl ?_
        try simp only [Act.put, ya, yb, yc, yd, ye, yf]
        refine tj 3 rfl ?_
        try simp only [Act.put, ya, yb, yc, yd, ye, yf]
        refine tj 4 rfl ?_
        try simp only [Act.put, ya, yb, yc, yd, ye, yf]
        refine tj 5 rfl ?_
        try simp only [Act.put, ya, yb, yc, yd, ye, yf]
        refine tj 6 rfl ?_
        try simp only [Act.put, ya, yb, yc, yd, ye, yf]
        refine tj 7 rfl ?_
        try simp only [Act.put, ya, yb, yc, yd, ye, yf]
        refine tj 8 rfl ?_
        try simp only [Act.put, ya, yb, yc, yd, ye, yf]
        refine tj 9 rfl ?_
        try simp only [Act.put, ya, yb, yc, yd, ye, yf]
        refine wpAnyH_ready (rs := [10]) (by kernel_rfl) (by simp) ?_
        refine AllReadyH.cons rfl (fun K hK => ?_) AllReadyH.nil
        go_simp
        (go_at_call 73; refine (CL.out _ (by first | exact BH.out | exact BH.out.drew)).mono ?_; rintro e9 w9 ⟨rfl, b9⟩; (try replace b9 := undrewX b9); have CH := Lib.hid (CH.out.later b9); have BH := Lib.hid (chainX _ BH.out b9); obtain ⟨C_0, C_1, C_2, C_3, C_4, C_5⟩ := c6 CH.out; obtain ⟨z0, z1, z2, z3, z4, z5⟩ := XR.out _ BH.out; clear b9)
        (try go_wp2_with fail)
        refine hK.out _ _ ?_ (fun hHeld10 => ?_)
        · (try dsimp only); go_keep
        clear hK K
        try simp only [Act.put, ya, yb, yc, yd, ye, yf]
        refine tj 11 rfl ?_
        try simp only [Act.put, ya, yb, yc, yd, ye, yf]
        refine wpAnyH_done (by kernel_rfl) ?_ _
        refine NoPanic.normal ?_
        go_wp2
        have BZ := Lib.hid (chainX _ BF.out BH.out)
        go_roundw
        case rel => exact ⟨k + 1, by omega, by go_num, H2.out, BZ.out⟩
        case measure => simp [intOf]; omega
    · obtain rfl : k = n := by omega
      have PB := Lib.hid (show PlaceC l c k false from ⟨by rw [HN.out]; exact Nat.le_refl _, H1.out, fun y hy => absurd (LEN.out _ _ hy) (Nat.lt_irrefl _), ⟨fun h => (by cases h), fun ⟨y, hy, _⟩ => absurd (LEN.out _ _ hy) (Nat.lt_irrefl _)⟩⟩)
      clear hw
      obtain ⟨C_0, C_1, C_2, C_3, C_4, C_5⟩ := c6 CH.out
      go_wp2
      refine wp_region_noPanic ?_
      refine wp_region_held_drew (S := (fun w' => w'.cell? ⟨w.heap.size, 0, none⟩ = some (.string c.name) ∧ w'.cell? ⟨w.heap.size, 1, none⟩ = some (.int .i64 c.ver.epoch) ∧ w'.cell? ⟨w.heap.size, 2, none⟩ = some (.int .i64 c.ver.seq) ∧ w'.cell? ⟨w.heap.size, 3, none⟩ = some (.int .i64 c.pos) ∧ w'.cell? ⟨w.heap.size, 4, none⟩ = some (.int .i64 c.sum) ∧ w'.cell? ⟨w.heap.size, 5, none⟩ = some (.string c.bytes))) (by kernel_rfl) ?_ (fun hHeld => ?_)
      · go_keep
      refine tj 0 rfl ?_
      try simp only [Act.put, ya, yb, yc, yd, ye, yf]
      refine tj 1 rfl ?_
      try simp only [Act.put, ya, yb, yc, yd, ye, yf]
      refine tj 2 rfl ?_
      try simp only [Act.put, ya, yb, yc, yd, ye, yf]
      refine tj 3 rfl ?_
      try simp only [Act.put, ya, yb, yc, yd, ye, yf]
      refine tj 4 rfl ?_
      try simp only [Act.put, ya, yb, yc, yd, ye, yf]
      refine tk 5 (v := undef) rfl (Or.inr ⟨by kernel_rfl, rfl⟩) (by assumption) ?_
      try simp only [Act.put, ya, yb, yc, yd, ye, yf]
      refine tk 6 (v := undef) rfl (Or.inr ⟨by kernel_rfl, rfl⟩) (by assumption) ?_
      try simp only [Act.put, ya, yb, yc, yd, ye, yf]
      refine tk 7 (v := undef) rfl (Or.inr ⟨by kernel_rfl, rfl⟩) (by assumption) ?_
      try simp only [Act.put, ya, yb, yc, yd, ye, yf]
      refine tk 8 (v := undef) rfl (Or.inr ⟨by kernel_rfl, rfl⟩) (by assumption) ?_
      try simp only [Act.put, ya, yb, yc, yd, ye, yf]
      refine tk 9 (v := undef) rfl (Or.inr ⟨by kernel_rfl, rfl⟩) (by assumption) ?_
      try simp only [Act.put, ya, yb, yc, yd, ye, yf]
      refine tk 10 (v := undef) rfl (Or.inr ⟨by kernel_rfl, rfl⟩) (by assumption) ?_
      try simp only [Act.put, ya, yb, yc, yd, ye, yf]
      refine tj 11 rfl ?_
      try simp only [Act.put, ya, yb, yc, yd, ye, yf]
      refine wpAnyH_done (by kernel_rfl) ?_ _
      refine NoPanic.normal ?_
      have BH := Lib.hid BH.out.drew
      have CH := Lib.hid CH.out.drew
      generalize wr.drew = wz at *
      obtain ⟨C_0, C_1, C_2, C_3, C_4, C_5⟩ := c6 CH.out
      go_wp2
      refine wp_region_noPanic ?_
      refine wp_region_held_drew (S := (fun w' => w'.cell? ⟨w.heap.size, 0, none⟩ = some (.string c.name) ∧ w'.cell? ⟨w.heap.size, 1, none⟩ = some (.int .i64 c.ver.epoch) ∧ w'.cell? ⟨w.heap.size, 2, none⟩ = some (.int .i64 c.ver.seq) ∧ w'.cell? ⟨w.heap.size, 3, none⟩ = some (.int .i64 c.pos) ∧ w'.cell? ⟨w.heap.size, 4, none⟩ = some (.int .i64 c.sum) ∧ w'.cell? ⟨w.heap.size, 5, none⟩ = some (.string c.bytes))) (by kernel_rfl) ?_ (fun hHeld => ?_)
      · go_keep
      refine tj 0 rfl ?_
      try simp only [Act.put, ya, yb, yc, yd, ye, yf]
      refine tj 1 rfl ?_
      try simp only [Act.put, ya, yb, yc, yd, ye, yf]
      refine tj 2 rfl ?_
      try simp only [Act.put, ya, yb, yc, yd, ye, yf]
      refine tj 3 rfl ?_
      try simp only [Act.put, ya, yb, yc, yd, ye, yf]
      refine tj 4 rfl ?_
      try simp only [Act.put, ya, yb, yc, yd, ye, yf]
      refine tj 5 rfl ?_
      try simp only [Act.put, ya, yb, yc, yd, ye, yf]
      refine tk 6 (v := undef) rfl (Or.inr ⟨by kernel_rfl, rfl⟩) (by assumption) ?_
      try simp only [Act.put, ya, yb, yc, yd, ye, yf]
      refine tk 7 (v := undef) rfl (Or.inr ⟨by kernel_rfl, rfl⟩) (by assumption) ?_
      try simp only [Act.put, ya, yb, yc, yd, ye, yf]
      refine tk 8 (v := undef) rfl (Or.inr ⟨by kernel_rfl, rfl⟩) (by assumption) ?_
      try simp only [Act.put, ya, yb, yc, yd, ye, yf]
      refine tk 9 (v := undef) rfl (Or.inr ⟨by kernel_rfl, rfl⟩) (by assumption) ?_
      try simp only [Act.put, ya, yb, yc, yd, ye, yf]
      refine tk 10 (v := undef) rfl (Or.inr ⟨by kernel_rfl, rfl⟩) (by assumption) ?_
      try simp only [Act.put, ya, yb, yc, yd, ye, yf]
      refine tk 11 (v := undef) rfl (Or.inr ⟨by kernel_rfl, rfl⟩) (by assumption) ?_
      try simp only [Act.put, ya, yb, yc, yd, ye, yf]
      refine tk 12 (v := undef) rfl (Or.inr ⟨by kernel_rfl, rfl⟩) (by assumption) ?_
      try simp only [Act.put, ya, yb, yc, yd, ye, yf]
      refine tj 13 rfl ?_
      try simp only [Act.put, ya, yb, yc, yd, ye, yf]
      refine tj 14 rfl ?_
      try simp only [Act.put, ya, yb, yc, yd, ye, yf]
      refine tj 15 rfl ?_
      try simp only [Act.put, ya, yb, yc, yd, ye, yf]
      refine wpAnyH_done (by kernel_rfl) ?_ _
      refine NoPanic.normal ?_
      have BH := Lib.hid BH.out.drew
      go_wp2
      go_ret2
      exact ⟨k, false, rfl, PB.out, chainX w LW.out (chainX _ BF.out BH.out)⟩
end Go.Proofs.YtbckdfoapmjilaaGreatDoor.Rd
