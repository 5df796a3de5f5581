/-
  The hash of a name, the placement group of an object: the program and the model.
-/
import Derived.Test.YtpmmcoggpijgmaaDoorPool
import Derived.Test.YtpmmcoggpijgmaaDoorMix
import Derived.Test.YtpmmcoggpijgmaaDoorNmI
import Derived.Test.YtpmmcoggpijgmaaDoorInts
import Derived.Laws.AppendOwn
import Derived.WalkSpells
import Derived.Deep.OwnRows
import Derived.OwnWalk
import Derived.Deep.RegionHeld3
import Derived.StillTailTactics
import Derived.Deep.DeepCutAuto
namespace Go.Proofs.YtpmmcoggpijgmaaDoor.Po
open Go.RowKit Go.Lib Go.Proofs.YtpmmcoggpijgmaaDoor.MixC Go.Proofs.YtpmmcoggpijgmaaDoor.Nam Go.Proofs.YtpmmcoggpijgmaaDoor.GfI Go.Proofs.YtpmmcoggpijgmaaDoor.GfS Go.Proofs.YtpmmcoggpijgmaaDoor.Cd
open Go.Proofs.YtpmmcoggpijgmaaDoor.Sg (BxN)
set_option linter.unusedVariables false
set_option linter.unusedSimpArgs false

/-- The bytes of a name, as the words that are hashed. -/
def wds (s : ByteArray) (k : Nat) : List Int := (List.range k).map fun i => ((byt s i : Nat) : Int)
theorem wds_length (s : ByteArray) (k : Nat) : (wds s k).length = k := by simp [wds]
theorem wds_succ (s : ByteArray) (k : Nat) : wds s (k + 1) = wds s k ++ [((byt s k : Nat) : Int)] := by unfold wds; rw [List.range_succ, List.map_append]; rfl
theorem wds_get (s : ByteArray) {n i : Nat} (h : i < n) : (wds s n).getD i 0 = ((byt s i : Nat) : Int) := by
  unfold wds; rw [List.getD_eq_getElem?_getD, List.getElem?_map, List.getElem?_range h]; rfl
theorem byt_lt (s : ByteArray) (i : Nat) : byt s i < 256 := by unfold byt; exact UInt8.toNat_lt _
theorem ix_byt (s : ByteArray) {k : Nat} (hlt : k < s.size) (W : World) : (Instr.index 9 (.string s) (.int .i64 (k : Int))).run Tryd.prog W = .ok (.int .u8 ((byt s k : Nat) : Int)) W := by
  rw [run_index_string _ _ _ _ _ Tryd.underlying9, dif_pos ⟨by omega, by omega⟩]
  congr 3
  unfold byt
  rw [List.getD_eq_getElem?_getD, List.getElem?_eq_getElem (by rw [← Lib.size_eq]; exact hlt)]
  rfl
theorem lay1 (w : World) (x : Obj) : Below w.heap.size w (w.alloc x) := (Below.refl _ _).alloc (Nat.le_refl _) _
theorem chain1 {w a b : World} (h : Below w.heap.size w a) (k : Below a.heap.size a b) : Below w.heap.size w b := h.trans (k.mono h.size)

/-- The first k words of the made slice in block g are f 0, f 1, .. -/
def FillW (W0 wr : World) (g n : Nat) (f : Nat → Int) (k : Nat) : Prop :=
  ∃ xs, wr.ownsRow W0.heap.size 2 1 (.slice (some ⟨g, 0, none⟩) n n) n xs ∧ (∀ j, j < k → xs[j]? = some (.int .i64 (f j))) ∧ Below W0.heap.size W0 wr ∧ W0.heap.size ≤ g
theorem FillW.cell {W0 wr : World} {g n : Nat} {f : Nat → Int} {k : Nat} (h : FillW W0 wr g n f k) (hk : k < n) : ∃ u, wr.cell? ⟨g, k, none⟩ = some u := by
  obtain ⟨xs, ho, _, _⟩ := h
  have hl := ho.1
  exact ⟨xs[k]'(by omega), (ho.cellAt k (by omega)).trans (List.getElem?_eq_getElem (by omega))⟩
theorem FillW.free {W0 wr : World} {g n : Nat} {f : Nat → Int} {k : Nat} (h : FillW W0 wr g n f k) (j : Nat) : wr.frozen? ⟨g, j, none⟩ = false := by
  obtain ⟨xs, ho, _, _⟩ := h; exact ho.frozenAt j
theorem FillW.put {W0 wr : World} {g n : Nat} {f : Nat → Int} {k : Nat} (h : FillW W0 wr g n f k) (hk : k < n) : FillW W0 (wr.setCell ⟨g, k, none⟩ (.int .i64 (f k))) g n f (k + 1) := by
  obtain ⟨xs, ho, hx, hb, hg⟩ := h
  have hl := ho.1
  refine ⟨_, (ho.stored k _).1, fun j hj => ?_, hb.setCell hg _, hg⟩
  rw [List.getElem?_set]
  by_cases e : k = j
  · subst e; rw [if_pos rfl, if_pos (by omega)]
  · rw [if_neg e]; exact hx j (by omega)
theorem FillW.nums {W0 wr : World} {g : Nat} {s : ByteArray} (h : FillW W0 wr g s.size (fun i => ((byt s i : Nat) : Int)) s.size) : Nums wr g 0 (wds s s.size) := by
  intro i hi
  rw [wds_length] at hi
  obtain ⟨xs, ho, hx, hb, hg⟩ := h
  rw [Nat.zero_add, ho.cellAt i (by omega), hx i hi, wds_get s hi]
theorem FillW.made (w : World) (n : Nat) (f : Nat → Int) (hn : n ≤ 2097152) : FillW w (w.alloc (.cells (madeCells #[.int .i64 0] n) 2)) w.heap.size n f 0 :=
  ⟨_, World.ownsRow_lit w (madeCells #[.int .i64 0] n) n (Nat.le_refl _) (by unfold maxLen; omega) (by simp [madeCells]), fun j hj => absurd hj (Nat.not_lt_zero _), lay1 _ _, Nat.le_refl _⟩

/-- The hash of a name. -/
def hsh (s : ByteArray) : Int := ((Mx.mix (wds s s.size) : Nat) : Int)
theorem hsh_lt (s : ByteArray) : 0 ≤ hsh s ∧ hsh s ≤ 4294967295 := by unfold hsh; have := Mx.mix_lt (wds s s.size); omega

set_option maxRecDepth 100000 in
set_option maxHeartbeats 1000000 in
theorem implHashOf (s : ByteArray) (hs : s.size ≤ 8) (w : World) :
    Calls Tryd.prog 14 #[.string s] w fun e w' => e = .returned (.int .i64 (hsh s)) ∧ Below w.heap.size w w' := by
  have hmk := fun w => run_make_row' (P := Tryd.prog) 43 2 (.int .i64 0) 8 Tryd.underlying43 info2 rfl .i64 .i64 s.size (by omega) (by omega) w
  have F0 := FillW.made w s.size (fun i => ((byt s i : Nat) : Int)) (by omega)
  go_enter Tryd.func14, Tryd.ntmps14
  go_wp2
  go_loopw [10] (fun i wr => ∃ k : Nat, k ≤ s.size ∧ i = .int .i64 k ∧ FillW w wr w.heap.size s.size (fun i => ((byt s i : Nat) : Int)) k) (fun i _ => s.size - (intOf i).toNat)
  case atStart => exact ⟨0, by omega, rfl, F0⟩
  case round =>
    obtain ⟨k, hk, rfl, R⟩ := hrel
    clear F0 hmk
    by_cases hlt : k < s.size
    · have hix := ix_byt s hlt
      have L := byt_lt s k
      obtain ⟨u, d⟩ := R.cell hlt
      have f := R.free k
      have R2 := Lib.hid (R.put hlt)
      clear R
      generalize byt s k = c at *
      go_wp2
      go_roundw
      case rel => exact ⟨k + 1, by omega, by go_num, R2.out⟩
      case measure => simp [intOf]; omega
    · obtain rfl : k = s.size := by omega
      have N := R.nums
      have B := Lib.hid (show Below w.heap.size w wr from by obtain ⟨xs, h1, h2, h3, h4⟩ := R; exact h3)
      have I := Lib.hid (implMix w.heap.size 0 s.size (wds s s.size) wr (by rw [wds_length]; omega) N)
      rw [wds_length] at I
      clear R N
      go_wp2_with (go_at_call 23; refine I.out.mono ?_; rintro e w' ⟨rfl, rfl⟩)
      go_ret
      exact ⟨rfl, B.out⟩
/-- A list of words of the call's own, from block B on. -/
def OwnI (B : Nat) (w : World) (v : Value) (zs : List Int) : Prop := w.ownsRow B 2 1 v zs.length (zs.map (Value.int .i64))
theorem OwnI.made (B : Nat) (w : World) (hB : B ≤ w.heap.size) : OwnI B (w.alloc (.cells #[] 2)) (.slice (some ⟨w.heap.size, 0, none⟩) 0 0) [] :=
  World.ownsRow_made _ #[] 0 hB (by unfold maxLen; omega) (by simp)
theorem OwnI.below {B : Nat} {w w1 : World} {v : Value} {zs : List Int} (h : OwnI B w v zs) (b : Below w.heap.size w w1) : OwnI B w1 v zs :=
  World.ownsRow.kept (row := none) h ⟨b.os, b.tape, b.output, b.size, fun k hk _ => b.block k hk⟩ (by by_cases q : v.ownBlock = none; exact .inl q; exact .inr q)
theorem OwnI.nums {B : Nat} {w : World} {v : Value} {zs : List Int} (h : OwnI B w v zs) : (zs = [] ∧ v = .slice none 0 0) ∨ ∃ g cap, v = .slice (some ⟨g, 0, none⟩) zs.length cap ∧ Nums w g 0 zs := by
  have h' := h
  rcases h with ⟨hl, hr⟩
  rcases hr with ⟨rfl, h0⟩ | ⟨g, cap, cur, rfl, hb, hg, hn, hcm, hcs, htake⟩
  · exact .inl ⟨List.length_eq_zero_iff.1 h0, rfl⟩
  · refine .inr ⟨g, cap, rfl, fun i hi => ?_⟩
    rw [Nat.zero_add, h'.cellAt i (by omega), List.getElem?_map, List.getElem?_eq_getElem hi, List.getD_eq_getElem?_getD, List.getElem?_eq_getElem hi]; rfl
theorem OwnI.grown {B : Nat} {w w1 : World} {v : Value} {zs : List Int} (h : OwnI B w v zs) (hB : B ≤ w.heap.size) (o : Obj) (g : (w.alloc o).grownBy w1 v.ownBlock) : Below B w w1 :=
  ((Below.refl B w).alloc hB o).grown g (by rw [World.size_alloc]; omega) (fun k hk => (World.ownsRow.lt h k hk).1)
theorem wpList_append_word {w0 : World} {ops : Array Oper} {rest : List Oper} {o : Oper} {a : Act} {Q : Exit → Act → World → Prop} (hgd : o.guard = none) (s x : Operand)
    (ho : o.op = .call { callee := .builtin .append, args := #[s, x], argTypes := #[43, 43] }) (B : Nat) (v : Value) (zs : List Int) (hs : a.eval s = v) (c : Int) (hb : OwnI B w0 v zs)
    (hx : a.eval x = .slice (some ⟨w0.heap.size, 0, none⟩) 1 1) (hlen : zs.length ≤ 1000000) (hB : B ≤ w0.heap.size)
    (h : ∀ v' w', OwnI B w' v' (zs ++ [c]) → (w0.alloc (.cells #[.int .i64 c] 2)).grownBy w' v.ownBlock → wpList Tryd.prog ops Q rest (a.put o.dst v') w') : wpList Tryd.prog ops Q (o :: rest) a (w0.alloc (.cells #[.int .i64 c] 2)) := by
  obtain ⟨i0, hi, hz0, hz1, hz2⟩ := info_parts info2
  refine wpList_append_own _ hgd s x 43 ho B 2 i0 (.int .i64 0) 1 8 Tryd.underlying43 hi hz0 hz1 hz2 rfl (by decide) v zs.length (zs.map (Value.int .i64)) hs (World.ownsRow.alloc hb _) ⟨w0.heap.size, 0, none⟩ 1 1 [.int .i64 c] hx rfl (cell_one_new _ _ _) (by intro u hu; simp at hu; subst hu; rfl) (by unfold maxLen; omega) (by omega) (by simp; omega) ?_
  intro v' w' ho' hg' _
  refine h v' w' ?_ hg'
  unfold OwnI
  rw [List.length_append, List.map_append]
  exact ho'
theorem bxUnder {w w1 : World} {b C : Nat} {vs : List Value} (h : BxN w b vs) (hb : b < C) (k : Below C w w1) : BxN w1 b vs :=
  ⟨Nat.lt_of_lt_of_le h.lt k.size, fun i v hv => (k.cell (p := ⟨b, i, none⟩) hb).trans (h.cells i v hv), fun i => (k.frozen (p := ⟨b, i, none⟩) hb).trans (h.free i)⟩

set_option maxRecDepth 100000 in
set_option maxHeartbeats 4000000 in
theorem l09No (i k m n g r : Int) (s : ByteArray) (h1 : 1 ≤ s.size) (hs : s.size ≤ 8) (g0 : 1 ≤ g) (g1 : g ≤ 16) (w : World) :
    Calls Tryd.prog 10 #[pval i k m n g r, .string s] w fun e w' => e = .returned (.int .i64 (hsh s % g)) ∧ Below w.heap.size w w' := by
  have BH := Lib.hid (chain1 (lay1 w (.cells #[.int .i64 i, .int .i64 k, .int .i64 m, .int .i64 n, .int .i64 g, .int .i64 r] 32)) (lay1 _ (.cells #[] 2)))
  have XH := Lib.hid ((BxN.new w #[.int .i64 i, .int .i64 k, .int .i64 m, .int .i64 n, .int .i64 g, .int .i64 r] 32).later (lay1 _ (.cells #[] 2)))
  have OH := OwnI.made (w.heap.size + 1) (w.alloc (.cells #[.int .i64 i, .int .i64 k, .int .i64 m, .int .i64 n, .int .i64 g, .int .i64 r] 32)) (by rw [World.size_alloc]; omega)
  rw [World.size_alloc] at OH
  have SZ := Lib.hid (show w.heap.size + 1 ≤ ((w.alloc (.cells #[.int .i64 i, .int .i64 k, .int .i64 m, .int .i64 n, .int .i64 g, .int .i64 r] 32)).alloc (.cells #[] 2)).heap.size from by simp only [World.size_alloc]; omega)
  have OH := Lib.hid OH
  go_enter Tryd.func10, Tryd.ntmps10
  go_wp2
  go_loopw [5, 6] (fun v x wr => ∃ j : Nat, j ≤ s.size ∧ x = .int .i64 j ∧ OwnI (w.heap.size + 1) wr v (wds s j) ∧ BxN wr w.heap.size [.int .i64 i, .int .i64 k, .int .i64 m, .int .i64 n, .int .i64 g, .int .i64 r] ∧ Below w.heap.size w wr ∧ w.heap.size + 1 ≤ wr.heap.size) (fun _ x _ => s.size - (intOf x).toNat)
  case atStart => exact ⟨0, by omega, rfl, OH.out, XH.out, BH.out, SZ.out⟩
  case round =>
    obtain ⟨j, hj, rfl, O, X, B, SZ2⟩ := hrel
    clear OH XH BH SZ
    have SZ2 := Lib.hid SZ2
    have BH := Lib.hid B
    have XH := Lib.hid X
    clear B X
    by_cases hlt : j < s.size
    · have hix := ix_byt s hlt
      have L := byt_lt s j
      have SN := Lib.hid (wds_succ s j)
      have LN := Lib.hid (wds_length s j)
      generalize byt s j = c at *
      generalize wds s j = zs at *
      have b0 : (0 : Int) ≤ (j : Int) := by omega
      have b1 : (j : Int) < (s.size : Int) := by omega
      have OH := Lib.hid O
      clear O
      go_wp2_with (at_builtin; refine wpList_append_word rfl (.tmp 14) (.tmp 19) rfl (w.heap.size + 1) _ zs rfl (c : Int) OH.out rfl (by have := LN.out; omega) SZ2.out ?_; intro v' w3 J3 g3)
      have K3 := Lib.hid (OH.out.grown SZ2.out _ g3)
      have B3 := Lib.hid (BH.out.trans (K3.out.mono (Nat.le_succ _)))
      have X3 := Lib.hid (bxUnder XH.out (Nat.lt_succ_self _) K3.out)
      have S3 := Lib.hid (Nat.le_trans SZ2.out K3.out.size)
      have J3 := Lib.hid J3
      clear g3 K3
      go_roundw
      case rel => exact ⟨j + 1, by omega, by go_num, by rw [SN.out]; exact J3.out, X3.out, B3.out, S3.out⟩
      case measure => simp [intOf]; omega
    · obtain rfl : j = s.size := by omega
      rcases O.nums with ⟨e, -⟩ | ⟨q, cap, rfl, N⟩
      · have := wds_length s s.size; rw [e] at this; simp at this; omega
      · have N := Lib.hid N
        have M := Lib.hid (fun W (h : Nums W q 0 (wds s s.size)) => l01Mix q 0 cap (wds s s.size) W (by rw [wds_length]; omega) h)
        have E := Lib.hid (show ((Mx.mix (wds s s.size) : Nat) : Int) = hsh s from rfl)
        have LT := hsh_lt s
        rw [wds_length] at M
        rw [E.out] at M
        rw [wds_length]
        generalize hH : hsh s = H at M LT
        have HH := Lib.hid hH
        clear hH
        have x4 := XH.out.cells 4 _ rfl
        have nz : ¬ g = 0 := by omega
        have tm : H.tmod g = H % g := Int.tmod_eq_emod_of_nonneg LT.1
        clear O E
        go_upto_region 6 with fail
        refine wp_region_still_tail 5 (by kernel_rfl) (by kernel_rfl) ?_
        simp only [List.take_succ_cons, List.take_zero, List.drop_succ_cons, List.drop_zero]
        still_step
        still_call ((M.out wr.drew (fun i hi => N.out i hi)).mono fun _ _ q => ⟨q.1, q.2.symm⟩)
        still_step
        still_step
        still_step
        refine wpStill_nil ?_
        change wpList _ _ _ _ _ (wr.drewN 1)
        have B1 := Lib.hid (show Below w.heap.size w (wr.drewN 1) from BH.out.drew)
        generalize wr.drewN 1 = w2 at *
        go_wp2
        go_ret
        exact ⟨by rw [HH.out]; rfl, B1.out⟩
end Go.Proofs.YtpmmcoggpijgmaaDoor.Po
