/-
  IntervalAt in the model.
-/
import Derived.Test.YthimpcfodbmhkaaAtI
import Derived.Test.YthimpcfodbmhkaaNeedS
namespace Go.Proofs.Ythimpcfodbmhkaa.Ac
open Go.RowKit Go.Proofs.Ythimpcfodbmhkaa.GfI Go.Proofs.Ythimpcfodbmhkaa.GfS Go.Proofs.Ythimpcfodbmhkaa.MixC
open Go.Proofs.Ythimpcfodbmhkaa.Gf2 (Ib wpList_append_int)
open Go.Proofs.Ythimpcfodbmhkaa.Rd (lay chain chainX RetW Rdb rows_words rows_wf GOne AnsI AnsR gone_of_own rows_of_words DInterval shape_Interval mk_Interval)
open Go.Proofs.Ythimpcfodbmhkaa.Rd (OwnV wpList_append_V wpList_append_Vb ElV undrewX AnsV)
open Go.Proofs.Ythimpcfodbmhkaa.Sg (BxN)
set_option linter.unusedVariables false
set_option linter.unusedSimpArgs false

set_option maxRecDepth 100000 in
set_option maxHeartbeats 4000000 in
theorem specIntervalAt (a : Option Addr) (cap : Nat) (l : List DInterval) (s : Int) (d : DInterval) (b : Bool) (w : World) {fr : Bool} {lo : Nat} (hl : l.length ≤ 2097152) (hs : Rdb.sz l ≤ 2097152) (h : Rd.Rows fr lo w a l) (hr : AtR s l d b) :
    Calls Try.prog 34 #[.slice a l.length cap, .int .i64 s] w (AnsS d b w) := by
  have L1 := lay w (.cells #[.int .i64 0, .int .i64 0, .slice none 0 0, .bool false] 38)
  have ZH := Lib.hid (BxN.new w #[.int .i64 0, .int .i64 0, .slice none 0 0, .bool false] 38)
  have S1 : (w.alloc (.cells #[.int .i64 0, .int .i64 0, .slice none 0 0, .bool false] 38)).heap.size = w.heap.size + 1 := by simp
  have OK := Lib.hid (l13Ok a cap l (w.alloc (.cells #[.int .i64 0, .int .i64 0, .slice none 0 0, .bool false] 38)) hl hs (h.below L1))
  have RH := Lib.hid (fun w' (bb : Below (w.alloc (.cells #[.int .i64 0, .int .i64 0, .slice none 0 0, .bool false] 38)).heap.size (w.alloc (.cells #[.int .i64 0, .int .i64 0, .slice none 0 0, .bool false] 38)) w') => (h.below L1).below bb)
  have LH := Lib.hid L1
  by_cases hp : IvP l
  · have OK := Lib.hid (OK.out.mono fun e w' q => (show e = .returned (.bool true) ∧ Below (w.alloc (.cells #[.int .i64 0, .int .i64 0, .slice none 0 0, .bool false] 38)).heap.size (w.alloc (.cells #[.int .i64 0, .int .i64 0, .slice none 0 0, .bool false] 38)) w' from by obtain ⟨r, e1, hr, b⟩ := q; rw [hr.2 hp] at e1; exact ⟨e1, b⟩))
    have GET := Lib.hid (fun k (h : k < l.length) => Rd.get_lt h)
    have IV := Lib.hid (fun k v (hk : k < l.length) (hv : l[k]? = some v) => (hp k v hk hv).2.2.1)
    have RES := Lib.hid (fun (k : Nat) v (hv : l[k]? = some v) (q : atB s v = true) (hn : ∀ (i : Nat) u, i < k → l[i]? = some u → atB s u = false) => (show d = v ∧ b = true from by
      rcases hr with ⟨-, rfl, k', hd, hq, hn'⟩ | ⟨-, -, hn'⟩
      · have e : k = k' := by
          rcases Nat.lt_trichotomy k k' with lt | e | gt
          · have := hn' k v lt hv; rw [q] at this; cases this
          · exact e
          · have := hn k' d gt hd; rw [hq] at this; cases this
        subst e
        rw [hd] at hv
        exact ⟨Option.some.inj hv, rfl⟩
      · have := hn' hp v (List.mem_of_getElem? hv); rw [q] at this; cases this))
    have REN := Lib.hid (fun (hn : ∀ (i : Nat) u, i < l.length → l[i]? = some u → atB s u = false) => (show d = default ∧ b = false from by
      rcases hr with ⟨-, rfl, k', hd, hq, -⟩ | ⟨rfl, rfl, -⟩
      · have := hn k' d (List.getElem?_eq_some_iff.1 hd).1 hd; rw [hq] at this; cases this
      · exact ⟨rfl, rfl⟩))
    have hl6 := hp.len
    obtain ⟨n, hn⟩ : ∃ n, l.length = n := ⟨_, rfl⟩
    rw [hn] at hl hl6 GET IV OK REN ⊢
    clear h hs hr hn hp L1
    go_enter Try.func34, Try.ntmps34
    go_wp2_with fail
    refine OK.out.mono ?_
    rintro e w1 ⟨rfl, b1⟩
    have B1 := Lib.hid b1
    clear b1
    go_wp2
    go_loop [6] (fun i => ∃ k : Nat, k ≤ n ∧ i = .int .i64 k ∧ ∀ (i : Nat) u, i < k → l[i]? = some u → atB s u = false) (fun i => n - (intOf i).toNat)
    case atStart => exact ⟨0, by omega, rfl, fun i v hi => absurd hi (Nat.not_lt_zero _)⟩
    case round =>
      obtain ⟨k, hk, rfl, R⟩ := hrel
      have HR := Lib.hid R
      clear R
      by_cases hlt : k < n
      · obtain ⟨v, hv⟩ := GET.out k hlt
        obtain ⟨b0, off, cs, rfl, -, hB, hr, hcc⟩ := (RH.out _ B1.out).at' hv
        obtain ⟨a0_2, c0_2, rfl, f0_0, f0_1, f0_2, g0_2⟩ := shape_Interval hr
        have c0 : w1.cell? ⟨b0, off + k * 4, none⟩ = some (.int .i64 v.first) := hcc 0 _ rfl
        have c1 : w1.cell? ⟨b0, off + k * 4 + 1, none⟩ = some (.int .i64 v.last) := hcc 1 _ rfl
        have c2 : w1.cell? ⟨b0, off + k * 4 + 2, none⟩ = some (.slice a0_2 v.acting.length c0_2) := hcc 2 _ rfl
        have c3 : w1.cell? ⟨b0, off + k * 4 + 3, none⟩ = some (.bool v.may) := hcc 3 _ rfl
        have AP := IV.out k v hlt hv
        have OW := Lib.hid (l13Own v a0_2 c0_2 w1 AP.1.1 (by have := AP.1; omega) f0_2)
        have NX := Lib.hid (fun (q : atB s v = false) => (show ∀ (i : Nat) u, i < k + 1 → l[i]? = some u → atB s u = false from fun i u hi hu => by
          by_cases e : i = k
          · subst e; rw [hv] at hu; rw [← Option.some.inj hu]; exact q
          · exact HR.out i u (by omega) hu))
        have YS := Lib.hid (fun (q : atB s v = true) => RES.out k v hv q HR.out)
        clear hcc hr hv f0_2 AP
        by_cases q1 : v.first ≤ s
        · have d1 := decide_eq_true q1
          by_cases q2 : s ≤ v.last
          · have d2 := decide_eq_true q2
            obtain ⟨rfl, rfl⟩ := YS.out (by unfold atB; exact inB_iff.2 ⟨q1, q2⟩)
            clear q1 q2 NX YS
            go_wp2_with fail
            refine OW.out.mono ?_
            rintro e w4 ⟨q, c, rfl, hq1, hq2, hq3, R4, b4⟩
            have Z4 := (ZH.out.later (Below.trans B1.out (b4.mono B1.out.size))) 
            have z0 := Z4.cells 0 _ rfl
            have z1 := Z4.cells 1 _ rfl
            have z2 := Z4.cells 2 _ rfl
            have z3 := Z4.cells 3 _ rfl
            have zf0 := Z4.free 0
            have zf1 := Z4.free 1
            have zf2 := Z4.free 2
            have zf3 := Z4.free 3
            have LE : w.heap.size + 1 ≤ w1.heap.size := by have := B1.out.size; omega
            have BW : Below w.heap.size w w4 := LH.out.trans ((B1.out.trans (b4.mono B1.out.size)).mono (by omega))
            have F := Lib.hid (show AnsS d true w (.returned (.tuple #[.agg #[.int .i64 d.first, .int .i64 d.last, .slice (some ⟨q, 0, none⟩) d.acting.length c, .bool d.may], .bool true])) ((((w4.setCell ⟨w.heap.size, 0, none⟩ (.int .i64 d.first)).setCell ⟨w.heap.size, 1, none⟩ (.int .i64 d.last)).setCell ⟨w.heap.size, 2, none⟩ (.slice (some ⟨q, 0, none⟩) d.acting.length c)).setCell ⟨w.heap.size, 3, none⟩ (.bool d.may)) from ⟨_, c, rfl, .inr ⟨q, rfl, ((Rd.Rows.far (p := ⟨w.heap.size, 3, none⟩) (v := .bool d.may) ((Rd.Rows.far (p := ⟨w.heap.size, 2, none⟩) (v := .slice (some ⟨q, 0, none⟩) d.acting.length c) ((Rd.Rows.far (p := ⟨w.heap.size, 1, none⟩) (v := .int .i64 d.last) ((Rd.Rows.far (p := ⟨w.heap.size, 0, none⟩) (v := .int .i64 d.first) (R4.weak (lo' := w.heap.size + 1) (by have := LE; omega) (id : true = true → true = true)) (by show w.heap.size < _; omega))) (by show w.heap.size < _; omega))) (by show w.heap.size < _; omega))) (by show w.heap.size < _; omega))).weak (by omega) id, by omega, by simpa using hq2⟩, hq3, ((((BW.setCell (p := ⟨w.heap.size, 0, none⟩) (Nat.le_refl _) _).setCell (p := ⟨w.heap.size, 1, none⟩) (Nat.le_refl _) _).setCell (p := ⟨w.heap.size, 2, none⟩) (Nat.le_refl _) _).setCell (p := ⟨w.heap.size, 3, none⟩) (Nat.le_refl _) _)⟩)
            clear R4 b4 BW Z4 hq1 hq2 hq3
            go_wp2
            exact bodyPost_ret (v := .tuple #[.agg #[.int .i64 d.first, .int .i64 d.last, .slice (some ⟨q, 0, none⟩) d.acting.length c, .bool d.may], .bool true]) (by simp [results, Try.results34, go_sem, *]) rfl F.out
          · have d2 := decide_eq_false q2
            have G := Lib.hid (NX.out (by unfold atB inB; exact decide_eq_false (fun z => q2 z.2)))
            clear q1 q2 NX YS OW
            go_wp2
            go_round
            case rel => exact ⟨k + 1, by omega, by go_num, G.out⟩
            case measure => simp [intOf]; omega
        · have d1 := decide_eq_false q1
          have G := Lib.hid (NX.out (by unfold atB inB; exact decide_eq_false (fun z => q1 z.1)))
          clear q1 NX YS OW
          go_wp2
          go_round
          case rel => exact ⟨k + 1, by omega, by go_num, G.out⟩
          case measure => simp [intOf]; omega
      · obtain rfl : k = n := by omega
        obtain ⟨rfl, rfl⟩ := REN.out HR.out
        have Z1 := ZH.out.later B1.out
        have BW : Below w.heap.size w w1 := LH.out.trans (B1.out.mono (by omega))
        have z0 := Z1.cells 0 _ rfl
        have z1 := Z1.cells 1 _ rfl
        have z2 := Z1.cells 2 _ rfl
        have z3 := Z1.cells 3 _ rfl
        have zf0 := Z1.free 0
        have zf1 := Z1.free 1
        have zf2 := Z1.free 2
        have zf3 := Z1.free 3
        have F := Lib.hid (show AnsS default false w (.returned (.tuple #[.agg #[.int .i64 0, .int .i64 0, .slice none 0 0, .bool false], .bool false])) ((((w1.setCell ⟨w.heap.size, 0, none⟩ (.int .i64 0)).setCell ⟨w.heap.size, 1, none⟩ (.int .i64 0)).setCell ⟨w.heap.size, 2, none⟩ (.slice none 0 0)).setCell ⟨w.heap.size, 3, none⟩ (.bool false)) from ⟨none, 0, rfl, .inl rfl, Nat.le_refl _, ((((BW.setCell (p := ⟨w.heap.size, 0, none⟩) (Nat.le_refl _) _).setCell (p := ⟨w.heap.size, 1, none⟩) (Nat.le_refl _) _).setCell (p := ⟨w.heap.size, 2, none⟩) (Nat.le_refl _) _).setCell (p := ⟨w.heap.size, 3, none⟩) (Nat.le_refl _) _)⟩)
        clear Z1 BW
        go_wp2
        exact bodyPost_ret (v := .tuple #[.agg #[.int .i64 0, .int .i64 0, .slice none 0 0, .bool false], .bool false]) (by simp [results, Try.results34, go_sem, *]) rfl F.out
  · have OK := Lib.hid (OK.out.mono fun e w' q => (show e = .returned (.bool false) ∧ Below (w.alloc (.cells #[.int .i64 0, .int .i64 0, .slice none 0 0, .bool false] 38)).heap.size (w.alloc (.cells #[.int .i64 0, .int .i64 0, .slice none 0 0, .bool false] 38)) w' from by obtain ⟨r, e1, hr, b⟩ := q; cases r; exact ⟨e1, b⟩; exact absurd (hr.1 rfl) hp))
    obtain ⟨rfl, rfl⟩ : d = default ∧ b = false := by
      rcases hr with ⟨h1, -⟩ | ⟨h1, h2, -⟩
      · exact absurd h1 hp
      · exact ⟨h1, h2⟩
    clear h hs hr hp L1
    generalize l.length = n at *
    go_enter Try.func34, Try.ntmps34
    go_wp2_with fail
    refine OK.out.mono ?_
    rintro e w1 ⟨rfl, b1⟩
    have Z1 := ZH.out.later b1
    have BW : Below w.heap.size w w1 := LH.out.trans (b1.mono (by omega))
    have z0 := Z1.cells 0 _ rfl
    have z1 := Z1.cells 1 _ rfl
    have z2 := Z1.cells 2 _ rfl
    have z3 := Z1.cells 3 _ rfl
    have zf0 := Z1.free 0
    have zf1 := Z1.free 1
    have zf2 := Z1.free 2
    have zf3 := Z1.free 3
    have F := Lib.hid (show AnsS default false w (.returned (.tuple #[.agg #[.int .i64 0, .int .i64 0, .slice none 0 0, .bool false], .bool false])) ((((w1.setCell ⟨w.heap.size, 0, none⟩ (.int .i64 0)).setCell ⟨w.heap.size, 1, none⟩ (.int .i64 0)).setCell ⟨w.heap.size, 2, none⟩ (.slice none 0 0)).setCell ⟨w.heap.size, 3, none⟩ (.bool false)) from ⟨none, 0, rfl, .inl rfl, Nat.le_refl _, ((((BW.setCell (p := ⟨w.heap.size, 0, none⟩) (Nat.le_refl _) _).setCell (p := ⟨w.heap.size, 1, none⟩) (Nat.le_refl _) _).setCell (p := ⟨w.heap.size, 2, none⟩) (Nat.le_refl _) _).setCell (p := ⟨w.heap.size, 3, none⟩) (Nat.le_refl _) _)⟩)
    clear Z1 BW b1
    go_wp2
    exact bodyPost_ret (v := .tuple #[.agg #[.int .i64 0, .int .i64 0, .slice none 0 0, .bool false], .bool false]) (by simp [results, Try.results34, go_sem, *]) rfl F.out
end Go.Proofs.Ythimpcfodbmhkaa.Ac
