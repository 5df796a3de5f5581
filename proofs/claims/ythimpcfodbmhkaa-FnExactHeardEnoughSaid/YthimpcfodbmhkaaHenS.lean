/-
  HeardEnough in the model.
-/
import Derived.Test.YthimpcfodbmhkaaNeedS
namespace Go.Proofs.Ythimpcfodbmhkaa.Ac
open Go.RowKit Go.Proofs.Ythimpcfodbmhkaa.GfI Go.Proofs.Ythimpcfodbmhkaa.GfS Go.Proofs.Ythimpcfodbmhkaa.MixC
open Go.Proofs.Ythimpcfodbmhkaa.Gf2 (Ib wpList_append_int)
open Go.Proofs.Ythimpcfodbmhkaa.Rd (lay chain chainX RetW Rdb rows_words rows_wf GOne AnsI AnsR gone_of_own rows_of_words DInterval shape_Interval mk_Interval)
open Go.Proofs.Ythimpcfodbmhkaa.Rd (OwnV wpList_append_V wpList_append_Vb ElV undrewX)
open Go.Proofs.Ythimpcfodbmhkaa.Sg (BxN)
set_option linter.unusedVariables false
set_option linter.unusedSimpArgs false

def IdxZ (P : Prop) (w : World) (e : Ending) (w' : World) : Prop := ∃ i : Int, e = .returned (.int .i64 i) ∧ Below w.heap.size w w' ∧ ((0 ≤ i ∧ P) ∨ (i = -1 ∧ ¬ P))
set_option maxRecDepth 100000 in
set_option maxHeartbeats 4000000 in
theorem l13At (a : Option Addr) (cap : Nat) (l : List DInterval) (s : Int) (w : World) {fr : Bool} {lo : Nat} (hl : l.length ≤ 2097152) (h : Rd.Rows fr lo w a l) :
    Calls Try.prog 105 #[.slice a l.length cap, .int .i64 s] w (IdxZ (∃ x, x ∈ l ∧ stB s x = true) w) := by
  have RH := Lib.hid h
  have GET := Lib.hid (fun k (h : k < l.length) => Rd.get_lt h)
  have YES := Lib.hid (fun (k : Nat) v (hv : l[k]? = some v) (q : v.first = s) => (show ∃ x, x ∈ l ∧ stB s x = true from ⟨v, List.mem_of_getElem? hv, by unfold stB; simpa using q⟩))
  have NO := Lib.hid (fun (q : ∀ (i : Nat) v, i < l.length → l[i]? = some v → v.first ≠ s) => (show ¬ ∃ x, x ∈ l ∧ stB s x = true from by
    rintro ⟨x, hx, e⟩
    obtain ⟨i, hi, rfl⟩ := List.getElem_of_mem hx
    unfold stB at e
    exact q i _ hi (List.getElem?_eq_getElem hi) (by simpa using e)))
  obtain ⟨n, hn⟩ : ∃ n, l.length = n := ⟨_, rfl⟩
  rw [hn] at hl GET NO ⊢
  clear h hn
  go_enter Try.func105, Try.ntmps105
  go_wp2
  go_loop [5] (fun i => ∃ k : Nat, k ≤ n ∧ i = .int .i64 k ∧ ∀ (i : Nat) v, i < k → l[i]? = some v → v.first ≠ s) (fun i => n - (intOf i).toNat)
  case atStart => exact ⟨0, by omega, rfl, fun i v hi => absurd hi (Nat.not_lt_zero _)⟩
  case round =>
    obtain ⟨k, hk, rfl, R⟩ := hrel
    have HR := Lib.hid R
    clear R
    by_cases hlt : k < n
    · obtain ⟨v, hv⟩ := GET.out k hlt
      obtain ⟨b, off, cs, rfl, -, hB, hr, hcc⟩ := RH.out.at' hv
      obtain ⟨a0_2, c0_2, rfl, f0_0, f0_1, f0_2, g0_2⟩ := shape_Interval hr
      have c0 : w.cell? ⟨b, off + k * 4, none⟩ = some (.int .i64 v.first) := hcc 0 _ rfl
      have NX := Lib.hid (fun (q : v.first ≠ s) => (show ∀ (i : Nat) u, i < k + 1 → l[i]? = some u → u.first ≠ s from fun i u hi hu => by
        by_cases e : i = k
        · subst e; rw [hv] at hu; rw [← Option.some.inj hu]; exact q
        · exact HR.out i u (by omega) hu))
      have YS := Lib.hid (YES.out k v hv)
      clear hcc hr hv f0_2 f0_0 f0_1 g0_2
      generalize v.first = x at *
      by_cases q : x = s
      · have G := Lib.hid (YS.out q)
        subst q
        go_wp2
        go_ret
        exact ⟨_, rfl, Below.refl _ _, .inl ⟨by omega, G.out⟩⟩
      · have G := Lib.hid (NX.out q)
        have d : (x == s) = false := by simpa using q
        clear q
        go_wp2
        go_round
        case rel => exact ⟨k + 1, by omega, by go_num, G.out⟩
        case measure => simp [intOf]; omega
    · obtain rfl : k = n := by omega
      have G := Lib.hid (NO.out HR.out)
      go_wp2
      go_ret
      exact ⟨_, rfl, Below.refl _ _, .inr ⟨rfl, G.out⟩⟩
theorem none_ofB {α : Type} {l : List α} {p : α → Bool} (h : ∀ (i : Nat) x, i < l.length → l[i]? = some x → p x = false) : ¬ ∃ x, x ∈ l ∧ p x = true := by
  rintro ⟨x, hx, hp⟩
  obtain ⟨i, hi, rfl⟩ := List.getElem_of_mem hx
  rw [h i _ hi (List.getElem?_eq_getElem hi)] at hp
  cases hp
set_option maxRecDepth 100000 in
set_option maxHeartbeats 8000000 in
theorem l13Enough (a : Option Addr) (cap : Nat) (l : List DInterval) (kk s : Int) (ah : Option Addr) (ch : Nat) (hd : List Int) (w : World) {fr fr2 : Bool} {lo lo2 : Nat} (hl : l.length ≤ 2097152) (h : Rd.Rows fr lo w a l) (hp : IvP l) (hhd : hd.length ≤ 2097152) (hb : Rd.Rows fr2 lo2 w ah hd) (ho : OutP hd) :
    Calls Try.prog 81 #[.slice a l.length cap, .int .i64 kk, .int .i64 s, .slice ah hd.length ch] w (IffB (EnP l kk s hd) w) := by
  have AT := Lib.hid (l13At a cap l s w hl h)
  have NO := Lib.hid (fun w' (b : Below w.heap.size w w') => l13Need a cap l s w' (h.below b) hp)
  have HB := Lib.hid (fun w' (b : Below w.heap.size w w') => rows_words (hb.below b))
  have IVM := Lib.hid (fun v (hv : v ∈ l) => hp.mem hv)
  have OUT := Lib.hid ho
  have NLN := Lib.hid (show (needL l s).length ≤ 1000 from Nat.le_trans (List.length_filter_le ..) (by have := hp.len; omega))
  clear h hp ho hb
  have HDL := Lib.hid hhd
  generalize l.length = n at *
  by_cases hs0 : (0 : Int) < s
  · have ds := decide_eq_true hs0
    go_enter Try.func81, Try.ntmps81
    go_wp2_with fail
    refine AT.out.mono ?_
    rintro e w1 ⟨i, rfl, b1, ⟨h0, Y⟩ | ⟨rfl, N⟩⟩
    · have d1 : decide (i < 0) = false := decide_eq_false (by omega)
      have B1 := Lib.hid b1
      have EN := Lib.hid (show s > 0 → ∃ x, x ∈ l ∧ stB s x = true from fun _ => Y)
      clear b1 Y
      go_wp2_with fail
      refine (NO.out _ B1.out).mono ?_
      rintro e w2 ⟨v2, rfl, V2, b2⟩
      have B2 := Lib.hid (chainX w B1.out b2)
      obtain ⟨a5, c5, rfl⟩ := OwnV.shape V2
      have RV := Lib.hid (OwnV.rows V2).2
      have GT := Lib.hid (fun k (h : k < (needL l s).length) => Rd.get_lt h)
      have YSS := Lib.hid (fun (q : ∀ (i : Nat) v, i < (needL l s).length → (needL l s)[i]? = some v → lackB kk hd v = false) => (show EnP l kk s hd from ⟨EN.out, none_ofB q⟩))
      have NSS := Lib.hid (fun (i : Nat) v (hv : (needL l s)[i]? = some v) (q : lackB kk hd v = true) => (show ¬ EnP l kk s hd from fun p => p.2 ⟨v, List.mem_of_getElem? hv, q⟩))
      have ACT := Lib.hid (fun (i : Nat) v (hv : (needL l s)[i]? = some v) => IVM.out v (List.mem_filter.1 (List.mem_of_getElem? hv)).1)
      have ZB := NLN.out
      clear V2 b2
      obtain ⟨z, hz⟩ : ∃ z, (needL l s).length = z := ⟨_, rfl⟩
      rw [hz] at ZB GT YSS ⊢
      clear hz
      go_wp2
      go_loopw [10] (fun i wr => ∃ j : Nat, j ≤ z ∧ i = .int .i64 j ∧ (∀ (i : Nat) v, i < j → (needL l s)[i]? = some v → lackB kk hd v = false) ∧ Below w2.heap.size w2 wr) (fun i _ => z - (intOf i).toNat)
      case atStart => exact ⟨0, by omega, rfl, fun i v hi => absurd hi (Nat.not_lt_zero _), Below.refl _ _⟩
      case round =>
        obtain ⟨j, hj, rfl, R, hw⟩ := hrel
        have HR := Lib.hid R
        have BH := Lib.hid hw
        clear R
        by_cases hlt : j < z
        · obtain ⟨v, hv⟩ := GT.out j hlt
          obtain ⟨b, off, cs, rfl, -, hB, hr, hcc⟩ := (RV.out.below hw).at' hv
          obtain ⟨a0_2, c0_2, rfl, f0_0, f0_1, f0_2, g0_2⟩ := shape_Interval hr
          have c0 : wr.cell? ⟨b, off + j * 4, none⟩ = some (.int .i64 v.first) := hcc 0 _ rfl
          have c1 : wr.cell? ⟨b, off + j * 4 + 1, none⟩ = some (.int .i64 v.last) := hcc 1 _ rfl
          have c2 : wr.cell? ⟨b, off + j * 4 + 2, none⟩ = some (.slice a0_2 v.acting.length c0_2) := hcc 2 _ rfl
          have c3 : wr.cell? ⟨b, off + j * 4 + 3, none⟩ = some (.bool v.may) := hcc 3 _ rfl
          have AP := ACT.out j v hv
          have HD := Lib.hid (l13Heard v a0_2 c0_2 ah ch hd wr (by have := AP.1; omega) hhd OUT.out (rows_words f0_2) (HB.out _ (chainX w B2.out hw)))
          have EQV : lackB kk hd v = decide (((hrdV v.acting hd).length : Int) < kk) := by unfold lackB heaV; rw [if_pos ⟨AP, OUT.out⟩]
          have NX := Lib.hid (fun (q : lackB kk hd v = false) => (show ∀ (i : Nat) u, i < j + 1 → (needL l s)[i]? = some u → lackB kk hd u = false from fun i u hi hu => by
            by_cases e : i = j
            · subst e; rw [hv] at hu; rw [← Option.some.inj hu]; exact q
            · exact HR.out i u (by omega) hu))
          have NS := Lib.hid (NSS.out j v hv)
          rw [EQV] at NX NS
          clear hcc hr hv hw f0_2 AP EQV
          generalize hrdV v.acting hd = hs at *
          go_wp2_with fail
          refine HD.out.mono ?_
          rintro e w8 ⟨a8, c8, rfl, -, b8⟩
          have B8 := Lib.hid (chainX _ BH.out b8)
          clear b8
          cases q : decide ((hs.length : Int) < kk)
          · have G := Lib.hid (NX.out q)
            generalize hs.length = hl8 at *
            go_wp2
            go_roundw
            case rel => exact ⟨j + 1, by omega, by go_num, G.out, B8.out⟩
            case measure => simp [intOf]; omega
          · have G := Lib.hid (NS.out q)
            generalize hs.length = hl8 at *
            go_wp2
            go_ret
            exact IffB.no G.out (chainX w B2.out B8.out)
        · obtain rfl : j = z := by omega
          have G := Lib.hid (YSS.out HR.out)
          clear hw
          go_wp2
          go_ret
          exact IffB.yes G.out (chainX w B2.out BH.out)
    · have G := Lib.hid (show ¬ EnP l kk s hd from fun p => N (p.1 hs0))
      have B1 := Lib.hid b1
      clear b1 N
      go_wp2
      go_ret
      exact IffB.no G.out B1.out
  · have ds := decide_eq_false hs0
    have EN := Lib.hid (show s > 0 → ∃ x, x ∈ l ∧ stB s x = true from fun q => absurd q hs0)
    have B1 := Lib.hid (Below.refl w.heap.size w)
    go_enter Try.func81, Try.ntmps81
    go_wp2_with fail
    refine (NO.out _ B1.out).mono ?_
    rintro e w2 ⟨v2, rfl, V2, b2⟩
    have B2 := Lib.hid (chainX w B1.out b2)
    obtain ⟨a5, c5, rfl⟩ := OwnV.shape V2
    have RV := Lib.hid (OwnV.rows V2).2
    have GT := Lib.hid (fun k (h : k < (needL l s).length) => Rd.get_lt h)
    have YSS := Lib.hid (fun (q : ∀ (i : Nat) v, i < (needL l s).length → (needL l s)[i]? = some v → lackB kk hd v = false) => (show EnP l kk s hd from ⟨EN.out, none_ofB q⟩))
    have NSS := Lib.hid (fun (i : Nat) v (hv : (needL l s)[i]? = some v) (q : lackB kk hd v = true) => (show ¬ EnP l kk s hd from fun p => p.2 ⟨v, List.mem_of_getElem? hv, q⟩))
    have ACT := Lib.hid (fun (i : Nat) v (hv : (needL l s)[i]? = some v) => IVM.out v (List.mem_filter.1 (List.mem_of_getElem? hv)).1)
    have ZB := NLN.out
    clear V2 b2
    obtain ⟨z, hz⟩ : ∃ z, (needL l s).length = z := ⟨_, rfl⟩
    rw [hz] at ZB GT YSS ⊢
    clear hz
    go_wp2
    go_loopw [10] (fun i wr => ∃ j : Nat, j ≤ z ∧ i = .int .i64 j ∧ (∀ (i : Nat) v, i < j → (needL l s)[i]? = some v → lackB kk hd v = false) ∧ Below w2.heap.size w2 wr) (fun i _ => z - (intOf i).toNat)
    case atStart => exact ⟨0, by omega, rfl, fun i v hi => absurd hi (Nat.not_lt_zero _), Below.refl _ _⟩
    case round =>
      obtain ⟨j, hj, rfl, R, hw⟩ := hrel
      have HR := Lib.hid R
      have BH := Lib.hid hw
      clear R
      by_cases hlt : j < z
      · obtain ⟨v, hv⟩ := GT.out j hlt
        obtain ⟨b, off, cs, rfl, -, hB, hr, hcc⟩ := (RV.out.below hw).at' hv
        obtain ⟨a0_2, c0_2, rfl, f0_0, f0_1, f0_2, g0_2⟩ := shape_Interval hr
        have c0 : wr.cell? ⟨b, off + j * 4, none⟩ = some (.int .i64 v.first) := hcc 0 _ rfl
        have c1 : wr.cell? ⟨b, off + j * 4 + 1, none⟩ = some (.int .i64 v.last) := hcc 1 _ rfl
        have c2 : wr.cell? ⟨b, off + j * 4 + 2, none⟩ = some (.slice a0_2 v.acting.length c0_2) := hcc 2 _ rfl
        have c3 : wr.cell? ⟨b, off + j * 4 + 3, none⟩ = some (.bool v.may) := hcc 3 _ rfl
        have AP := ACT.out j v hv
        have HD := Lib.hid (l13Heard v a0_2 c0_2 ah ch hd wr (by have := AP.1; omega) hhd OUT.out (rows_words f0_2) (HB.out _ (chainX w B2.out hw)))
        have EQV : lackB kk hd v = decide (((hrdV v.acting hd).length : Int) < kk) := by unfold lackB heaV; rw [if_pos ⟨AP, OUT.out⟩]
        have NX := Lib.hid (fun (q : lackB kk hd v = false) => (show ∀ (i : Nat) u, i < j + 1 → (needL l s)[i]? = some u → lackB kk hd u = false from fun i u hi hu => by
          by_cases e : i = j
          · subst e; rw [hv] at hu; rw [← Option.some.inj hu]; exact q
          · exact HR.out i u (by omega) hu))
        have NS := Lib.hid (NSS.out j v hv)
        rw [EQV] at NX NS
        clear hcc hr hv hw f0_2 AP EQV
        generalize hrdV v.acting hd = hs at *
        go_wp2_with fail
        refine HD.out.mono ?_
        rintro e w8 ⟨a8, c8, rfl, -, b8⟩
        have B8 := Lib.hid (chainX _ BH.out b8)
        clear b8
        cases q : decide ((hs.length : Int) < kk)
        · have G := Lib.hid (NX.out q)
          generalize hs.length = hl8 at *
          go_wp2
          go_roundw
          case rel => exact ⟨j + 1, by omega, by go_num, G.out, B8.out⟩
          case measure => simp [intOf]; omega
        · have G := Lib.hid (NS.out q)
          generalize hs.length = hl8 at *
          go_wp2
          go_ret
          exact IffB.no G.out (chainX w B2.out B8.out)
      · obtain rfl : j = z := by omega
        have G := Lib.hid (YSS.out HR.out)
        clear hw
        go_wp2
        go_ret
        exact IffB.yes G.out (chainX w B2.out BH.out)
set_option maxRecDepth 100000 in
set_option maxHeartbeats 4000000 in
theorem specHeardEnough (a : Option Addr) (cap : Nat) (l : List DInterval) (kk s : Int) (ah : Option Addr) (ch : Nat) (hd : List Int) (w : World) {fr fr2 : Bool} {lo lo2 : Nat} (hl : l.length ≤ 2097152) (hs : Rdb.sz l ≤ 2097152) (h : Rd.Rows fr lo w a l) (hh : hd.length ≤ 2097152) (hb : Rd.Rows fr2 lo2 w ah hd) :
    Calls Try.prog 51 #[.slice a l.length cap, .int .i64 kk, .int .i64 s, .slice ah hd.length ch] w (IffB (HeP l kk s hd) w) := by
  have IV := Lib.hid (l13Ok a cap l w hl hs h)
  have WI := fun w' => l00In kk 1 7 w'
  have NK := Lib.hid (fun w' (b : Below w.heap.size w w') => l13Nodes ah ch hd w' hh (rows_words (hb.below b)))
  have EN := Lib.hid (fun (hp : IvP l) (ho : OutP hd) w' (b : Below w.heap.size w w') => l13Enough a cap l kk s ah ch hd w' hl (h.below b) hp hh (hb.below b) ho)
  clear h hb hs
  generalize hd.length = m at *
  generalize l.length = n at *
  cases q7 : inB kk 1 7
  · rw [q7] at WI
    have WI := Lib.hid WI
    have NO7 := Lib.hid (show ¬ HeP l kk s hd from fun q => by have q1 := q.2.1; rw [q7] at q1; cases q1)
    clear q7
    go_enter Try.func51, Try.ntmps51
    go_wp2_with fail
    refine IV.out.mono ?_
    rintro e w1 ⟨r, rfl, hr, b1⟩
    have B1 := Lib.hid b1
    cases r
    · clear hr b1
      go_wp2
      go_ret
      exact IffB.no NO7.out B1.out
    · clear hr b1
      go_wp2_with fail
      refine (WI.out _).mono ?_
      rintro e w2 ⟨rfl, rfl⟩
      go_wp2
      go_ret
      exact IffB.no NO7.out B1.out
  · rw [q7] at WI
    have WI := Lib.hid WI
    have Q7 := Lib.hid q7
    clear q7
    go_enter Try.func51, Try.ntmps51
    go_wp2_with fail
    refine IV.out.mono ?_
    rintro e w1 ⟨r, rfl, hr, b1⟩
    have B1 := Lib.hid b1
    cases r
    · have G := Lib.hid (show ¬ HeP l kk s hd from fun q => by have := hr.2 q.1; cases this)
      clear hr b1
      go_wp2
      go_ret
      exact IffB.no G.out B1.out
    · have IVY := Lib.hid (hr.1 rfl)
      clear hr b1
      go_wp2_with fail
      refine (WI.out _).mono ?_
      rintro e w2 ⟨rfl, rfl⟩
      go_wp2_with fail
      refine (NK.out _ B1.out).mono ?_
      rintro e w3 ⟨r, rfl, hr, b3⟩
      have B3 := Lib.hid (chainX _ B1.out b3)
      cases r
      · have G := Lib.hid (show ¬ HeP l kk s hd from fun q => by have := hr.2 q.2.2.1; cases this)
        clear hr b3
        go_wp2
        go_ret
        exact IffB.no G.out B3.out
      · have OUT := Lib.hid (hr.1 rfl)
        clear hr b3
        go_wp2_with fail
        refine (EN.out IVY.out OUT.out _ B3.out).mono ?_
        rintro e w4 ⟨r, rfl, hr, b4⟩
        have G := Lib.hid (show IffB (HeP l kk s hd) w (.returned (.bool r)) w4 from ⟨r, rfl, hr.trans ⟨fun q => ⟨IVY.out, Q7.out, OUT.out, q⟩, fun q => q.2.2.2⟩, chainX w B3.out b4⟩)
        clear hr b4
        go_wp2
        go_ret
        exact G.out
end Go.Proofs.Ythimpcfodbmhkaa.Ac
