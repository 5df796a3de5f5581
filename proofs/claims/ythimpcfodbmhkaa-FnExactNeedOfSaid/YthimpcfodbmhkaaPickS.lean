/-
  NeedOf and AheadOf in the model.
-/
import Derived.Test.YthimpcfodbmhkaaPickI
import Derived.Test.YthimpcfodbmhkaaNeedS
namespace Go.Proofs.Ythimpcfodbmhkaa.Ac
open Go.RowKit Go.Proofs.Ythimpcfodbmhkaa.GfI Go.Proofs.Ythimpcfodbmhkaa.GfS Go.Proofs.Ythimpcfodbmhkaa.MixC
open Go.Proofs.Ythimpcfodbmhkaa.Gf2 (Ib wpList_append_int)
open Go.Proofs.Ythimpcfodbmhkaa.Rd (lay chain chainX RetW Rdb rows_words rows_wf GOne AnsI AnsR gone_of_own rows_of_words DInterval shape_Interval mk_Interval)
open Go.Proofs.Ythimpcfodbmhkaa.Rd (OwnV wpList_append_V wpList_append_Vb ElV undrewX AnsV)
open Go.Proofs.Ythimpcfodbmhkaa.Sg (BxN)
set_option linter.unusedVariables false
set_option linter.unusedSimpArgs false

set_option maxRecDepth 100000 in
set_option maxHeartbeats 4000000 in
theorem l13Ahead (a : Option Addr) (cap : Nat) (l : List DInterval) (s : Int) (w : World) {fr : Bool} {lo : Nat} (h : Rd.Rows fr lo w a l) (hp : IvP l) :
    Calls Try.prog 68 #[.slice a l.length cap, .int .i64 s] w (fun e w' => ∃ v, e = .returned v ∧ OwnV w.heap.size w' v (l.filter (ahB s)) ∧ Below w.heap.size w w') := by
  have RH := Lib.hid h
  have GET := Lib.hid (fun k (h : k < l.length) => Rd.get_lt h)
  have hl6 := hp.len
  have IV := Lib.hid (fun k v (hk : k < l.length) (hv : l[k]? = some v) => (hp k v hk hv).2.2.1)
  have FLn := Lib.hid (fun k => filter_len l (ahB s) k)
  have ALL := Lib.hid (show (l.take l.length).filter (ahB s) = l.filter (ahB s) by rw [List.take_length])
  have V0 := Lib.hid (OwnV.made (B := w.heap.size) (w := w) (Nat.le_refl _))
  have LH := Lib.hid (lay w (.cells #[] 38))
  obtain ⟨n, hn⟩ : ∃ n, l.length = n := ⟨_, rfl⟩
  have HN := Lib.hid hn
  rw [hn] at hl6 GET IV ALL ⊢
  clear h hn hp
  go_enter Try.func68, Try.ntmps68
  go_wp2
  go_loopw [5, 6] (fun u i wr => ∃ k : Nat, k ≤ n ∧ i = .int .i64 k ∧ OwnV w.heap.size wr u ((l.take k).filter (ahB s)) ∧ Below w.heap.size w wr) (fun _ i _ => n - (intOf i).toNat)
  case atStart => exact ⟨0, by omega, rfl, V0.out, LH.out⟩
  case round =>
    clear V0 LH
    obtain ⟨k, hk, rfl, J, hw⟩ := hrel
    have BH := Lib.hid hw
    have JH := Lib.hid J
    have LE := hw.size
    clear J
    by_cases hlt : k < n
    · obtain ⟨v, hv⟩ := GET.out k hlt
      obtain ⟨b, off, cs, rfl, -, hB, hr, hcc⟩ := (RH.out.below hw).at' hv
      obtain ⟨a0_2, c0_2, rfl, f0_0, f0_1, f0_2, g0_2⟩ := shape_Interval hr
      have c0 : wr.cell? ⟨b, off + k * 4, none⟩ = some (.int .i64 v.first) := hcc 0 _ rfl
      have c1 : wr.cell? ⟨b, off + k * 4 + 1, none⟩ = some (.int .i64 v.last) := hcc 1 _ rfl
      have c2 : wr.cell? ⟨b, off + k * 4 + 2, none⟩ = some (.slice a0_2 v.acting.length c0_2) := hcc 2 _ rfl
      have c3 : wr.cell? ⟨b, off + k * 4 + 3, none⟩ = some (.bool v.may) := hcc 3 _ rfl
      have AP := IV.out k v hlt hv
      have SN := filter_snoc (ahB s) hv
      have OWM := Lib.hid (fun (mb : Bool) (hm : mb = v.may) => l13OwnM v mb hm a0_2 c0_2 wr AP.1.1 (by have := AP.1; omega) f0_2)
      have FK := FLn.out k
      have A7 := AP.1.2
      clear hcc hr hv hw f0_2 AP
      by_cases q1 : v.first < s
      · have d1 : decide (v.first < s) = true := decide_eq_true q1
        rw [show ahB s v = true from d1, if_pos rfl] at SN
        clear q1
        have SN := Lib.hid SN
        have OW := Lib.hid (OWM.out v.may rfl)
        clear OWM
        go_wp2_with fail
        refine OW.out.mono ?_
        rintro e w4 ⟨q, c, rfl, hq1, hq2, hq3, R4, b4⟩
        have R5 := Lib.hid (R4.weak (lo' := w.heap.size) LE id)
        have B4 := Lib.hid b4
        have Q1 := Lib.hid hq1
        have Q2 := Lib.hid hq2
        clear R4 b4 hq1 hq2
        go_wp2_with (at_builtin; refine wpList_append_V rfl (.tmp 21) (.tmp 27) rfl w.heap.size _ ((l.take k).filter (ahB s)) v q c rfl JH.out B4.out Q1.out Q2.out hq3 (by omega) f0_0 f0_1 R5.out rfl (by omega) LE ?_; intro v' w5 V5 g5)
        have V6 := Lib.hid (show OwnV w.heap.size w5 v' ((l.take (k + 1)).filter (ahB s)) from by rw [SN.out]; exact V5)
        have B6 := Lib.hid ((BH.out.trans (B4.out.mono LE)).trans g5)
        clear V5 g5
        go_roundw
        case rel => exact ⟨k + 1, by omega, by go_num, V6.out, B6.out⟩
        case measure => simp [intOf]; omega
      · have d1 : decide (v.first < s) = false := decide_eq_false q1
        rw [show ahB s v = false from d1, if_neg (by simp), List.append_nil] at SN
        clear q1
        have G := Lib.hid (show OwnV w.heap.size wr u5 ((l.take (k + 1)).filter (ahB s)) from by rw [SN]; exact JH.out)
        clear SN OWM
        go_wp2
        go_roundw
        case rel => exact ⟨k + 1, by omega, by go_num, G.out, BH.out⟩
        case measure => simp [intOf]; omega
    · obtain rfl : k = n := by omega
      rw [ALL.out] at JH
      have G := Lib.hid (fun u' (e : u' = u5) => (show ∃ v, (Ending.returned u5) = .returned v ∧ OwnV w.heap.size wr v (l.filter (ahB s)) ∧ Below w.heap.size w wr from ⟨_, rfl, JH.out, BH.out⟩))
      clear hw
      go_wp2
      go_ret
      exact G.out _ rfl
set_option maxRecDepth 100000 in
set_option maxHeartbeats 2000000 in
theorem specNeedOf (a : Option Addr) (cap : Nat) (l r : List DInterval) (s : Int) (w : World) {fr : Bool} {lo : Nat} (hl : l.length ≤ 2097152) (hs : Rdb.sz l ≤ 2097152) (h : Rd.Rows fr lo w a l) (hr : PickR (needB s) l r) :
    Calls Try.prog 45 #[.slice a l.length cap, .int .i64 s] w (AnsV r w) := by
  have OK := Lib.hid (l13Ok a cap l w hl hs h)
  rcases hr with ⟨hp, rfl⟩ | ⟨hp, rfl⟩
  · have OK := Lib.hid (OK.out.mono fun e w' q => (show e = .returned (.bool true) ∧ Below w.heap.size w w' from by obtain ⟨r, e1, hr, b⟩ := q; rw [hr.2 hp] at e1; exact ⟨e1, b⟩))
    have CT := Lib.hid (fun w' (b : Below w.heap.size w w') => l13Need a cap l s w' (h.below b) hp)
    clear h hs
    generalize l.length = n at *
    go_enter Try.func45, Try.ntmps45
    go_wp2_with fail
    refine OK.out.mono ?_
    rintro e w1 ⟨rfl, b1⟩
    have B1 := Lib.hid b1
    clear b1
    go_wp2_with fail
    refine (CT.out _ B1.out).mono ?_
    rintro e w2 ⟨v, rfl, V2, b2⟩
    have G := Lib.hid (Rd.ansV_of (l := l.filter (needB s)) (w := w) (e := .returned v) ⟨v, rfl, V2.mono B1.out.size, chainX w B1.out b2⟩)
    clear V2 b2
    go_wp2
    go_ret
    exact G.out
  · have OK := Lib.hid (OK.out.mono fun e w' q => (show e = .returned (.bool false) ∧ Below w.heap.size w w' from by obtain ⟨r, e1, hr, b⟩ := q; cases r; exact ⟨e1, b⟩; exact absurd (hr.1 rfl) hp))
    clear h hs hp
    generalize l.length = n at *
    go_enter Try.func45, Try.ntmps45
    go_wp2_with fail
    refine OK.out.mono ?_
    rintro e w1 ⟨rfl, b1⟩
    have G := Lib.hid (ansV_made b1)
    clear b1
    go_wp2
    go_ret
    exact G.out
set_option maxRecDepth 100000 in
set_option maxHeartbeats 2000000 in
theorem specAheadOf (a : Option Addr) (cap : Nat) (l r : List DInterval) (s : Int) (w : World) {fr : Bool} {lo : Nat} (hl : l.length ≤ 2097152) (hs : Rdb.sz l ≤ 2097152) (h : Rd.Rows fr lo w a l) (hr : PickR (ahB s) l r) :
    Calls Try.prog 40 #[.slice a l.length cap, .int .i64 s] w (AnsV r w) := by
  have OK := Lib.hid (l13Ok a cap l w hl hs h)
  rcases hr with ⟨hp, rfl⟩ | ⟨hp, rfl⟩
  · have OK := Lib.hid (OK.out.mono fun e w' q => (show e = .returned (.bool true) ∧ Below w.heap.size w w' from by obtain ⟨r, e1, hr, b⟩ := q; rw [hr.2 hp] at e1; exact ⟨e1, b⟩))
    have CT := Lib.hid (fun w' (b : Below w.heap.size w w') => l13Ahead a cap l s w' (h.below b) hp)
    clear h hs
    generalize l.length = n at *
    go_enter Try.func40, Try.ntmps40
    go_wp2_with fail
    refine OK.out.mono ?_
    rintro e w1 ⟨rfl, b1⟩
    have B1 := Lib.hid b1
    clear b1
    go_wp2_with fail
    refine (CT.out _ B1.out).mono ?_
    rintro e w2 ⟨v, rfl, V2, b2⟩
    have G := Lib.hid (Rd.ansV_of (l := l.filter (ahB s)) (w := w) (e := .returned v) ⟨v, rfl, V2.mono B1.out.size, chainX w B1.out b2⟩)
    clear V2 b2
    go_wp2
    go_ret
    exact G.out
  · have OK := Lib.hid (OK.out.mono fun e w' q => (show e = .returned (.bool false) ∧ Below w.heap.size w w' from by obtain ⟨r, e1, hr, b⟩ := q; cases r; exact ⟨e1, b⟩; exact absurd (hr.1 rfl) hp))
    clear h hs hp
    generalize l.length = n at *
    go_enter Try.func40, Try.ntmps40
    go_wp2_with fail
    refine OK.out.mono ?_
    rintro e w1 ⟨rfl, b1⟩
    have G := Lib.hid (ansV_made b1)
    clear b1
    go_wp2
    go_ret
    exact G.out
end Go.Proofs.Ythimpcfodbmhkaa.Ac
