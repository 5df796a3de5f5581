/-
  Which intervals are needed, in the model.
-/
import Derived.Test.YthimpcfodbmhkaaNeedM
import Derived.Test.YthimpcfodbmhkaaIvS
import Derived.Test.YthimpcfodbmhkaaHrdS
import Derived.Test.YthimpcfodbmhkaaHrdI
import Derived.Test.YthimpcfodbmhkaaOwnV
namespace Go.Proofs.Ythimpcfodbmhkaa.Ac
open Go.RowKit Go.Proofs.Ythimpcfodbmhkaa.GfI Go.Proofs.Ythimpcfodbmhkaa.GfS Go.Proofs.Ythimpcfodbmhkaa.MixC
open Go.Proofs.Ythimpcfodbmhkaa.Gf2 (Ib wpList_append_int)
open Go.Proofs.Ythimpcfodbmhkaa.Rd (lay chain chainX RetW Rdb rows_words rows_wf GOne AnsI AnsR gone_of_own rows_of_words DInterval shape_Interval mk_Interval)
open Go.Proofs.Ythimpcfodbmhkaa.Rd (OwnV wpList_append_V wpList_append_Vb ElV undrewX)
open Go.Proofs.Ythimpcfodbmhkaa.Sg (BxN)
set_option linter.unusedVariables false
set_option linter.unusedSimpArgs false

def ElM (v : DInterval) (mb : Bool) (w : World) (e : Ending) (w' : World) : Prop := ∃ q c, e = .returned (.agg #[.int .i64 v.first, .int .i64 v.last, .slice (some ⟨q, 0, none⟩) v.acting.length c, .bool mb]) ∧ w.heap.size ≤ q ∧ q < w'.heap.size ∧ v.acting.length ≤ c ∧ Rd.Rows true w.heap.size w' (some ⟨q, 0, none⟩) v.acting ∧ Below w.heap.size w w'
set_option maxRecDepth 100000 in
set_option maxHeartbeats 2000000 in
theorem l00Own (a : Option Addr) (cap : Nat) (l : List Int) (w : World) (hl : l.length ≤ 1000000) (h : Words w a l) :
    Calls Try.prog 97 #[.slice a l.length cap] w (NodR l w) := by
  have LH := Lib.hid (lay w (.cells #[] 2))
  have J0 := Lib.hid (show Ib w.heap.size (w.alloc (.cells #[] 2)) (.slice (some ⟨w.heap.size, 0, none⟩) 0 0) [] from World.ownsRow_made _ #[] 0 (Nat.le_refl _) (by unfold maxLen; omega) (by simp))
  have WH := Lib.hid (h.below LH.out)
  clear h
  go_enter Try.func97, Try.ntmps97
  go_wp2_with (at_builtin; refine wpList_append_listT rfl (.tmp 3) (.tmp 4) 22 Try.underlying22 rfl w.heap.size _ [] l rfl J0.out a cap rfl WH.out (by simp; omega) (by rw [World.size_alloc]; omega) ?_; intro v' w3 J3 g3)
  have B3 := Lib.hid (LH.out.grown g3 (by rw [World.size_alloc]; omega) (fun c hc => by cases hc; exact Nat.le_refl _))
  rw [List.nil_append] at J3
  obtain ⟨a3, c3, rfl, hn⟩ := Ib.shape2 J3
  have G := Lib.hid (show NodR l w (.returned (.slice a3 l.length c3)) w3 from ⟨a3, c3, rfl, hn, J3, B3.out⟩)
  clear J3 g3
  generalize l.length = n at *
  go_wp2
  go_ret
  exact G.out
set_option maxRecDepth 100000 in
set_option maxHeartbeats 4000000 in
theorem l13Own (v : DInterval) (a0_2 : Option Addr) (c0_2 : Nat) (w : World) {fr : Bool} {lo : Nat} (h1 : 1 ≤ v.acting.length) (hl : v.acting.length ≤ 1000000) (h : Rd.Rows fr lo w a0_2 v.acting) :
    Calls Try.prog 64 #[.agg #[.int .i64 v.first, .int .i64 v.last, .slice a0_2 v.acting.length c0_2, .bool v.may]] w (ElR v w) := by
  have L1 := lay w (.cells #[.int .i64 v.first, .int .i64 v.last, .slice a0_2 v.acting.length c0_2, .bool v.may] 38)
  have L2 := chainX w L1 (lay (w.alloc (.cells #[.int .i64 v.first, .int .i64 v.last, .slice a0_2 v.acting.length c0_2, .bool v.may] 38)) (.cells #[.int .i64 0, .int .i64 0, .slice none 0 0, .bool false] 38))
  have XH := Lib.hid ((BxN.new w #[.int .i64 v.first, .int .i64 v.last, .slice a0_2 v.acting.length c0_2, .bool v.may] 38).later (lay (w.alloc (.cells #[.int .i64 v.first, .int .i64 v.last, .slice a0_2 v.acting.length c0_2, .bool v.may] 38)) (.cells #[.int .i64 0, .int .i64 0, .slice none 0 0, .bool false] 38)))
  have Y0 := BxN.new (w.alloc (.cells #[.int .i64 v.first, .int .i64 v.last, .slice a0_2 v.acting.length c0_2, .bool v.may] 38)) #[.int .i64 0, .int .i64 0, .slice none 0 0, .bool false] 38
  rw [World.size_alloc] at Y0
  have YH := Lib.hid Y0
  have wf := rows_wf h
  have OW := Lib.hid (l00Own a0_2 c0_2 v.acting ((w.alloc (.cells #[.int .i64 v.first, .int .i64 v.last, .slice a0_2 v.acting.length c0_2, .bool v.may] 38)).alloc (.cells #[.int .i64 0, .int .i64 0, .slice none 0 0, .bool false] 38)) hl (rows_words (h.below L2)))
  have x2 := XH.out.cells 2 _ rfl
  have LH := Lib.hid L2
  clear L1 L2 Y0 h
  go_enter Try.func64, Try.ntmps64
  go_wp2_with fail
  refine OW.out.mono ?_
  intro e w4 NR
  obtain ⟨av, cvv, rfl, hn4, J4, b4⟩ := NR
  obtain ⟨q, c, e4, hq1, hq2, hq3, R4, b4⟩ := el_of h1 wf (⟨av, cvv, rfl, hn4, J4, b4⟩ : NodR v.acting _ (.returned (.slice av v.acting.length cvv)) w4)
  obtain ⟨rfl, rfl⟩ : av = some ⟨q, 0, none⟩ ∧ cvv = c := by simpa using e4
  have hq1' : w.heap.size + 1 + 1 ≤ q := by simpa using hq1
  have X4 := XH.out.later b4
  have Y4 := YH.out.later b4
  have P4 := X4.put 2 (by simp) (.slice (some ⟨q, 0, none⟩) v.acting.length cvv)
  have Z4 := Y4.far (p := ⟨w.heap.size, 2, none⟩) (by show w.heap.size ≠ w.heap.size + 1; omega) (.slice (some ⟨q, 0, none⟩) v.acting.length cvv)
  have x2_ := X4.cells 2 _ rfl
  have xf2 := X4.free 2
  have p0 := P4.cells 0 _ rfl
  have p1 := P4.cells 1 _ rfl
  have p2 := P4.cells 2 _ rfl
  have p3 := P4.cells 3 _ rfl
  have z0 := Z4.cells 0 _ rfl
  have z1 := Z4.cells 1 _ rfl
  have z2 := Z4.cells 2 _ rfl
  have z3 := Z4.cells 3 _ rfl
  have zf0 := Z4.free 0
  have zf1 := Z4.free 1
  have zf2 := Z4.free 2
  have zf3 := Z4.free 3
  have BW := chainX w LH.out b4
  have R4' := R4.weak (lo' := w.heap.size + 1 + 1) (by simp) (id : true = true → true = true)
  have F : ElR v w (.returned (.agg #[.int .i64 v.first, .int .i64 v.last, .slice (some ⟨q, 0, none⟩) v.acting.length cvv, .bool v.may])) (((((w4.setCell ⟨w.heap.size, 2, none⟩ (.slice (some ⟨q, 0, none⟩) v.acting.length cvv)).setCell ⟨w.heap.size + 1, 0, none⟩ (.int .i64 v.first)).setCell ⟨w.heap.size + 1, 1, none⟩ (.int .i64 v.last)).setCell ⟨w.heap.size + 1, 2, none⟩ (.slice (some ⟨q, 0, none⟩) v.acting.length cvv)).setCell ⟨w.heap.size + 1, 3, none⟩ (.bool v.may)) := by
    refine ⟨q, cvv, rfl, by omega, by simpa using hq2, hq3, ?_, ?_⟩
    · have r0 := Rd.Rows.far (p := ⟨w.heap.size, 2, none⟩) (v := .slice (some ⟨q, 0, none⟩) v.acting.length cvv) R4' (by show w.heap.size < _; omega)
      have r1 := Rd.Rows.far (p := ⟨w.heap.size + 1, 0, none⟩) (v := .int .i64 v.first) r0 (by show w.heap.size + 1 < _; omega)
      have r2 := Rd.Rows.far (p := ⟨w.heap.size + 1, 1, none⟩) (v := .int .i64 v.last) r1 (by show w.heap.size + 1 < _; omega)
      have r3 := Rd.Rows.far (p := ⟨w.heap.size + 1, 2, none⟩) (v := .slice (some ⟨q, 0, none⟩) v.acting.length cvv) r2 (by show w.heap.size + 1 < _; omega)
      have r4 := Rd.Rows.far (p := ⟨w.heap.size + 1, 3, none⟩) (v := .bool v.may) r3 (by show w.heap.size + 1 < _; omega)
      exact r4.weak (by omega) id
    · exact ((((BW.setCell (p := ⟨w.heap.size, 2, none⟩) (Nat.le_refl _) _).setCell (p := ⟨w.heap.size + 1, 0, none⟩) (by show _ ≤ w.heap.size + 1; omega) _).setCell (p := ⟨w.heap.size + 1, 1, none⟩) (by show _ ≤ w.heap.size + 1; omega) _).setCell (p := ⟨w.heap.size + 1, 2, none⟩) (by show _ ≤ w.heap.size + 1; omega) _).setCell (p := ⟨w.heap.size + 1, 3, none⟩) (by show _ ≤ w.heap.size + 1; omega) _
  have F := Lib.hid F
  clear XH YH X4 Y4 P4 Z4 BW R4 R4' b4 hq1 hq2 J4 hn4 e4
  go_wp2
  exact bodyPost_ret (v := .agg #[.int .i64 v.first, .int .i64 v.last, .slice (some ⟨q, 0, none⟩) v.acting.length cvv, .bool v.may]) (by simp [results, Try.results64, go_sem, *]) rfl F.out
theorem l13OwnM (v : DInterval) (mb : Bool) (hm : mb = v.may) (a0_2 : Option Addr) (c0_2 : Nat) (w : World) {fr : Bool} {lo : Nat} (h1 : 1 ≤ v.acting.length) (hl : v.acting.length ≤ 1000000) (h : Rd.Rows fr lo w a0_2 v.acting) :
    Calls Try.prog 64 #[.agg #[.int .i64 v.first, .int .i64 v.last, .slice a0_2 v.acting.length c0_2, .bool mb]] w (ElM v mb w) := by
  subst hm; exact l13Own v a0_2 c0_2 w h1 hl h
set_option maxRecDepth 100000 in
set_option maxHeartbeats 4000000 in
theorem l13Need (a : Option Addr) (cap : Nat) (l : List DInterval) (s : Int) (w : World) {fr : Bool} {lo : Nat} (h : Rd.Rows fr lo w a l) (hp : IvP l) :
    Calls Try.prog 72 #[.slice a l.length cap, .int .i64 s] w (fun e w' => ∃ v, e = .returned v ∧ OwnV w.heap.size w' v (needL l s) ∧ Below w.heap.size w w') := by
  have RH := Lib.hid h
  have GET := Lib.hid (fun k (h : k < l.length) => Rd.get_lt h)
  have hl6 := hp.len
  have IV := Lib.hid (fun k v (hk : k < l.length) (hv : l[k]? = some v) => (hp k v hk hv).2.2.1)
  have FLn := Lib.hid (fun k => filter_len l (needB s) k)
  have ALL := Lib.hid (show (l.take l.length).filter (needB s) = needL l s by rw [List.take_length]; rfl)
  have V0 := Lib.hid (OwnV.made (B := w.heap.size) (w := w) (Nat.le_refl _))
  have LH := Lib.hid (lay w (.cells #[] 38))
  obtain ⟨n, hn⟩ : ∃ n, l.length = n := ⟨_, rfl⟩
  have HN := Lib.hid hn
  rw [hn] at hl6 GET IV ALL ⊢
  clear h hn hp
  go_enter Try.func72, Try.ntmps72
  go_wp2
  go_loopw [5, 6] (fun u i wr => ∃ k : Nat, k ≤ n ∧ i = .int .i64 k ∧ OwnV w.heap.size wr u ((l.take k).filter (needB s)) ∧ Below w.heap.size w wr) (fun _ i _ => n - (intOf i).toNat)
  case atStart => exact ⟨0, by omega, rfl, V0.out, LH.out⟩
  case round =>
    clear V0 LH
    obtain ⟨k, hk, rfl, J, hw⟩ := hrel
    have BH := Lib.hid hw
    have JH := Lib.hid J
    have LE := hw.size
    clear J
    by_cases hlt : k < n
    · obtain ⟨v, hv⟩ := GET.out k hlt
      obtain ⟨b, off, cs, rfl, -, hB, hr, hcc⟩ := (RH.out.below hw).at' hv
      obtain ⟨a0_2, c0_2, rfl, f0_0, f0_1, f0_2, g0_2⟩ := shape_Interval hr
      have c0 : wr.cell? ⟨b, off + k * 4, none⟩ = some (.int .i64 v.first) := hcc 0 _ rfl
      have c1 : wr.cell? ⟨b, off + k * 4 + 1, none⟩ = some (.int .i64 v.last) := hcc 1 _ rfl
      have c2 : wr.cell? ⟨b, off + k * 4 + 2, none⟩ = some (.slice a0_2 v.acting.length c0_2) := hcc 2 _ rfl
      have c3 : wr.cell? ⟨b, off + k * 4 + 3, none⟩ = some (.bool v.may) := hcc 3 _ rfl
      have AP := IV.out k v hlt hv
      have SN := filter_snoc (needB s) hv
      have OWM := Lib.hid (fun (mb : Bool) (hm : mb = v.may) => l13OwnM v mb hm a0_2 c0_2 wr AP.1.1 (by have := AP.1; omega) f0_2)
      have FK := FLn.out k
      have A7 := AP.1.2
      have NEED : needB s v = (v.first == s || (v.may && decide (s ≤ v.first))) := rfl
      clear hcc hr hv hw f0_2 AP
      cases q1 : (v.first == s)
      · rw [q1, Bool.false_or] at NEED
        cases q2 : v.may
        · rw [q2, Bool.false_and] at NEED
          rw [q2] at c3
          rw [NEED, if_neg (by simp), List.append_nil] at SN
          have G := Lib.hid (show OwnV w.heap.size wr u5 ((l.take (k + 1)).filter (needB s)) from by rw [SN]; exact JH.out)
          clear NEED SN OWM
          go_wp2
          go_roundw
          case rel => exact ⟨k + 1, by omega, by go_num, G.out, BH.out⟩
          case measure => simp [intOf]; omega
        · rw [q2, Bool.true_and] at NEED
          cases q3 : decide (s ≤ v.first)
          · rw [q3] at NEED
            have c3' := c3
            rw [q2] at c3'
            rw [NEED, if_neg (by simp), List.append_nil] at SN
            have G := Lib.hid (show OwnV w.heap.size wr u5 ((l.take (k + 1)).filter (needB s)) from by rw [SN]; exact JH.out)
            clear NEED SN OWM
            go_wp2
            go_roundw
            case rel => exact ⟨k + 1, by omega, by go_num, G.out, BH.out⟩
            case measure => simp [intOf]; omega
          · rw [q3] at NEED
            have c3' := c3
            rw [q2] at c3'
            rw [NEED, if_pos rfl] at SN
            have SN := Lib.hid SN
            have OW := Lib.hid (OWM.out true q2.symm)
            have HMB := Lib.hid (show true = v.may from q2.symm)
            clear NEED OWM
            go_wp2_with fail
            refine OW.out.mono ?_
            rintro e w4 ⟨q, c, rfl, hq1, hq2, hq3, R4, b4⟩
            have R5 := Lib.hid (R4.weak (lo' := w.heap.size) LE id)
            have B4 := Lib.hid b4
            have Q1 := Lib.hid hq1
            have Q2 := Lib.hid hq2
            clear R4 b4 hq1 hq2
            go_wp2_with (at_builtin; refine wpList_append_Vb rfl (.tmp 37) (.tmp 43) rfl w.heap.size _ ((l.take k).filter (needB s)) v true HMB.out q c rfl JH.out B4.out Q1.out Q2.out hq3 (by omega) f0_0 f0_1 R5.out rfl (by omega) LE ?_; intro v' w5 V5 g5)
            have V6 := Lib.hid (show OwnV w.heap.size w5 v' ((l.take (k + 1)).filter (needB s)) from by rw [SN.out]; exact V5)
            have B6 := Lib.hid ((BH.out.trans (B4.out.mono LE)).trans g5)
            clear V5 g5
            go_roundw
            case rel => exact ⟨k + 1, by omega, by go_num, V6.out, B6.out⟩
            case measure => simp [intOf]; omega
      · rw [q1, Bool.true_or] at NEED
        have e1 : v.first = s := by simpa using q1
        clear q1
        subst e1
        rw [NEED, if_pos rfl] at SN
        have SN := Lib.hid SN
        have OW := Lib.hid (OWM.out v.may rfl)
        have HMB := Lib.hid (show v.may = v.may from rfl)
        clear NEED OWM
        go_wp2_with fail
        refine OW.out.mono ?_
        rintro e w4 ⟨q, c, rfl, hq1, hq2, hq3, R4, b4⟩
        have R5 := Lib.hid (R4.weak (lo' := w.heap.size) LE id)
        have B4 := Lib.hid b4
        have Q1 := Lib.hid hq1
        have Q2 := Lib.hid hq2
        clear R4 b4 hq1 hq2
        go_wp2_with (at_builtin; refine wpList_append_Vb rfl (.tmp 37) (.tmp 43) rfl w.heap.size _ ((l.take k).filter (needB v.first)) v v.may rfl q c rfl JH.out B4.out Q1.out Q2.out hq3 (by omega) f0_0 f0_1 R5.out rfl (by omega) LE ?_; intro v' w5 V5 g5)
        have V6 := Lib.hid (show OwnV w.heap.size w5 v' ((l.take (k + 1)).filter (needB v.first)) from by rw [SN.out]; exact V5)
        have B6 := Lib.hid ((BH.out.trans (B4.out.mono LE)).trans g5)
        clear V5 g5
        go_roundw
        case rel => exact ⟨k + 1, by omega, by go_num, V6.out, B6.out⟩
        case measure => simp [intOf]; omega
    · obtain rfl : k = n := by omega
      rw [ALL.out] at JH
      have G := Lib.hid (fun u' (e : u' = u5) => (show ∃ v, (Ending.returned u5) = .returned v ∧ OwnV w.heap.size wr v (needL l s) ∧ Below w.heap.size w wr from ⟨_, rfl, JH.out, BH.out⟩))
      clear hw
      go_wp2
      go_ret
      exact G.out _ rfl
end Go.Proofs.Ythimpcfodbmhkaa.Ac
