/-
  Which intervals are needed: the closures, thoseOf; the program.
-/
import Derived.Test.YthimpcfodbmhkaaNeedM
import Derived.Test.YthimpcfodbmhkaaIvI
import Derived.Test.YthimpcfodbmhkaaHrdJ
import Derived.Test.YthimpcfodbmhkaaOwnV
import Derived.Deep.RegionHeld3
namespace Go.Proofs.Ythimpcfodbmhkaa.Ac
open Go.RowKit Go.Proofs.Ythimpcfodbmhkaa.GfI Go.Proofs.Ythimpcfodbmhkaa.GfS Go.Proofs.Ythimpcfodbmhkaa.MixC
open Go.Proofs.Ythimpcfodbmhkaa.Gf2 (Ib wpList_append_int)
open Go.Proofs.Ythimpcfodbmhkaa.Rd (lay chain chainX RetW Rdb rows_words rows_wf GOne AnsI AnsR gone_of_own rows_of_words DInterval shape_Interval mk_Interval)
open Go.Proofs.Ythimpcfodbmhkaa.Rd (OwnV wpList_append_V wpList_append_Vb ElV undrewX)
open Go.Proofs.Ythimpcfodbmhkaa.Sg (BxN)
set_option linter.unusedVariables false
set_option linter.unusedSimpArgs false

set_option maxRecDepth 100000 in
set_option maxHeartbeats 2000000 in
theorem cloneI (a : Option Addr) (cap : Nat) (l : List Int) (w : World) (hl : l.length ≤ 1000000) (h : Words w a l) :
    Calls Try.prog 98 #[.slice a l.length cap] w (NodR l w) := by
  have q22 : ∀ (w : World) (a : Option Addr) (n c n' c' : Nat), (binOp .eql 22 (.slice a n c) (.slice none n' c')).run Try.prog w = .ok (.bool a.isNone) w := fun w a n c n' c' => Lib.run_eql_slice_nil w _ _ a n c n' c' Try.underlying22
  cases a with
  | none =>
    have e : l = [] := by rcases h with h | ⟨b, off, e, _⟩; exact h; cases e
    subst e
    have G := Lib.hid (show NodR [] w (.returned (.slice none 0 0)) w from ⟨none, 0, rfl, fun _ => rfl, World.ownsRow_nil _ _ _ _, Below.refl _ _⟩)
    clear h
    go_enter Try.func98, Try.ntmps98
    go_wp2
    go_ret
    exact G.out
  | some ad =>
    have LH := Lib.hid (lay w (.cells #[] 2))
    have J0 := Lib.hid (show Ib w.heap.size (w.alloc (.cells #[] 2)) (.slice (some ⟨w.heap.size, 0, none⟩) 0 0) [] from World.ownsRow_made _ #[] 0 (Nat.le_refl _) (by unfold maxLen; omega) (by simp))
    have WH := Lib.hid (h.below LH.out)
    clear h
    go_enter Try.func98, Try.ntmps98
    go_wp2_with (at_builtin; refine wpList_append_listT rfl (.tmp 5) (.tmp 6) 22 Try.underlying22 rfl w.heap.size _ [] l rfl J0.out (some ad) cap rfl WH.out (by simp; omega) (by rw [World.size_alloc]; omega) ?_; intro v' w3 J3 g3)
    have B3 := Lib.hid (LH.out.grown g3 (by rw [World.size_alloc]; omega) (fun c hc => by cases hc; exact Nat.le_refl _))
    rw [List.nil_append] at J3
    obtain ⟨a3, c3, rfl, hn⟩ := Ib.shape2 J3
    have G := Lib.hid (show NodR l w (.returned (.slice a3 l.length c3)) w3 from ⟨a3, c3, rfl, hn, J3, B3.out⟩)
    clear J3 g3
    generalize l.length = n at *
    go_wp2
    go_ret
    exact G.out
set_option maxRecDepth 100000 in
set_option maxHeartbeats 2000000 in
theorem startFn (v : DInterval) (a0_2 : Option Addr) (c0_2 : Nat) (bE : Nat) (s : Int) (w : World) (hlt : bE < w.heap.size) (hE : w.cell? ⟨bE, 0, none⟩ = some (.int .i64 s)) :
    Calls Try.prog 99 #[.agg #[.int .i64 v.first, .int .i64 v.last, .slice a0_2 v.acting.length c0_2, .bool v.may], .pointer (some ⟨bE, 0, none⟩)] w (RetW (.bool (stB s v)) w) := by
  have LY := lay w (.cells #[.int .i64 v.first, .int .i64 v.last, .slice a0_2 v.acting.length c0_2, .bool v.may] 38)
  have YN := BxN.new w #[.int .i64 v.first, .int .i64 v.last, .slice a0_2 v.acting.length c0_2, .bool v.may] 38
  have y0 := YN.cells 0 _ rfl
  have cE := (LY.cell (p := ⟨bE, 0, none⟩) hlt).trans hE
  have LH := Lib.hid LY
  unfold stB
  clear YN LY hE
  generalize v.first = x at *
  generalize hb : (x == s) = b at *
  have hb := Lib.hid hb
  clear hlt
  go_enter Try.func99, Try.ntmps99
  go_wp2
  go_ret
  rw [← hb.out]
  exact ⟨rfl, LH.out⟩
set_option maxRecDepth 100000 in
set_option maxHeartbeats 2000000 in
theorem startsAt (s : Int) (w : World) :
    Calls Try.prog 73 #[.int .i64 s] w (fun e w' => e = .returned (.func (.func 99) #[] #[.pointer (some ⟨w.heap.size, 0, none⟩)]) ∧ w' = w.alloc (.cells #[.int .i64 s] 2)) := by
  go_enter Try.func73, Try.ntmps73
  go_wp2
  go_ret
  exact ⟨rfl, rfl⟩
set_option maxRecDepth 100000 in
set_option maxHeartbeats 4000000 in
theorem needFn (v : DInterval) (a0_2 : Option Addr) (c0_2 : Nat) (bF bS bE : Nat) (s : Int) (w : World) (lF : bF < w.heap.size) (lS : bS < w.heap.size) (lE : bE < w.heap.size) (hF : w.cell? ⟨bF, 0, none⟩ = some (.func (.func 99) #[] #[.pointer (some ⟨bE, 0, none⟩)])) (hS : w.cell? ⟨bS, 0, none⟩ = some (.int .i64 s)) (hE : w.cell? ⟨bE, 0, none⟩ = some (.int .i64 s)) :
    Calls Try.prog 74 #[.agg #[.int .i64 v.first, .int .i64 v.last, .slice a0_2 v.acting.length c0_2, .bool v.may], .pointer (some ⟨bF, 0, none⟩), .pointer (some ⟨bS, 0, none⟩)] w (RetW (.bool (needB s v)) w) := by
  have LY := lay w (.cells #[.int .i64 v.first, .int .i64 v.last, .slice a0_2 v.acting.length c0_2, .bool v.may] 38)
  have YN := BxN.new w #[.int .i64 v.first, .int .i64 v.last, .slice a0_2 v.acting.length c0_2, .bool v.may] 38
  have y0 := YN.cells 0 _ rfl
  have y1 := YN.cells 1 _ rfl
  have y2 := YN.cells 2 _ rfl
  have y3 := YN.cells 3 _ rfl
  have cF := (LY.cell (p := ⟨bF, 0, none⟩) lF).trans hF
  have C := startFn v a0_2 c0_2 bE s (w.alloc (.cells #[.int .i64 v.first, .int .i64 v.last, .slice a0_2 v.acting.length c0_2, .bool v.may] 38)) (Nat.lt_of_lt_of_le lE LY.size) ((LY.cell (p := ⟨bE, 0, none⟩) lE).trans hE)
  have CS := Lib.hid (fun w' (b : Below (w.alloc (.cells #[.int .i64 v.first, .int .i64 v.last, .slice a0_2 v.acting.length c0_2, .bool v.may] 38)).heap.size (w.alloc (.cells #[.int .i64 v.first, .int .i64 v.last, .slice a0_2 v.acting.length c0_2, .bool v.may] 38)) w') => (b.cell (p := ⟨bS, 0, none⟩) (Nat.lt_of_lt_of_le lS LY.size)).trans ((LY.cell (p := ⟨bS, 0, none⟩) lS).trans hS))
  have YH := Lib.hid YN
  have LH := Lib.hid LY
  unfold needB
  unfold stB at C
  clear YN LY hF hS hE lF lS lE
  cases q1 : (v.first == s)
  · rw [q1] at C
    have C := Lib.hid C
    rw [Bool.false_or]
    clear q1
    generalize v.may = m at *
    cases m
    · rw [Bool.false_and]
      go_enter Try.func74, Try.ntmps74
      go_wp2_with fail
      refine C.out.mono ?_
      rintro e w1 ⟨rfl, b1⟩
      have B1 := Lib.hid (chainX w LH.out b1)
      have z3 := (YH.out.later b1).cells 3 _ rfl
      clear b1
      go_wp2
      go_ret
      exact ⟨rfl, B1.out⟩
    · rw [Bool.true_and]
      generalize hq : decide (s ≤ v.first) = d at *
      have hq := Lib.hid hq
      go_enter Try.func74, Try.ntmps74
      go_wp2_with fail
      refine C.out.mono ?_
      rintro e w1 ⟨rfl, b1⟩
      have B1 := Lib.hid (chainX w LH.out b1)
      have z3 := (YH.out.later b1).cells 3 _ rfl
      have z0 := (YH.out.later b1).cells 0 _ rfl
      have zS := CS.out w1 b1
      clear b1
      go_wp2
      go_ret
      rw [← hq.out]
      exact ⟨rfl, B1.out⟩
  · rw [q1] at C
    have C := Lib.hid C
    rw [Bool.true_or]
    clear q1
    go_enter Try.func74, Try.ntmps74
    go_wp2_with fail
    refine C.out.mono ?_
    rintro e w1 ⟨rfl, b1⟩
    have B1 := Lib.hid (chainX w LH.out b1)
    clear b1
    go_wp2
    go_ret
    exact ⟨rfl, B1.out⟩
set_option maxRecDepth 100000 in
set_option maxHeartbeats 4000000 in
theorem thoseOf (g : Nat) (lb : Array Value) (eg : ∀ args w, (callFunc g args).run Try.prog w = .ok (.enter g args) w) (p : DInterval → Bool) (a : Option Addr) (cap : Nat) (l : List DInterval) (w : World) {fr : Bool} {lo : Nat} (hl : l.length ≤ 2097152) (hs : Rdb.sz l ≤ 2097152) (h : Rd.Rows fr lo w a l) (hp : IvP l)
    (PK : ∀ (v : DInterval) (a0_2 : Option Addr) (c0_2 : Nat) (w' : World), v ∈ l → v.acting.length ≤ c0_2 → Rd.Rows false 0 w' a0_2 v.acting → Below w.heap.size w w' → Calls Try.prog g (#[.agg #[.int .i64 v.first, .int .i64 v.last, .slice a0_2 v.acting.length c0_2, .bool v.may]] ++ lb) w' (RetW (.bool (p v)) w')) :
    Calls Try.prog 65 #[.slice a l.length cap, .func (.func g) #[] lb] w (fun e w' => ∃ v, e = .returned v ∧ OwnV w.heap.size w' v (l.filter p) ∧ Below w.heap.size w w') := by
  have OK := Lib.hid ((intervalsOk a cap l w hl hs h).mono fun e w' q => (show e = .returned (.bool true) ∧ Below w.heap.size w w' from by obtain ⟨r, e1, hr, b⟩ := q; rw [hr.2 hp] at e1; exact ⟨e1, b⟩))
  have RH := Lib.hid h
  have PKH := Lib.hid PK
  have GET := Lib.hid (fun k (h : k < l.length) => Rd.get_lt h)
  have hl6 := hp.len
  have IV := Lib.hid (fun k v (hk : k < l.length) (hv : l[k]? = some v) => (hp k v hk hv).2.2.1)
  have FLn := Lib.hid (fun k => filter_len l p k)
  have ALL := Lib.hid (show l.take l.length = l by rw [List.take_length])
  obtain ⟨n, hn⟩ : ∃ n, l.length = n := ⟨_, rfl⟩
  have HN := Lib.hid hn
  rw [hn] at hl hl6 GET IV ALL OK ⊢
  clear h hs hn hp PK
  go_enter Try.func65, Try.ntmps65
  go_wp2_with fail
  refine OK.out.mono ?_
  rintro e w1 ⟨rfl, b1⟩
  have B1 := Lib.hid b1
  clear b1
  go_wp2
  go_loopw [5, 13] (fun u i wr => ∃ k : Nat, k ≤ n ∧ i = .int .i64 k ∧ OwnV w.heap.size wr u ((l.take k).filter p) ∧ Below w.heap.size w wr) (fun _ i _ => n - (intOf i).toNat)
  case atStart => exact ⟨0, by omega, rfl, OwnV.nil _ _, B1.out⟩
  case round =>
    clear B1
    obtain ⟨k, hk, rfl, J, hw⟩ := hrel
    have BH := Lib.hid hw
    have JH := Lib.hid J
    have LE := hw.size
    clear J
    by_cases hlt : k < n
    · skip
      obtain ⟨v, hv⟩ := GET.out k hlt
      obtain ⟨b, off, cs, rfl, -, hB, hr, hcc⟩ := (RH.out.below hw).at' hv
      obtain ⟨a0_2, c0_2, rfl, f0_0, f0_1, f0_2, g0_2⟩ := shape_Interval hr
      have c0 : wr.cell? ⟨b, off + k * 4, none⟩ = some (.int .i64 v.first) := hcc 0 _ rfl
      have c1 : wr.cell? ⟨b, off + k * 4 + 1, none⟩ = some (.int .i64 v.last) := hcc 1 _ rfl
      have c2 : wr.cell? ⟨b, off + k * 4 + 2, none⟩ = some (.slice a0_2 v.acting.length c0_2) := hcc 2 _ rfl
      have c3 : wr.cell? ⟨b, off + k * 4 + 3, none⟩ = some (.bool v.may) := hcc 3 _ rfl
      have AP := IV.out k v hlt hv
      have SN := filter_snoc p hv
      have LY := lay wr (.cells #[.int .i64 v.first, .int .i64 v.last, .slice a0_2 v.acting.length c0_2, .bool v.may] 38)
      have YN := BxN.new wr #[.int .i64 v.first, .int .i64 v.last, .slice a0_2 v.acting.length c0_2, .bool v.may] 38
      have y0 := YN.cells 0 _ rfl
      have y1 := YN.cells 1 _ rfl
      have y2 := YN.cells 2 _ rfl
      have y3 := YN.cells 3 _ rfl
      have WFA := rows_wf f0_2
      have PC := PKH.out v a0_2 c0_2 (wr.alloc (.cells #[.int .i64 v.first, .int .i64 v.last, .slice a0_2 v.acting.length c0_2, .bool v.may] 38)) (List.mem_of_getElem? hv) g0_2.2 ((f0_2.below LY).weak (Nat.zero_le _) (fun e => by cases e)) (chainX w hw LY)
      have BA := Lib.hid (chainX w hw LY)
      have YH := Lib.hid YN
      have LH := Lib.hid LY
      have CL := Lib.hid (fun w' (bb : Below (wr.alloc (.cells #[.int .i64 v.first, .int .i64 v.last, .slice a0_2 v.acting.length c0_2, .bool v.may] 38)).heap.size (wr.alloc (.cells #[.int .i64 v.first, .int .i64 v.last, .slice a0_2 v.acting.length c0_2, .bool v.may] 38)) w') => cloneI a0_2 c0_2 v.acting w' (by have := AP.1; omega) (rows_words ((f0_2.below LY).below bb)))
      have A1 := AP.1.1
      have A7 := AP.1.2
      have FK := FLn.out k
      clear hcc hr hv hw LY YN f0_2 AP
      cases q : p v
      · rw [q] at PC
        rw [q, if_neg (by simp), List.append_nil] at SN
        have PC := Lib.hid PC
        have G := Lib.hid (show ∀ w', Below (wr.alloc (.cells #[.int .i64 v.first, .int .i64 v.last, .slice a0_2 v.acting.length c0_2, .bool v.may] 38)).heap.size (wr.alloc (.cells #[.int .i64 v.first, .int .i64 v.last, .slice a0_2 v.acting.length c0_2, .bool v.may] 38)) w' → OwnV w.heap.size w' u5 ((l.take (k + 1)).filter p) from fun w' bb => by rw [SN]; exact JH.out.below (chainX wr LH.out bb))
        clear q SN CL WFA g0_2
        generalize v.acting.length = va at *
        go_wp2_with fail
        refine PC.out.mono ?_
        rintro e w3 ⟨rfl, b3⟩
        have B3 := Lib.hid (chainX w BA.out b3)
        have G3 := Lib.hid (G.out w3 b3)
        clear b3 G
        go_wp2
        go_roundw
        case rel => exact ⟨k + 1, by omega, by go_num, G3.out, B3.out⟩
        case measure => simp [intOf]; omega
      · rw [q] at PC
        rw [q, if_pos rfl] at SN
        have PC := Lib.hid PC
        have SN := Lib.hid SN
        clear q
        go_wp2_with fail
        refine PC.out.mono ?_
        rintro e w3 ⟨rfl, b3⟩
        have B3 := Lib.hid b3
        have Y3 := YH.out.later b3
        have z2 := Y3.cells 2 _ rfl
        have zf2 := Y3.free 2
        have Y3 := Lib.hid Y3
        have CC := Lib.hid (CL.out w3 b3)
        clear b3
        go_wp2_with fail
        refine CC.out.mono ?_
        intro e w4 NR
        obtain ⟨av, cvv, rfl, hn4, J4, b4⟩ := NR
        obtain ⟨q, c, e4, hq1, hq2, hq3, R4, b4⟩ := el_of A1 WFA (⟨av, cvv, rfl, hn4, J4, b4⟩ : NodR v.acting w3 (.returned (.slice av v.acting.length cvv)) w4)
        obtain ⟨rfl, rfl⟩ : av = some ⟨q, 0, none⟩ ∧ cvv = c := by simpa using e4
        have Y4 := Y3.out.later b4
        have P4 := (Y4.put 2 (by simp) (.slice (some ⟨q, 0, none⟩) v.acting.length cvv))
        have x2 := Y4.cells 2 _ rfl
        have xf2 := Y4.free 2
        have p0 := P4.cells 0 _ rfl
        have p1 := P4.cells 1 _ rfl
        have p2 := P4.cells 2 _ rfl
        have p3 := P4.cells 3 _ rfl
        have BW : Below wr.heap.size wr w4 := chainX wr (chainX wr LH.out B3.out) b4
        have lt4 : wr.heap.size < w3.heap.size := Y3.out.lt
        have BW2 := Lib.hid (BW.setCell (p := ⟨wr.heap.size, 2, none⟩) (Nat.le_refl _) (.slice (some ⟨q, 0, none⟩) v.acting.length cvv))
        have R5 := Lib.hid ((Rd.Rows.far (p := ⟨wr.heap.size, 2, none⟩) (v := .slice (some ⟨q, 0, none⟩) v.acting.length cvv) R4 lt4).weak (lo' := w.heap.size) (by have := lt4; omega) id)
        have Q1 := Lib.hid (show wr.heap.size ≤ q by omega)
        have Q2 := Lib.hid (show q < (w4.setCell ⟨wr.heap.size, 2, none⟩ (.slice (some ⟨q, 0, none⟩) v.acting.length cvv)).heap.size by simpa using hq2)
        clear R4 b4 BW Y4 P4 hq1 hq2 J4 hn4 e4 lt4
        go_wp2_with (at_builtin; refine wpList_append_V rfl (.tmp 24) (.tmp 26) rfl w.heap.size _ ((l.take k).filter p) v q cvv rfl JH.out BW2.out Q1.out Q2.out hq3 (by omega) f0_0 f0_1 R5.out (by rw [World.size_setCell]; rfl) (by omega) LE ?_; intro v' w5 V5 g5)
        have V6 := Lib.hid (show OwnV w.heap.size w5 v' ((l.take (k + 1)).filter p) from by rw [SN.out]; exact V5)
        have B6 := Lib.hid ((BH.out.trans (BW2.out.mono LE)).trans g5)
        clear V5 g5
        go_roundw
        case rel => exact ⟨k + 1, by omega, by go_num, V6.out, B6.out⟩
        case measure => simp [intOf]; omega
    · obtain rfl : k = n := by omega
      rw [ALL.out] at JH
      have G := Lib.hid (fun u' (e : u' = u5) => (show ∃ v, (Ending.returned u5) = .returned v ∧ OwnV w.heap.size wr v (l.filter p) ∧ Below w.heap.size w wr from ⟨_, rfl, JH.out, BH.out⟩))
      clear hw
      go_wp2
      go_ret
      exact G.out _ rfl
end Go.Proofs.Ythimpcfodbmhkaa.Ac
