/-
  NeedOf and AheadOf in the program.
-/
import Derived.Test.YthimpcfodbmhkaaNeedJ
import Derived.Test.YthimpcfodbmhkaaAnsV
namespace Go.Proofs.Ythimpcfodbmhkaa.Ac
open Go.RowKit Go.Proofs.Ythimpcfodbmhkaa.GfI Go.Proofs.Ythimpcfodbmhkaa.GfS Go.Proofs.Ythimpcfodbmhkaa.MixC
open Go.Proofs.Ythimpcfodbmhkaa.Gf2 (Ib wpList_append_int)
open Go.Proofs.Ythimpcfodbmhkaa.Rd (lay chain chainX RetW Rdb rows_words rows_wf GOne AnsI AnsR gone_of_own rows_of_words DInterval shape_Interval mk_Interval)
open Go.Proofs.Ythimpcfodbmhkaa.Rd (OwnV wpList_append_V wpList_append_Vb ElV undrewX AnsV)
open Go.Proofs.Ythimpcfodbmhkaa.Sg (BxN)
set_option linter.unusedVariables false
set_option linter.unusedSimpArgs false

def ahB (s : Int) (v : DInterval) : Bool := decide (v.first < s)
/-- What is answered: the intervals that p picks, of a valid list. -/
def PickR (p : DInterval → Bool) (l r : List DInterval) : Prop := (IvP l ∧ r = l.filter p) ∨ (¬ IvP l ∧ r = [])
theorem pick_ex (p : DInterval → Bool) (l : List DInterval) : ∃ r, PickR p l r := by
  by_cases h : IvP l
  · exact ⟨_, .inl ⟨h, rfl⟩⟩
  · exact ⟨_, .inr ⟨h, rfl⟩⟩
theorem sz_filter (p : DInterval → Bool) (l : List DInterval) : Rdb.sz (l.filter p) ≤ Rdb.sz l := by
  have h1 : ∀ l : List DInterval, ((l.filter p).map Rdb.sz).sum ≤ (l.map Rdb.sz).sum := by
    intro l
    induction l with
    | nil => simp
    | cons a l ih =>
      cases q : p a
      · rw [List.filter_cons_of_neg (by simp [q]), List.map_cons, List.sum_cons]; omega
      · rw [List.filter_cons_of_pos q, List.map_cons, List.map_cons, List.sum_cons, List.sum_cons]; omega
  have h2 := List.length_filter_le p l
  have h3 := h1 l
  show (l.filter p).length + _ ≤ l.length + _
  omega
theorem pick_sz {p : DInterval → Bool} {l r : List DInterval} (h : PickR p l r) : Rdb.sz r ≤ Rdb.sz l := by
  rcases h with ⟨-, rfl⟩ | ⟨-, rfl⟩
  · exact sz_filter p l
  · exact Nat.zero_le _
theorem ansV_nil {w w1 : World} (b : Below w.heap.size w w1) : AnsV [] w (.returned (.slice none 0 0)) w1 := ⟨none, 0, rfl, OwnV.nil _ _, b⟩
theorem ansV_made {w w1 : World} (b : Below w.heap.size w w1) : AnsV [] w (.returned (.slice (some ⟨w1.heap.size, 0, none⟩) 0 0)) (w1.alloc (.cells #[] 38)) := ⟨_, 0, rfl, OwnV.made b.size, chainX w b (lay _ _)⟩
set_option maxRecDepth 100000 in
set_option maxHeartbeats 2000000 in
theorem thoseNo (g : Nat) (lb : Array Value) (a : Option Addr) (cap : Nat) (l : List DInterval) (w : World) {fr : Bool} {lo : Nat} (hl : l.length ≤ 2097152) (hs : Rdb.sz l ≤ 2097152) (h : Rd.Rows fr lo w a l) (hp : ¬ IvP l) :
    Calls Try.prog 65 #[.slice a l.length cap, .func (.func g) #[] lb] w (RetW (.slice none 0 0) w) := by
  have OK := Lib.hid ((intervalsOk a cap l w hl hs h).mono fun e w' q => (show e = .returned (.bool false) ∧ Below w.heap.size w w' from by obtain ⟨r, e1, hr, b⟩ := q; cases r; exact ⟨e1, b⟩; exact absurd (hr.1 rfl) hp))
  clear h hs hp
  generalize l.length = n at *
  go_enter Try.func65, Try.ntmps65
  go_wp2_with fail
  refine OK.out.mono ?_
  rintro e w1 ⟨rfl, b1⟩
  have B1 := Lib.hid b1
  clear b1
  go_wp2
  go_ret
  exact ⟨rfl, B1.out⟩
set_option maxRecDepth 100000 in
set_option maxHeartbeats 4000000 in
theorem needNo (a : Option Addr) (cap : Nat) (l : List DInterval) (s : Int) (w : World) {fr : Bool} {lo : Nat} (hl : l.length ≤ 2097152) (hs : Rdb.sz l ≤ 2097152) (h : Rd.Rows fr lo w a l) (hp : ¬ IvP l) :
    Calls Try.prog 46 #[.slice a l.length cap, .int .i64 s] w (RetW (.slice none 0 0) w) := by
  have L1 := lay w (.cells #[.int .i64 s] 2)
  have L2 := chainX w L1 (lay (w.alloc (.cells #[.int .i64 s] 2)) (.cells #[.int .i64 s] 2))
  have L3 := chainX w L2 (lay ((w.alloc (.cells #[.int .i64 s] 2)).alloc (.cells #[.int .i64 s] 2)) (.cells #[.func (.func 99) #[] #[.pointer (some ⟨(w.heap.size + 1), 0, none⟩)]] 62))
  have S3 : (((w.alloc (.cells #[.int .i64 s] 2)).alloc (.cells #[.int .i64 s] 2)).alloc (.cells #[.func (.func 99) #[] #[.pointer (some ⟨(w.heap.size + 1), 0, none⟩)]] 62)).heap.size = w.heap.size + 1 + 1 + 1 := by simp
  have kS : (((w.alloc (.cells #[.int .i64 s] 2)).alloc (.cells #[.int .i64 s] 2)).alloc (.cells #[.func (.func 99) #[] #[.pointer (some ⟨(w.heap.size + 1), 0, none⟩)]] 62)).cell? ⟨w.heap.size, 0, none⟩ = some (.int .i64 s) := (((BxN.new w #[.int .i64 s] 2).later (lay (w.alloc (.cells #[.int .i64 s] 2)) (.cells #[.int .i64 s] 2))).later (lay ((w.alloc (.cells #[.int .i64 s] 2)).alloc (.cells #[.int .i64 s] 2)) (.cells #[.func (.func 99) #[] #[.pointer (some ⟨(w.heap.size + 1), 0, none⟩)]] 62))).cells 0 _ rfl
  have kE0 := ((BxN.new (w.alloc (.cells #[.int .i64 s] 2)) #[.int .i64 s] 2).later (lay ((w.alloc (.cells #[.int .i64 s] 2)).alloc (.cells #[.int .i64 s] 2)) (.cells #[.func (.func 99) #[] #[.pointer (some ⟨(w.heap.size + 1), 0, none⟩)]] 62))).cells 0 _ rfl
  have kE : (((w.alloc (.cells #[.int .i64 s] 2)).alloc (.cells #[.int .i64 s] 2)).alloc (.cells #[.func (.func 99) #[] #[.pointer (some ⟨(w.heap.size + 1), 0, none⟩)]] 62)).cell? ⟨w.heap.size + 1, 0, none⟩ = some (.int .i64 s) := by rw [World.size_alloc] at kE0; exact kE0
  have kF0 := (BxN.new ((w.alloc (.cells #[.int .i64 s] 2)).alloc (.cells #[.int .i64 s] 2)) #[.func (.func 99) #[] #[.pointer (some ⟨(w.heap.size + 1), 0, none⟩)]] 62).cells 0 _ rfl
  have kF : (((w.alloc (.cells #[.int .i64 s] 2)).alloc (.cells #[.int .i64 s] 2)).alloc (.cells #[.func (.func 99) #[] #[.pointer (some ⟨(w.heap.size + 1), 0, none⟩)]] 62)).cell? ⟨w.heap.size + 1 + 1, 0, none⟩ = some (.func (.func 99) #[] #[.pointer (some ⟨(w.heap.size + 1), 0, none⟩)]) := by rw [World.size_alloc, World.size_alloc] at kF0; exact kF0
  have TH := Lib.hid ((thoseNo 74 #[.pointer (some ⟨w.heap.size + 1 + 1, 0, none⟩), .pointer (some ⟨w.heap.size, 0, none⟩)] a cap l (((w.alloc (.cells #[.int .i64 s] 2)).alloc (.cells #[.int .i64 s] 2)).alloc (.cells #[.func (.func 99) #[] #[.pointer (some ⟨(w.heap.size + 1), 0, none⟩)]] 62)) hl hs (h.below L3) hp).mono fun e w' q => (show RetW (.slice none 0 0) w e w' from ⟨q.1, chainX w L3 q.2⟩))
  have ST := Lib.hid (startsAt s (w.alloc (.cells #[.int .i64 s] 2)))
  have k1 : (w.alloc (.cells #[.int .i64 s] 2)).cell? ⟨w.heap.size, 0, none⟩ = some (.int .i64 s) := (BxN.new w #[.int .i64 s] 2).cells 0 _ rfl
  clear L1 L2 L3 S3 kS kE0 kE kF0 kF h hs hp
  generalize l.length = n at *
  go_enter Try.func46, Try.ntmps46
  go_wp2_with fail
  refine ST.out.mono ?_
  rintro e w1 ⟨rfl, rfl⟩
  rw [World.size_alloc]
  go_wp2_with fail
  refine TH.out.mono ?_
  rintro e w2 ⟨rfl, b2⟩
  have G := Lib.hid (show RetW (.slice none 0 0) w (.returned (.slice none 0 0)) w2 from ⟨rfl, b2⟩)
  clear b2
  go_wp2
  go_ret
  exact G.out
set_option maxRecDepth 100000 in
set_option maxHeartbeats 2000000 in
theorem aheadFn (v : DInterval) (a0_2 : Option Addr) (c0_2 : Nat) (bE : Nat) (s : Int) (w : World) (hlt : bE < w.heap.size) (hE : w.cell? ⟨bE, 0, none⟩ = some (.int .i64 s)) :
    Calls Try.prog 69 #[.agg #[.int .i64 v.first, .int .i64 v.last, .slice a0_2 v.acting.length c0_2, .bool v.may], .pointer (some ⟨bE, 0, none⟩)] w (RetW (.bool (ahB s v)) w) := by
  have LY := lay w (.cells #[.int .i64 v.first, .int .i64 v.last, .slice a0_2 v.acting.length c0_2, .bool v.may] 38)
  have YN := BxN.new w #[.int .i64 v.first, .int .i64 v.last, .slice a0_2 v.acting.length c0_2, .bool v.may] 38
  have y0 := YN.cells 0 _ rfl
  have cE := (LY.cell (p := ⟨bE, 0, none⟩) hlt).trans hE
  have LH := Lib.hid LY
  unfold ahB
  clear YN LY hE
  generalize v.first = x at *
  generalize hb : decide (x < s) = b at *
  have hb := Lib.hid hb
  clear hlt
  go_enter Try.func69, Try.ntmps69
  go_wp2
  go_ret
  rw [← hb.out]
  exact ⟨rfl, LH.out⟩
set_option maxRecDepth 100000 in
set_option maxHeartbeats 4000000 in
theorem aheadOf (a : Option Addr) (cap : Nat) (l : List DInterval) (s : Int) (w : World) {fr : Bool} {lo : Nat} (hl : l.length ≤ 2097152) (hs : Rdb.sz l ≤ 2097152) (h : Rd.Rows fr lo w a l) (hp : IvP l) :
    Calls Try.prog 41 #[.slice a l.length cap, .int .i64 s] w (fun e w' => ∃ v, e = .returned v ∧ OwnV w.heap.size w' v (l.filter (ahB s)) ∧ Below w.heap.size w w') := by
  have L1 := lay w (.cells #[.int .i64 s] 2)
  have kS : (w.alloc (.cells #[.int .i64 s] 2)).cell? ⟨w.heap.size, 0, none⟩ = some (.int .i64 s) := (BxN.new w #[.int .i64 s] 2).cells 0 _ rfl
  have eg : ∀ args w, (callFunc 69 args).run Try.prog w = .ok (.enter 69 args) w := enters_of Try.func69 (by kernel_rfl) rfl
  have TH := thoseOf 69 #[.pointer (some ⟨w.heap.size, 0, none⟩)] eg (ahB s) a cap l (w.alloc (.cells #[.int .i64 s] 2)) hl hs (h.below L1) hp (fun v a2 c2 w' _ _ _ bb => aheadFn v a2 c2 w.heap.size s w' (by have := bb.size; simp at this; omega) ((bb.cell (p := ⟨w.heap.size, 0, none⟩) (by simp)).trans kS))
  have TH := Lib.hid (TH.mono fun e w' q => (show ∃ v, e = .returned v ∧ OwnV w.heap.size w' v (l.filter (ahB s)) ∧ Below w.heap.size w w' from by
    obtain ⟨v, e1, V, b⟩ := q
    exact ⟨v, e1, V.mono L1.size, chainX w L1 b⟩))
  clear eg
  clear L1 kS h hs hp
  generalize l.length = n at *
  go_enter Try.func41, Try.ntmps41
  go_wp2_with fail
  refine TH.out.mono ?_
  rintro e w2 ⟨v, rfl, V2, b2⟩
  have G := Lib.hid (show ∃ u, (Ending.returned v) = .returned u ∧ OwnV w.heap.size w2 u (l.filter (ahB s)) ∧ Below w.heap.size w w2 from ⟨v, rfl, V2, b2⟩)
  clear V2 b2
  go_wp2
  go_ret
  exact G.out
set_option maxRecDepth 100000 in
set_option maxHeartbeats 4000000 in
theorem aheadNo (a : Option Addr) (cap : Nat) (l : List DInterval) (s : Int) (w : World) {fr : Bool} {lo : Nat} (hl : l.length ≤ 2097152) (hs : Rdb.sz l ≤ 2097152) (h : Rd.Rows fr lo w a l) (hp : ¬ IvP l) :
    Calls Try.prog 41 #[.slice a l.length cap, .int .i64 s] w (RetW (.slice none 0 0) w) := by
  have L1 := lay w (.cells #[.int .i64 s] 2)
  have kS : (w.alloc (.cells #[.int .i64 s] 2)).cell? ⟨w.heap.size, 0, none⟩ = some (.int .i64 s) := (BxN.new w #[.int .i64 s] 2).cells 0 _ rfl
  have TH := Lib.hid ((thoseNo 69 #[.pointer (some ⟨w.heap.size, 0, none⟩)] a cap l (w.alloc (.cells #[.int .i64 s] 2)) hl hs (h.below L1) hp).mono fun e w' q => (show RetW (.slice none 0 0) w e w' from ⟨q.1, chainX w L1 q.2⟩))
  clear L1 kS h hs hp
  generalize l.length = n at *
  go_enter Try.func41, Try.ntmps41
  go_wp2_with fail
  refine TH.out.mono ?_
  rintro e w2 ⟨rfl, b2⟩
  have G := Lib.hid (show RetW (.slice none 0 0) w (.returned (.slice none 0 0)) w2 from ⟨rfl, b2⟩)
  clear b2
  go_wp2
  go_ret
  exact G.out
theorem implNeedOf (a : Option Addr) (cap : Nat) (l r : List DInterval) (s : Int) (w : World) {fr : Bool} {lo : Nat} (hl : l.length ≤ 2097152) (hs : Rdb.sz l ≤ 2097152) (h : Rd.Rows fr lo w a l) (hr : PickR (needB s) l r) :
    Calls Try.prog 46 #[.slice a l.length cap, .int .i64 s] w (AnsV r w) := by
  rcases hr with ⟨hp, rfl⟩ | ⟨hp, rfl⟩
  · exact (needOf a cap l s w hl hs h hp).mono fun e w' q => Rd.ansV_of q
  · exact (needNo a cap l s w hl hs h hp).mono fun e w' q => by obtain ⟨rfl, b⟩ := q; exact ansV_nil b
theorem implAheadOf (a : Option Addr) (cap : Nat) (l r : List DInterval) (s : Int) (w : World) {fr : Bool} {lo : Nat} (hl : l.length ≤ 2097152) (hs : Rdb.sz l ≤ 2097152) (h : Rd.Rows fr lo w a l) (hr : PickR (ahB s) l r) :
    Calls Try.prog 41 #[.slice a l.length cap, .int .i64 s] w (AnsV r w) := by
  rcases hr with ⟨hp, rfl⟩ | ⟨hp, rfl⟩
  · exact (aheadOf a cap l s w hl hs h hp).mono fun e w' q => Rd.ansV_of q
  · exact (aheadNo a cap l s w hl hs h hp).mono fun e w' q => by obtain ⟨rfl, b⟩ := q; exact ansV_nil b
end Go.Proofs.Ythimpcfodbmhkaa.Ac
