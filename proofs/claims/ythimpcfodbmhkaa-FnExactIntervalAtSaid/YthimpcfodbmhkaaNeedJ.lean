/-
  NeedOf in the program; the tests of its intervals.
-/
import Derived.Test.YthimpcfodbmhkaaNeedI
import Derived.Laws.EntriesVeiled
namespace Go.Proofs.Ythimpcfodbmhkaa.Ac
open Go.RowKit Go.Proofs.Ythimpcfodbmhkaa.GfI Go.Proofs.Ythimpcfodbmhkaa.GfS Go.Proofs.Ythimpcfodbmhkaa.MixC
open Go.Proofs.Ythimpcfodbmhkaa.Gf2 (Ib wpList_append_int)
open Go.Proofs.Ythimpcfodbmhkaa.Rd (lay chain chainX RetW Rdb rows_words rows_wf GOne AnsI AnsR gone_of_own rows_of_words DInterval shape_Interval mk_Interval)
open Go.Proofs.Ythimpcfodbmhkaa.Rd (OwnV wpList_append_V wpList_append_Vb ElV undrewX)
open Go.Proofs.Ythimpcfodbmhkaa.Sg (BxN)
set_option linter.unusedVariables false
set_option linter.unusedSimpArgs false

theorem _root_.Go.Proofs.Ythimpcfodbmhkaa.Rd.OwnV.mono {B C : Nat} {w : World} {v : Value} {ds : List DInterval} (h : OwnV B w v ds) (hC : C ≤ B) : OwnV C w v ds := by
  obtain ⟨Q, h1, h2, h3, h4⟩ := h
  refine ⟨Q, h1, ⟨h2.1, h2.2.imp id ?_⟩, fun i d p hd hp => ?_, h4⟩
  · rintro ⟨g, cap, cur, e, hg, r⟩
    exact ⟨g, cap, cur, e, Nat.le_trans hC hg, r⟩
  · have e := h3 i d p hd hp
    exact ⟨Nat.le_trans hC e.low, e.lt, e.ne, e.cap, e.small, e.wf0, e.wf1, e.rows.weak hC id⟩
set_option maxRecDepth 100000 in
set_option maxHeartbeats 4000000 in
theorem needOf (a : Option Addr) (cap : Nat) (l : List DInterval) (s : Int) (w : World) {fr : Bool} {lo : Nat} (hl : l.length ≤ 2097152) (hs : Rdb.sz l ≤ 2097152) (h : Rd.Rows fr lo w a l) (hp : IvP l) :
    Calls Try.prog 46 #[.slice a l.length cap, .int .i64 s] w (fun e w' => ∃ v, e = .returned v ∧ OwnV w.heap.size w' v (needL l s) ∧ Below w.heap.size w w') := by
  have L1 := lay w (.cells #[.int .i64 s] 2)
  have L2 := chainX w L1 (lay (w.alloc (.cells #[.int .i64 s] 2)) (.cells #[.int .i64 s] 2))
  have L3 := chainX w L2 (lay ((w.alloc (.cells #[.int .i64 s] 2)).alloc (.cells #[.int .i64 s] 2)) (.cells #[.func (.func 99) #[] #[.pointer (some ⟨(w.heap.size + 1), 0, none⟩)]] 62))
  have S3 : (((w.alloc (.cells #[.int .i64 s] 2)).alloc (.cells #[.int .i64 s] 2)).alloc (.cells #[.func (.func 99) #[] #[.pointer (some ⟨(w.heap.size + 1), 0, none⟩)]] 62)).heap.size = w.heap.size + 1 + 1 + 1 := by simp
  have kS : (((w.alloc (.cells #[.int .i64 s] 2)).alloc (.cells #[.int .i64 s] 2)).alloc (.cells #[.func (.func 99) #[] #[.pointer (some ⟨(w.heap.size + 1), 0, none⟩)]] 62)).cell? ⟨w.heap.size, 0, none⟩ = some (.int .i64 s) := (((BxN.new w #[.int .i64 s] 2).later (lay (w.alloc (.cells #[.int .i64 s] 2)) (.cells #[.int .i64 s] 2))).later (lay ((w.alloc (.cells #[.int .i64 s] 2)).alloc (.cells #[.int .i64 s] 2)) (.cells #[.func (.func 99) #[] #[.pointer (some ⟨(w.heap.size + 1), 0, none⟩)]] 62))).cells 0 _ rfl
  have kE0 := ((BxN.new (w.alloc (.cells #[.int .i64 s] 2)) #[.int .i64 s] 2).later (lay ((w.alloc (.cells #[.int .i64 s] 2)).alloc (.cells #[.int .i64 s] 2)) (.cells #[.func (.func 99) #[] #[.pointer (some ⟨(w.heap.size + 1), 0, none⟩)]] 62))).cells 0 _ rfl
  have kE : (((w.alloc (.cells #[.int .i64 s] 2)).alloc (.cells #[.int .i64 s] 2)).alloc (.cells #[.func (.func 99) #[] #[.pointer (some ⟨(w.heap.size + 1), 0, none⟩)]] 62)).cell? ⟨w.heap.size + 1, 0, none⟩ = some (.int .i64 s) := by rw [World.size_alloc] at kE0; exact kE0
  have kF0 := (BxN.new ((w.alloc (.cells #[.int .i64 s] 2)).alloc (.cells #[.int .i64 s] 2)) #[.func (.func 99) #[] #[.pointer (some ⟨(w.heap.size + 1), 0, none⟩)]] 62).cells 0 _ rfl
  have kF : (((w.alloc (.cells #[.int .i64 s] 2)).alloc (.cells #[.int .i64 s] 2)).alloc (.cells #[.func (.func 99) #[] #[.pointer (some ⟨(w.heap.size + 1), 0, none⟩)]] 62)).cell? ⟨w.heap.size + 1 + 1, 0, none⟩ = some (.func (.func 99) #[] #[.pointer (some ⟨(w.heap.size + 1), 0, none⟩)]) := by rw [World.size_alloc, World.size_alloc] at kF0; exact kF0
  have eg : ∀ args w, (callFunc 74 args).run Try.prog w = .ok (.enter 74 args) w := enters_of Try.func74 (by kernel_rfl) rfl
  have TH := thoseOf 74 #[.pointer (some ⟨w.heap.size + 1 + 1, 0, none⟩), .pointer (some ⟨w.heap.size, 0, none⟩)] eg (needB s) a cap l (((w.alloc (.cells #[.int .i64 s] 2)).alloc (.cells #[.int .i64 s] 2)).alloc (.cells #[.func (.func 99) #[] #[.pointer (some ⟨(w.heap.size + 1), 0, none⟩)]] 62)) hl hs (h.below L3) hp (fun v a2 c2 w' _ _ _ bb =>
    needFn v a2 c2 (w.heap.size + 1 + 1) w.heap.size (w.heap.size + 1) s w' (by have := bb.size; omega) (by have := bb.size; omega) (by have := bb.size; omega)
      ((bb.cell (p := ⟨w.heap.size + 1 + 1, 0, none⟩) (by show w.heap.size + 1 + 1 < _; omega)).trans kF) ((bb.cell (p := ⟨w.heap.size, 0, none⟩) (by show w.heap.size < _; omega)).trans kS) ((bb.cell (p := ⟨w.heap.size + 1, 0, none⟩) (by show w.heap.size + 1 < _; omega)).trans kE))
  have TH := Lib.hid (TH.mono fun e w' q => (show ∃ v, e = .returned v ∧ OwnV w.heap.size w' v (needL l s) ∧ Below w.heap.size w w' from by
    obtain ⟨v, e1, V, b⟩ := q
    exact ⟨v, e1, V.mono L3.size, chainX w L3 b⟩))
  have ST := Lib.hid (startsAt s (w.alloc (.cells #[.int .i64 s] 2)))
  have k1 : (w.alloc (.cells #[.int .i64 s] 2)).cell? ⟨w.heap.size, 0, none⟩ = some (.int .i64 s) := (BxN.new w #[.int .i64 s] 2).cells 0 _ rfl
  clear L1 L2 L3 S3 kS kE0 kE kF0 kF eg h hs hp
  generalize l.length = n at *
  go_enter Try.func46, Try.ntmps46
  go_wp2_with fail
  refine ST.out.mono ?_
  rintro e w1 ⟨rfl, rfl⟩
  rw [World.size_alloc]
  go_wp2_with fail
  refine TH.out.mono ?_
  rintro e w2 ⟨v, rfl, V2, b2⟩
  have G := Lib.hid (show ∃ u, (Ending.returned v) = .returned u ∧ OwnV w.heap.size w2 u (needL l s) ∧ Below w.heap.size w w2 from ⟨v, rfl, V2, b2⟩)
  clear V2 b2
  go_wp2
  go_ret
  exact G.out
set_option maxRecDepth 100000 in
set_option maxHeartbeats 4000000 in
theorem lackFn (v : DInterval) (a0_2 : Option Addr) (c0_2 : Nat) (bH bK : Nat) (hd : List Int) (kk : Int) (ah : Option Addr) (ch : Nat) (w : World) {fr fr2 : Bool} {lo lo2 : Nat} (lH : bH < w.heap.size) (lK : bK < w.heap.size) (hH : w.cell? ⟨bH, 0, none⟩ = some (.slice ah hd.length ch)) (hK : w.cell? ⟨bK, 0, none⟩ = some (.int .i64 kk))
    (hl : v.acting.length ≤ 2097152) (hc : v.acting.length ≤ c0_2) (hh : hd.length ≤ 2097152) (ha : Rd.Rows fr lo w a0_2 v.acting) (hb : Rd.Rows fr2 lo2 w ah hd) :
    Calls Try.prog 84 #[.agg #[.int .i64 v.first, .int .i64 v.last, .slice a0_2 v.acting.length c0_2, .bool v.may], .pointer (some ⟨bH, 0, none⟩), .pointer (some ⟨bK, 0, none⟩)] w (RetW (.bool (lackB kk hd v)) w) := by
  have LY := lay w (.cells #[.int .i64 v.first, .int .i64 v.last, .slice a0_2 v.acting.length c0_2, .bool v.may] 38)
  have YN := BxN.new w #[.int .i64 v.first, .int .i64 v.last, .slice a0_2 v.acting.length c0_2, .bool v.may] 38
  have y0 := YN.cells 0 _ rfl
  have y1 := YN.cells 1 _ rfl
  have y2 := YN.cells 2 _ rfl
  have y3 := YN.cells 3 _ rfl
  have cH := (LY.cell (p := ⟨bH, 0, none⟩) lH).trans hH
  have cK := (LY.cell (p := ⟨bK, 0, none⟩) lK).trans hK
  have C := Lib.hid (fun w' (b : Below (w.alloc (.cells #[.int .i64 v.first, .int .i64 v.last, .slice a0_2 v.acting.length c0_2, .bool v.may] 38)).heap.size (w.alloc (.cells #[.int .i64 v.first, .int .i64 v.last, .slice a0_2 v.acting.length c0_2, .bool v.may] 38)) w') => implHeardOf v a0_2 c0_2 ah ch hd w' hl hc hh ((ha.below LY).below b) ((hb.below LY).below b))
  have CS := Lib.hid (fun w' (b : Below (w.alloc (.cells #[.int .i64 v.first, .int .i64 v.last, .slice a0_2 v.acting.length c0_2, .bool v.may] 38)).heap.size (w.alloc (.cells #[.int .i64 v.first, .int .i64 v.last, .slice a0_2 v.acting.length c0_2, .bool v.may] 38)) w') => And.intro ((b.cell (p := ⟨bH, 0, none⟩) (Nat.lt_of_lt_of_le lH LY.size)).trans cH) ((b.cell (p := ⟨bK, 0, none⟩) (Nat.lt_of_lt_of_le lK LY.size)).trans cK))
  have YH := Lib.hid YN
  have LH := Lib.hid LY
  have FIN := Lib.hid (fun (w1 : World) (b1 : Below (w.alloc (.cells #[.int .i64 v.first, .int .i64 v.last, .slice a0_2 v.acting.length c0_2, .bool v.may] 38)).heap.size (w.alloc (.cells #[.int .i64 v.first, .int .i64 v.last, .slice a0_2 v.acting.length c0_2, .bool v.may] 38)) w1) => (show RetW (.bool (lackB kk hd v)) w (.returned (.bool (decide (((heaV v.acting hd).length : Int) < kk)))) w1 from ⟨rfl, chainX w LH.out b1⟩))
  clear YN LY hH hK lH lK ha hb
  generalize lackB kk hd v = lb at *
  generalize heaV v.acting hd = zs at *
  generalize hlen : hd.length = m at *
  generalize v.acting.length = n at *
  generalize v.first = x0 at *
  generalize v.last = x1 at *
  generalize v.may = x3 at *
  clear hlen
  go_enter Try.func84, Try.ntmps84
  go_wp2
  go_region_held3 (fun w' => w'.cell? ⟨w.heap.size, 0, none⟩ = some (.int .i64 x0) ∧ w'.cell? ⟨w.heap.size, 1, none⟩ = some (.int .i64 x1) ∧ w'.cell? ⟨w.heap.size, 2, none⟩ = some (.slice a0_2 n c0_2) ∧ w'.cell? ⟨w.heap.size, 3, none⟩ = some (.bool x3) ∧ w'.cell? ⟨bH, 0, none⟩ = some (.slice ah m ch) ∧ w'.cell? ⟨bK, 0, none⟩ = some (.int .i64 kk)) (go_keep)
    (first
      | (go_at_call 50; refine (C.out _ ((Below.refl _ _).drew)).mono ?_; rintro e w1 ⟨a1, c1, rfl, -, b1⟩; have b1 := undrewX b1; have YQ := YH.out.later b1; have x0_ := YQ.cells 0 _ rfl; have x1_ := YQ.cells 1 _ rfl; have x2_ := YQ.cells 2 _ rfl; have x3_ := YQ.cells 3 _ rfl; obtain ⟨zH, zK⟩ := CS.out _ b1; have G := Lib.hid (FIN.out _ b1); have BQ := b1; clear b1 YQ))
  go_wp2
  go_ret
  exact G.out
/-- An index found, or none. -/
def IdxW (P : Prop) (w : World) (e : Ending) (w' : World) : Prop := ∃ i : Int, e = .returned (.int .i64 i) ∧ Below w.heap.size w w' ∧ ((0 ≤ i ∧ P) ∨ (i = -1 ∧ ¬ P))
theorem none_of {α : Type} {l : List α} {p : α → Bool} (h : ∀ i x, i < l.length → l[i]? = some x → p x = false) : ¬ ∃ x, x ∈ l ∧ p x = true := by
  rintro ⟨x, hx, hp⟩
  obtain ⟨i, hi, rfl⟩ := List.getElem_of_mem hx
  rw [h i _ hi (List.getElem?_eq_getElem hi)] at hp
  cases hp
set_option maxRecDepth 100000 in
set_option maxHeartbeats 4000000 in
theorem ctStart_idx (s : Int) (bE : Nat) (a : Option Addr) (cap : Nat) (l : List DInterval) (w : World) (hl : l.length ≤ 2097152) {fr : Bool} {lo : Nat} (hc : Rd.Rows fr lo w a l) (lE : bE < w.heap.size) (hE : w.cell? ⟨bE, 0, none⟩ = some (.int .i64 s)) :
    Calls Try.prog 106 #[.slice a l.length cap, .func (.func 99) #[] #[.pointer (some ⟨bE, 0, none⟩)]] w (IdxW (∃ x, x ∈ l ∧ (stB s) x = true) w) := by
  have HL := Lib.hid (fun k (h : k < l.length) => Rd.get_lt h)
  have NO := Lib.hid (fun (h : ∀ i x, i < l.length → l[i]? = some x → (stB s) x = false) => (show ¬ ∃ x, x ∈ l ∧ (stB s) x = true from none_of h))
  have MEM := Lib.hid (fun k x (h : l[k]? = some x) => List.mem_of_getElem? h)
  obtain ⟨n, hn⟩ : ∃ n, n = l.length := ⟨_, rfl⟩
  rw [← hn] at hl HL NO ⊢
  clear hn
  go_enter Try.func106, Try.ntmps106
  go_wp2
  go_loopw [8] (fun i wr => ∃ k : Nat, k ≤ n ∧ i = .int .i64 k ∧ (∀ i x, i < k → l[i]? = some x → (stB s) x = false) ∧ Below w.heap.size w wr) (fun i _ => n - (intOf i).toNat)
  case atStart => exact ⟨0, by omega, rfl, fun i x hi => absurd hi (Nat.not_lt_zero _), Below.refl _ _⟩
  case round =>
    obtain ⟨k, hk, rfl, HN, hw⟩ := hrel
    have HN := Lib.hid HN
    have HW := Lib.hid hw
    by_cases hlt : k < n
    · obtain ⟨x, hx⟩ := HL.out k hlt
      obtain ⟨b, off, cs, rfl, -, hB, hr, hcc⟩ := (hc.below hw).at' hx
      have r := hr
      obtain ⟨a0_2, c0_2, rfl, f0_0, f0_1, f0_2, g0_2⟩ := shape_Interval hr
      have c0 : wr.cell? ⟨b, off + k * 4, none⟩ = some (.int .i64 x.first) := hcc 0 _ rfl
      have c1 : wr.cell? ⟨b, off + k * 4 + 1, none⟩ = some (.int .i64 x.last) := hcc 1 _ rfl
      have c2 : wr.cell? ⟨b, off + k * 4 + 2, none⟩ = some (.slice a0_2 x.acting.length c0_2) := hcc 2 _ rfl
      have c3 : wr.cell? ⟨b, off + k * 4 + 3, none⟩ = some (.bool x.may) := hcc 3 _ rfl
      have P := startFn x a0_2 c0_2 bE s wr (Nat.lt_of_lt_of_le lE hw.size) ((hw.cell (p := ⟨bE, 0, none⟩) lE).trans hE)
      have HX := Lib.hid hx
      clear hcc hc hw hx r
      cases hp : (stB s) x
      · rw [hp] at P
        have P := Lib.hid P
        have HN2 := Lib.hid (show ∀ i y, i < k + 1 → l[i]? = some y → (stB s) y = false from fun i y hi hy => by
          by_cases e : i = k
          · subst e; rw [HX.out] at hy; cases hy; exact hp
          · exact HN.out i y (by omega) hy)
        clear hp
        go_wp2_with fail
        refine P.out.mono ?_
        rintro e w1 ⟨rfl, b1⟩
        have B1 := Lib.hid (chainX w HW.out b1)
        clear b1 P
        go_wp2
        go_roundw
        case rel => exact ⟨k + 1, by omega, by go_num, HN2.out, B1.out⟩
        case measure => simp [intOf]; omega
      · rw [hp] at P
        have P := Lib.hid P
        have Y := Lib.hid (show ∃ x, x ∈ l ∧ (stB s) x = true from ⟨x, MEM.out k x HX.out, hp⟩)
        clear hp
        go_wp2_with fail
        refine P.out.mono ?_
        rintro e w1 ⟨rfl, b1⟩
        have B1 := Lib.hid (chainX w HW.out b1)
        clear b1 P
        go_wp2
        go_ret
        exact ⟨_, rfl, B1.out, .inl ⟨by omega, Y.out⟩⟩
    · obtain rfl : k = n := by omega
      have N := Lib.hid (NO.out HN.out)
      clear hc hw
      go_wp2
      go_ret
      exact ⟨_, rfl, HW.out, .inr ⟨rfl, N.out⟩⟩
set_option maxRecDepth 100000 in
set_option maxHeartbeats 4000000 in
theorem ctStart (s : Int) (bE : Nat) (a : Option Addr) (cap : Nat) (l : List DInterval) (w : World) (hl : l.length ≤ 2097152) {fr : Bool} {lo : Nat} (hc : Rd.Rows fr lo w a l) (lE : bE < w.heap.size) (hE : w.cell? ⟨bE, 0, none⟩ = some (.int .i64 s)) :
    Calls Try.prog 83 #[.slice a l.length cap, .func (.func 99) #[] #[.pointer (some ⟨bE, 0, none⟩)]] w (IffB (∃ x, x ∈ l ∧ (stB s) x = true) w) := by
  have I := Lib.hid (ctStart_idx s bE a cap l w hl hc lE hE)
  clear hc
  go_enter Try.func83, Try.ntmps83
  go_wp2_with fail
  refine I.out.mono ?_
  rintro e w1 ⟨i, rfl, b1, ⟨h0, Y⟩ | ⟨rfl, N⟩⟩
  · have h' : decide (0 ≤ i) = true := decide_eq_true h0
    have Y := Lib.hid Y
    have B := Lib.hid b1
    clear b1
    go_wp2
    go_ret
    exact IffB.yes Y.out B.out
  · have N := Lib.hid N
    have B := Lib.hid b1
    clear b1
    go_wp2
    go_ret
    exact IffB.no N.out B.out
set_option maxRecDepth 100000 in
set_option maxHeartbeats 4000000 in
theorem ctLack_idx (hd : List Int) (kk : Int) (bH bK : Nat) (ah : Option Addr) (ch : Nat) (a : Option Addr) (cap : Nat) (l : List DInterval) (w : World) (hl : l.length ≤ 2097152) {fr : Bool} {lo : Nat} (hc : Rd.Rows fr lo w a l) {fr2 : Bool} {lo2 : Nat} (lH : bH < w.heap.size) (lK : bK < w.heap.size) (hH : w.cell? ⟨bH, 0, none⟩ = some (.slice ah hd.length ch)) (hK : w.cell? ⟨bK, 0, none⟩ = some (.int .i64 kk)) (hh : hd.length ≤ 2097152) (hr2 : Rd.Rows fr2 lo2 w ah hd) (hsz : ∀ x, x ∈ l → x.acting.length ≤ 2097152) :
    Calls Try.prog 106 #[.slice a l.length cap, .func (.func 84) #[] #[.pointer (some ⟨bH, 0, none⟩), .pointer (some ⟨bK, 0, none⟩)]] w (IdxW (∃ x, x ∈ l ∧ (lackB kk hd) x = true) w) := by
  have HL := Lib.hid (fun k (h : k < l.length) => Rd.get_lt h)
  have NO := Lib.hid (fun (h : ∀ i x, i < l.length → l[i]? = some x → (lackB kk hd) x = false) => (show ¬ ∃ x, x ∈ l ∧ (lackB kk hd) x = true from none_of h))
  have MEM := Lib.hid (fun k x (h : l[k]? = some x) => List.mem_of_getElem? h)
  obtain ⟨n, hn⟩ : ∃ n, n = l.length := ⟨_, rfl⟩
  rw [← hn] at hl HL NO ⊢
  clear hn
  go_enter Try.func106, Try.ntmps106
  go_wp2
  go_loopw [8] (fun i wr => ∃ k : Nat, k ≤ n ∧ i = .int .i64 k ∧ (∀ i x, i < k → l[i]? = some x → (lackB kk hd) x = false) ∧ Below w.heap.size w wr) (fun i _ => n - (intOf i).toNat)
  case atStart => exact ⟨0, by omega, rfl, fun i x hi => absurd hi (Nat.not_lt_zero _), Below.refl _ _⟩
  case round =>
    obtain ⟨k, hk, rfl, HN, hw⟩ := hrel
    have HN := Lib.hid HN
    have HW := Lib.hid hw
    by_cases hlt : k < n
    · obtain ⟨x, hx⟩ := HL.out k hlt
      obtain ⟨b, off, cs, rfl, -, hB, hr, hcc⟩ := (hc.below hw).at' hx
      have r := hr
      obtain ⟨a0_2, c0_2, rfl, f0_0, f0_1, f0_2, g0_2⟩ := shape_Interval hr
      have c0 : wr.cell? ⟨b, off + k * 4, none⟩ = some (.int .i64 x.first) := hcc 0 _ rfl
      have c1 : wr.cell? ⟨b, off + k * 4 + 1, none⟩ = some (.int .i64 x.last) := hcc 1 _ rfl
      have c2 : wr.cell? ⟨b, off + k * 4 + 2, none⟩ = some (.slice a0_2 x.acting.length c0_2) := hcc 2 _ rfl
      have c3 : wr.cell? ⟨b, off + k * 4 + 3, none⟩ = some (.bool x.may) := hcc 3 _ rfl
      have P := lackFn x a0_2 c0_2 bH bK hd kk ah ch wr (Nat.lt_of_lt_of_le lH hw.size) (Nat.lt_of_lt_of_le lK hw.size) ((hw.cell (p := ⟨bH, 0, none⟩) lH).trans hH) ((hw.cell (p := ⟨bK, 0, none⟩) lK).trans hK) (hsz x (List.mem_of_getElem? hx)) g0_2.2 hh f0_2 (hr2.below hw)
      have HX := Lib.hid hx
      clear hcc hc hw hx r
      cases hp : (lackB kk hd) x
      · rw [hp] at P
        have P := Lib.hid P
        have HN2 := Lib.hid (show ∀ i y, i < k + 1 → l[i]? = some y → (lackB kk hd) y = false from fun i y hi hy => by
          by_cases e : i = k
          · subst e; rw [HX.out] at hy; cases hy; exact hp
          · exact HN.out i y (by omega) hy)
        clear hp
        go_wp2_with fail
        refine P.out.mono ?_
        rintro e w1 ⟨rfl, b1⟩
        have B1 := Lib.hid (chainX w HW.out b1)
        clear b1 P
        go_wp2
        go_roundw
        case rel => exact ⟨k + 1, by omega, by go_num, HN2.out, B1.out⟩
        case measure => simp [intOf]; omega
      · rw [hp] at P
        have P := Lib.hid P
        have Y := Lib.hid (show ∃ x, x ∈ l ∧ (lackB kk hd) x = true from ⟨x, MEM.out k x HX.out, hp⟩)
        clear hp
        go_wp2_with fail
        refine P.out.mono ?_
        rintro e w1 ⟨rfl, b1⟩
        have B1 := Lib.hid (chainX w HW.out b1)
        clear b1 P
        go_wp2
        go_ret
        exact ⟨_, rfl, B1.out, .inl ⟨by omega, Y.out⟩⟩
    · obtain rfl : k = n := by omega
      have N := Lib.hid (NO.out HN.out)
      clear hc hw
      go_wp2
      go_ret
      exact ⟨_, rfl, HW.out, .inr ⟨rfl, N.out⟩⟩
set_option maxRecDepth 100000 in
set_option maxHeartbeats 4000000 in
theorem ctLack (hd : List Int) (kk : Int) (bH bK : Nat) (ah : Option Addr) (ch : Nat) (a : Option Addr) (cap : Nat) (l : List DInterval) (w : World) (hl : l.length ≤ 2097152) {fr : Bool} {lo : Nat} (hc : Rd.Rows fr lo w a l) {fr2 : Bool} {lo2 : Nat} (lH : bH < w.heap.size) (lK : bK < w.heap.size) (hH : w.cell? ⟨bH, 0, none⟩ = some (.slice ah hd.length ch)) (hK : w.cell? ⟨bK, 0, none⟩ = some (.int .i64 kk)) (hh : hd.length ≤ 2097152) (hr2 : Rd.Rows fr2 lo2 w ah hd) (hsz : ∀ x, x ∈ l → x.acting.length ≤ 2097152) :
    Calls Try.prog 83 #[.slice a l.length cap, .func (.func 84) #[] #[.pointer (some ⟨bH, 0, none⟩), .pointer (some ⟨bK, 0, none⟩)]] w (IffB (∃ x, x ∈ l ∧ (lackB kk hd) x = true) w) := by
  have I := Lib.hid (ctLack_idx hd kk bH bK ah ch a cap l w hl hc lH lK hH hK hh hr2 hsz)
  clear hc
  go_enter Try.func83, Try.ntmps83
  go_wp2_with fail
  refine I.out.mono ?_
  rintro e w1 ⟨i, rfl, b1, ⟨h0, Y⟩ | ⟨rfl, N⟩⟩
  · have h' : decide (0 ≤ i) = true := decide_eq_true h0
    have Y := Lib.hid Y
    have B := Lib.hid b1
    clear b1
    go_wp2
    go_ret
    exact IffB.yes Y.out B.out
  · have N := Lib.hid N
    have B := Lib.hid b1
    clear b1
    go_wp2
    go_ret
    exact IffB.no N.out B.out
end Go.Proofs.Ythimpcfodbmhkaa.Ac
