/-
  slices.Equal at heads, last requests, entries and chunks.
-/
import Derived.Test.YtbnjgehgaellmaaEqv
import Derived.BigQuiet
import Derived.Deep.QuietTactic
namespace Go.Proofs.Ytbnjgehgaellmaa.Rd
open Go.RowKit Go.ChangeShapes Go.WideShapes
open Go.Proofs.Ytbnjgehgaellmaa.Sg (BxN)
set_option linter.unusedVariables false
set_option linter.unusedSimpArgs false

theorem ne_at {α : Type} {l m : List α} {k : Nat} {x y : α} (hx : l[k]? = some x) (hy : m[k]? = some y) (h : ¬ x = y) : ¬ l = m := by
  intro e
  rw [e, hy] at hx
  cases hx
  exact h rfl
theorem eq_next {α : Type} {l m : List α} {k : Nat} {x y : α} (hx : l[k]? = some x) (hy : m[k]? = some y) (p : ∀ j, j < k → l[j]? = m[j]?) (h : x = y) : ∀ j, j < k + 1 → l[j]? = m[j]? := by
  intro j hj
  by_cases e : j = k
  · rw [e, hx, hy, h]
  · exact p j (by omega)
theorem eq_end {α : Type} {l m : List α} (h1 : l.length = m.length) (p : ∀ j, j < l.length → l[j]? = m[j]?) : l = m := by
  refine List.ext_getElem? fun j => ?_
  by_cases e : j < l.length
  · exact p j e
  · rw [List.getElem?_eq_none (by omega), List.getElem?_eq_none (by omega)]
set_option maxRecDepth 100000 in
set_option maxHeartbeats 4000000 in
theorem equalHead (l m : List DHead) (a b : Option Addr) (c1 c2 : Nat) (w : World) {fr fr2 : Bool} {lo lo2 : Nat} (hl : l.length ≤ 2097152) (hm : m.length ≤ 2097152) (ha : Rows fr lo w a l) (hb : Rows fr2 lo2 w b m) :
    Calls Try.prog 111 #[.slice a l.length c1, .slice b m.length c2] w (IffB (l = m) w) := by
  have HL := Lib.hid (fun k (h : k < l.length) => get_lt h)
  have HM := Lib.hid (fun k (h : k < m.length) => get_lt h)
  have END := Lib.hid (@eq_end _ l m)
  have LEN := Lib.hid (show ¬ l.length = m.length → ¬ l = m from fun h e => h (by rw [e]))
  obtain ⟨n, hn⟩ : ∃ n, n = l.length := ⟨_, rfl⟩
  obtain ⟨p, hp⟩ : ∃ p, p = m.length := ⟨_, rfl⟩
  rw [← hn, ← hp] at END LEN
  rw [← hn] at hl HL ⊢
  rw [← hp] at hm HM ⊢
  clear hn hp
  by_cases q : n = p
  · subst q
    go_enter Try.func111, Try.ntmps111
    go_wp2
    go_loopw [13] (fun i wr => ∃ k : Nat, k ≤ n ∧ i = .int .i64 k ∧ (∀ j, j < k → l[j]? = m[j]?) ∧ Below w.heap.size w wr) (fun i _ => n - (intOf i).toNat)
    case atStart => exact ⟨0, by omega, rfl, fun j hj => by omega, Below.refl _ _⟩
    case round =>
      obtain ⟨k, hk, rfl, P, hw⟩ := hrel
      by_cases hlt : k < n
      · obtain ⟨x, hx⟩ := HL.out k hlt
        obtain ⟨y, hy⟩ := HM.out k hlt
        have NO := Lib.hid (ne_at hx hy)
        have YES := Lib.hid (eq_next hx hy P)
        obtain ⟨bq, hq, F⟩ := eqvHead x y
        have F := fun w => (F w).2
        have HQ := Lib.hid hq
        obtain ⟨b1, o1, cs1, rfl, -, hB1, hr1, hc1⟩ := (ha.below hw).at' hx
        obtain ⟨b2, o2, cs2, rfl, -, hB2, hr2, hc2⟩ := (hb.below hw).at' hy
        have hs1 := (shape_Head hr1).1
        have hs2 := (shape_Head hr2).1
        subst hs1
        subst hs2
        have c0 : wr.cell? ⟨b1, o1 + k * 5, none⟩ = some (.string x.name) := hc1 0 _ rfl
        have c1 : wr.cell? ⟨b1, o1 + k * 5 + 1, none⟩ = some (.int .i64 x.ver.epoch) := hc1 1 _ rfl
        have c2 : wr.cell? ⟨b1, o1 + k * 5 + 2, none⟩ = some (.int .i64 x.ver.seq) := hc1 2 _ rfl
        have c3 : wr.cell? ⟨b1, o1 + k * 5 + 3, none⟩ = some (.int .i64 x.size) := hc1 3 _ rfl
        have c4 : wr.cell? ⟨b1, o1 + k * 5 + 4, none⟩ = some (.int .i64 x.sum) := hc1 4 _ rfl
        have e0 : wr.cell? ⟨b2, o2 + k * 5, none⟩ = some (.string y.name) := hc2 0 _ rfl
        have e1 : wr.cell? ⟨b2, o2 + k * 5 + 1, none⟩ = some (.int .i64 y.ver.epoch) := hc2 1 _ rfl
        have e2 : wr.cell? ⟨b2, o2 + k * 5 + 2, none⟩ = some (.int .i64 y.ver.seq) := hc2 2 _ rfl
        have e3 : wr.cell? ⟨b2, o2 + k * 5 + 3, none⟩ = some (.int .i64 y.size) := hc2 3 _ rfl
        have e4 : wr.cell? ⟨b2, o2 + k * 5 + 4, none⟩ = some (.int .i64 y.sum) := hc2 4 _ rfl
        have WH := Lib.hid hw
        clear hw hx hy hc1 hc2 hr1 hr2 ha hb P LEN hq
        cases bq
        · have G := Lib.hid (NO.out (fun e => by have := HQ.out.2 e; cases this))
          clear NO YES HQ
          go_wp2
          go_quiet (fail)
          go_wp2
          go_ret
          exact IffB.no G.out (WH.out.trans (below_drewN (Below.refl _ _) _))
        · have G := Lib.hid (YES.out (HQ.out.1 rfl))
          clear NO YES HQ
          go_wp2
          go_quiet (fail)
          go_wp2
          go_roundw
          case rel => exact ⟨k + 1, by omega, by go_num, G.out, WH.out.trans (below_drewN (Below.refl _ _) _)⟩
          case measure => simp [intOf]; omega
      · obtain rfl : k = n := by omega
        have G := Lib.hid (END.out (by simp) P)
        have WH := Lib.hid hw
        clear hw ha hb P
        go_wp2
        go_ret
        exact IffB.yes G.out WH.out
  · have G := Lib.hid (LEN.out q)
    go_enter Try.func111, Try.ntmps111
    go_wp2
    go_ret
    exact IffB.no G.out (Below.refl _ _)
set_option maxRecDepth 100000 in
set_option maxHeartbeats 4000000 in
theorem equalLast (l m : List DLast) (a b : Option Addr) (c1 c2 : Nat) (w : World) {fr fr2 : Bool} {lo lo2 : Nat} (hl : l.length ≤ 2097152) (hm : m.length ≤ 2097152) (ha : Rows fr lo w a l) (hb : Rows fr2 lo2 w b m) :
    Calls Try.prog 112 #[.slice a l.length c1, .slice b m.length c2] w (IffB (l = m) w) := by
  have HL := Lib.hid (fun k (h : k < l.length) => get_lt h)
  have HM := Lib.hid (fun k (h : k < m.length) => get_lt h)
  have END := Lib.hid (@eq_end _ l m)
  have LEN := Lib.hid (show ¬ l.length = m.length → ¬ l = m from fun h e => h (by rw [e]))
  obtain ⟨n, hn⟩ : ∃ n, n = l.length := ⟨_, rfl⟩
  obtain ⟨p, hp⟩ : ∃ p, p = m.length := ⟨_, rfl⟩
  rw [← hn, ← hp] at END LEN
  rw [← hn] at hl HL ⊢
  rw [← hp] at hm HM ⊢
  clear hn hp
  by_cases q : n = p
  · subst q
    go_enter Try.func112, Try.ntmps112
    go_wp2
    go_loopw [13] (fun i wr => ∃ k : Nat, k ≤ n ∧ i = .int .i64 k ∧ (∀ j, j < k → l[j]? = m[j]?) ∧ Below w.heap.size w wr) (fun i _ => n - (intOf i).toNat)
    case atStart => exact ⟨0, by omega, rfl, fun j hj => by omega, Below.refl _ _⟩
    case round =>
      obtain ⟨k, hk, rfl, P, hw⟩ := hrel
      by_cases hlt : k < n
      · obtain ⟨x, hx⟩ := HL.out k hlt
        obtain ⟨y, hy⟩ := HM.out k hlt
        have NO := Lib.hid (ne_at hx hy)
        have YES := Lib.hid (eq_next hx hy P)
        obtain ⟨bq, hq, F⟩ := eqvLast x y
        have F := fun w => (F w).2
        have HQ := Lib.hid hq
        obtain ⟨b1, o1, cs1, rfl, -, hB1, hr1, hc1⟩ := (ha.below hw).at' hx
        obtain ⟨b2, o2, cs2, rfl, -, hB2, hr2, hc2⟩ := (hb.below hw).at' hy
        have hs1 := (shape_Last hr1).1
        have hs2 := (shape_Last hr2).1
        subst hs1
        subst hs2
        have c0 : wr.cell? ⟨b1, o1 + k * 4, none⟩ = some (.int .i64 x.client) := hc1 0 _ rfl
        have c1 : wr.cell? ⟨b1, o1 + k * 4 + 1, none⟩ = some (.int .i64 x.no) := hc1 1 _ rfl
        have c2 : wr.cell? ⟨b1, o1 + k * 4 + 2, none⟩ = some (.int .i64 x.ver.epoch) := hc1 2 _ rfl
        have c3 : wr.cell? ⟨b1, o1 + k * 4 + 3, none⟩ = some (.int .i64 x.ver.seq) := hc1 3 _ rfl
        have e0 : wr.cell? ⟨b2, o2 + k * 4, none⟩ = some (.int .i64 y.client) := hc2 0 _ rfl
        have e1 : wr.cell? ⟨b2, o2 + k * 4 + 1, none⟩ = some (.int .i64 y.no) := hc2 1 _ rfl
        have e2 : wr.cell? ⟨b2, o2 + k * 4 + 2, none⟩ = some (.int .i64 y.ver.epoch) := hc2 2 _ rfl
        have e3 : wr.cell? ⟨b2, o2 + k * 4 + 3, none⟩ = some (.int .i64 y.ver.seq) := hc2 3 _ rfl
        have WH := Lib.hid hw
        clear hw hx hy hc1 hc2 hr1 hr2 ha hb P LEN hq
        cases bq
        · have G := Lib.hid (NO.out (fun e => by have := HQ.out.2 e; cases this))
          clear NO YES HQ
          go_wp2
          go_quiet (fail)
          go_wp2
          go_ret
          exact IffB.no G.out (WH.out.trans (below_drewN (Below.refl _ _) _))
        · have G := Lib.hid (YES.out (HQ.out.1 rfl))
          clear NO YES HQ
          go_wp2
          go_quiet (fail)
          go_wp2
          go_roundw
          case rel => exact ⟨k + 1, by omega, by go_num, G.out, WH.out.trans (below_drewN (Below.refl _ _) _)⟩
          case measure => simp [intOf]; omega
      · obtain rfl : k = n := by omega
        have G := Lib.hid (END.out (by simp) P)
        have WH := Lib.hid hw
        clear hw ha hb P
        go_wp2
        go_ret
        exact IffB.yes G.out WH.out
  · have G := Lib.hid (LEN.out q)
    go_enter Try.func112, Try.ntmps112
    go_wp2
    go_ret
    exact IffB.no G.out (Below.refl _ _)
set_option maxRecDepth 100000 in
set_option maxHeartbeats 4000000 in
theorem equalEntry (l m : List DEntry) (a b : Option Addr) (c1 c2 : Nat) (w : World) {fr fr2 : Bool} {lo lo2 : Nat} (hl : l.length ≤ 2097152) (hm : m.length ≤ 2097152) (ha : Rows fr lo w a l) (hb : Rows fr2 lo2 w b m) :
    Calls Try.prog 113 #[.slice a l.length c1, .slice b m.length c2] w (IffB (l = m) w) := by
  have HL := Lib.hid (fun k (h : k < l.length) => get_lt h)
  have HM := Lib.hid (fun k (h : k < m.length) => get_lt h)
  have END := Lib.hid (@eq_end _ l m)
  have LEN := Lib.hid (show ¬ l.length = m.length → ¬ l = m from fun h e => h (by rw [e]))
  obtain ⟨n, hn⟩ : ∃ n, n = l.length := ⟨_, rfl⟩
  obtain ⟨p, hp⟩ : ∃ p, p = m.length := ⟨_, rfl⟩
  rw [← hn, ← hp] at END LEN
  rw [← hn] at hl HL ⊢
  rw [← hp] at hm HM ⊢
  clear hn hp
  by_cases q : n = p
  · subst q
    go_enter Try.func113, Try.ntmps113
    go_wp2
    go_loopw [13] (fun i wr => ∃ k : Nat, k ≤ n ∧ i = .int .i64 k ∧ (∀ j, j < k → l[j]? = m[j]?) ∧ Below w.heap.size w wr) (fun i _ => n - (intOf i).toNat)
    case atStart => exact ⟨0, by omega, rfl, fun j hj => by omega, Below.refl _ _⟩
    case round =>
      obtain ⟨k, hk, rfl, P, hw⟩ := hrel
      by_cases hlt : k < n
      · obtain ⟨x, hx⟩ := HL.out k hlt
        obtain ⟨y, hy⟩ := HM.out k hlt
        have NO := Lib.hid (ne_at hx hy)
        have YES := Lib.hid (eq_next hx hy P)
        obtain ⟨bq, hq, F⟩ := eqvEntry x y
        have F := fun w => (F w).2
        have HQ := Lib.hid hq
        obtain ⟨b1, o1, cs1, rfl, -, hB1, hr1, hc1⟩ := (ha.below hw).at' hx
        obtain ⟨b2, o2, cs2, rfl, -, hB2, hr2, hc2⟩ := (hb.below hw).at' hy
        have hs1 := (shape_Entry hr1).1
        have hs2 := (shape_Entry hr2).1
        subst hs1
        subst hs2
        have c0 : wr.cell? ⟨b1, o1 + k * 10, none⟩ = some (.int .i64 x.ver.epoch) := hc1 0 _ rfl
        have c1 : wr.cell? ⟨b1, o1 + k * 10 + 1, none⟩ = some (.int .i64 x.ver.seq) := hc1 1 _ rfl
        have c2 : wr.cell? ⟨b1, o1 + k * 10 + 2, none⟩ = some (.int .i64 x.prior.epoch) := hc1 2 _ rfl
        have c3 : wr.cell? ⟨b1, o1 + k * 10 + 3, none⟩ = some (.int .i64 x.prior.seq) := hc1 3 _ rfl
        have c4 : wr.cell? ⟨b1, o1 + k * 10 + 4, none⟩ = some (.string x.name) := hc1 4 _ rfl
        have c5 : wr.cell? ⟨b1, o1 + k * 10 + 5, none⟩ = some (.bool x.gone) := hc1 5 _ rfl
        have c6 : wr.cell? ⟨b1, o1 + k * 10 + 6, none⟩ = some (.int .i64 x.size) := hc1 6 _ rfl
        have c7 : wr.cell? ⟨b1, o1 + k * 10 + 7, none⟩ = some (.int .i64 x.sum) := hc1 7 _ rfl
        have c8 : wr.cell? ⟨b1, o1 + k * 10 + 8, none⟩ = some (.int .i64 x.req.client) := hc1 8 _ rfl
        have c9 : wr.cell? ⟨b1, o1 + k * 10 + 9, none⟩ = some (.int .i64 x.req.no) := hc1 9 _ rfl
        have e0 : wr.cell? ⟨b2, o2 + k * 10, none⟩ = some (.int .i64 y.ver.epoch) := hc2 0 _ rfl
        have e1 : wr.cell? ⟨b2, o2 + k * 10 + 1, none⟩ = some (.int .i64 y.ver.seq) := hc2 1 _ rfl
        have e2 : wr.cell? ⟨b2, o2 + k * 10 + 2, none⟩ = some (.int .i64 y.prior.epoch) := hc2 2 _ rfl
        have e3 : wr.cell? ⟨b2, o2 + k * 10 + 3, none⟩ = some (.int .i64 y.prior.seq) := hc2 3 _ rfl
        have e4 : wr.cell? ⟨b2, o2 + k * 10 + 4, none⟩ = some (.string y.name) := hc2 4 _ rfl
        have e5 : wr.cell? ⟨b2, o2 + k * 10 + 5, none⟩ = some (.bool y.gone) := hc2 5 _ rfl
        have e6 : wr.cell? ⟨b2, o2 + k * 10 + 6, none⟩ = some (.int .i64 y.size) := hc2 6 _ rfl
        have e7 : wr.cell? ⟨b2, o2 + k * 10 + 7, none⟩ = some (.int .i64 y.sum) := hc2 7 _ rfl
        have e8 : wr.cell? ⟨b2, o2 + k * 10 + 8, none⟩ = some (.int .i64 y.req.client) := hc2 8 _ rfl
        have e9 : wr.cell? ⟨b2, o2 + k * 10 + 9, none⟩ = some (.int .i64 y.req.no) := hc2 9 _ rfl
        have WH := Lib.hid hw
        clear hw hx hy hc1 hc2 hr1 hr2 ha hb P LEN hq
        cases bq
        · have G := Lib.hid (NO.out (fun e => by have := HQ.out.2 e; cases this))
          clear NO YES HQ
          go_wp2
          go_quiet (fail)
          go_wp2
          go_ret
          exact IffB.no G.out (WH.out.trans (below_drewN (Below.refl _ _) _))
        · have G := Lib.hid (YES.out (HQ.out.1 rfl))
          clear NO YES HQ
          go_wp2
          go_quiet (fail)
          go_wp2
          go_roundw
          case rel => exact ⟨k + 1, by omega, by go_num, G.out, WH.out.trans (below_drewN (Below.refl _ _) _)⟩
          case measure => simp [intOf]; omega
      · obtain rfl : k = n := by omega
        have G := Lib.hid (END.out (by simp) P)
        have WH := Lib.hid hw
        clear hw ha hb P
        go_wp2
        go_ret
        exact IffB.yes G.out WH.out
  · have G := Lib.hid (LEN.out q)
    go_enter Try.func113, Try.ntmps113
    go_wp2
    go_ret
    exact IffB.no G.out (Below.refl _ _)
set_option maxRecDepth 100000 in
set_option maxHeartbeats 4000000 in
theorem equalChunk (l m : List DChunk) (a b : Option Addr) (c1 c2 : Nat) (w : World) {fr fr2 : Bool} {lo lo2 : Nat} (hl : l.length ≤ 2097152) (hm : m.length ≤ 2097152) (ha : Rows fr lo w a l) (hb : Rows fr2 lo2 w b m) :
    Calls Try.prog 114 #[.slice a l.length c1, .slice b m.length c2] w (IffB (l = m) w) := by
  have HL := Lib.hid (fun k (h : k < l.length) => get_lt h)
  have HM := Lib.hid (fun k (h : k < m.length) => get_lt h)
  have END := Lib.hid (@eq_end _ l m)
  have LEN := Lib.hid (show ¬ l.length = m.length → ¬ l = m from fun h e => h (by rw [e]))
  obtain ⟨n, hn⟩ : ∃ n, n = l.length := ⟨_, rfl⟩
  obtain ⟨p, hp⟩ : ∃ p, p = m.length := ⟨_, rfl⟩
  rw [← hn, ← hp] at END LEN
  rw [← hn] at hl HL ⊢
  rw [← hp] at hm HM ⊢
  clear hn hp
  by_cases q : n = p
  · subst q
    go_enter Try.func114, Try.ntmps114
    go_wp2
    go_loopw [13] (fun i wr => ∃ k : Nat, k ≤ n ∧ i = .int .i64 k ∧ (∀ j, j < k → l[j]? = m[j]?) ∧ Below w.heap.size w wr) (fun i _ => n - (intOf i).toNat)
    case atStart => exact ⟨0, by omega, rfl, fun j hj => by omega, Below.refl _ _⟩
    case round =>
      obtain ⟨k, hk, rfl, P, hw⟩ := hrel
      by_cases hlt : k < n
      · obtain ⟨x, hx⟩ := HL.out k hlt
        obtain ⟨y, hy⟩ := HM.out k hlt
        have NO := Lib.hid (ne_at hx hy)
        have YES := Lib.hid (eq_next hx hy P)
        obtain ⟨bq, hq, F⟩ := eqvChunk x y
        have F := fun w => (F w).2
        have HQ := Lib.hid hq
        obtain ⟨b1, o1, cs1, rfl, -, hB1, hr1, hc1⟩ := (ha.below hw).at' hx
        obtain ⟨b2, o2, cs2, rfl, -, hB2, hr2, hc2⟩ := (hb.below hw).at' hy
        have hs1 := (shape_Chunk hr1).1
        have hs2 := (shape_Chunk hr2).1
        subst hs1
        subst hs2
        have c0 : wr.cell? ⟨b1, o1 + k * 6, none⟩ = some (.string x.name) := hc1 0 _ rfl
        have c1 : wr.cell? ⟨b1, o1 + k * 6 + 1, none⟩ = some (.int .i64 x.ver.epoch) := hc1 1 _ rfl
        have c2 : wr.cell? ⟨b1, o1 + k * 6 + 2, none⟩ = some (.int .i64 x.ver.seq) := hc1 2 _ rfl
        have c3 : wr.cell? ⟨b1, o1 + k * 6 + 3, none⟩ = some (.int .i64 x.pos) := hc1 3 _ rfl
        have c4 : wr.cell? ⟨b1, o1 + k * 6 + 4, none⟩ = some (.int .i64 x.sum) := hc1 4 _ rfl
        have c5 : wr.cell? ⟨b1, o1 + k * 6 + 5, none⟩ = some (.string x.bytes) := hc1 5 _ rfl
        have e0 : wr.cell? ⟨b2, o2 + k * 6, none⟩ = some (.string y.name) := hc2 0 _ rfl
        have e1 : wr.cell? ⟨b2, o2 + k * 6 + 1, none⟩ = some (.int .i64 y.ver.epoch) := hc2 1 _ rfl
        have e2 : wr.cell? ⟨b2, o2 + k * 6 + 2, none⟩ = some (.int .i64 y.ver.seq) := hc2 2 _ rfl
        have e3 : wr.cell? ⟨b2, o2 + k * 6 + 3, none⟩ = some (.int .i64 y.pos) := hc2 3 _ rfl
        have e4 : wr.cell? ⟨b2, o2 + k * 6 + 4, none⟩ = some (.int .i64 y.sum) := hc2 4 _ rfl
        have e5 : wr.cell? ⟨b2, o2 + k * 6 + 5, none⟩ = some (.string y.bytes) := hc2 5 _ rfl
        have WH := Lib.hid hw
        clear hw hx hy hc1 hc2 hr1 hr2 ha hb P LEN hq
        cases bq
        · have G := Lib.hid (NO.out (fun e => by have := HQ.out.2 e; cases this))
          clear NO YES HQ
          go_wp2
          go_quiet (fail)
          go_wp2
          go_ret
          exact IffB.no G.out (WH.out.trans (below_drewN (Below.refl _ _) _))
        · have G := Lib.hid (YES.out (HQ.out.1 rfl))
          clear NO YES HQ
          go_wp2
          go_quiet (fail)
          go_wp2
          go_roundw
          case rel => exact ⟨k + 1, by omega, by go_num, G.out, WH.out.trans (below_drewN (Below.refl _ _) _)⟩
          case measure => simp [intOf]; omega
      · obtain rfl : k = n := by omega
        have G := Lib.hid (END.out (by simp) P)
        have WH := Lib.hid hw
        clear hw ha hb P
        go_wp2
        go_ret
        exact IffB.yes G.out WH.out
  · have G := Lib.hid (LEN.out q)
    go_enter Try.func114, Try.ntmps114
    go_wp2
    go_ret
    exact IffB.no G.out (Below.refl _ _)
end Go.Proofs.Ytbnjgehgaellmaa.Rd
