/-
  Answers that are lists of intervals: in memory of the call's own, and what marking them leaves.
-/
import Derived.Test.YthimpcfodbmhkaaMarkW
namespace Go.Proofs.Ythimpcfodbmhkaa.Rd
open Go.RowKit Go.ChangeShapes Go.WideShapes
set_option linter.unusedVariables false
set_option linter.unusedSimpArgs false

def AnsV (l : List DInterval) (w : World) (e : Ending) (w' : World) : Prop := ∃ a cap, e = .returned (.slice a l.length cap) ∧ OwnV w.heap.size w' (.slice a l.length cap) l ∧ Below w.heap.size w w'
theorem OwnV.high {lo lo' hi : Nat} {w w' : World} {v : Value} {ds : List DInterval} (h : OwnV lo w v ds) (hh : hi ≤ lo) (c : Chg lo' hi w w') : OwnV lo w' v ds := by
  obtain ⟨Q, h1, h2, h3, h4⟩ := h
  refine ⟨Q, h1, ⟨h2.1, h2.2.imp id ?_⟩, fun i d p hd hp => ?_, h4⟩
  · rintro ⟨g, cap, cur, e, hg, hb, r⟩
    refine ⟨g, cap, cur, e, hg, ?_, r⟩
    rw [c.block g (.inr (Nat.le_trans hh hg)) (Array.getElem?_eq_some_iff.1 hb).1]; exact hb
  · have e := h3 i d p hd hp
    exact ⟨e.low, Nat.lt_of_lt_of_le e.lt c.size, e.ne, e.cap, e.small, e.wf0, e.wf1, rows_blk (c.block p.1 (.inr (Nat.le_trans hh e.low)) e.lt) c.size e.rows⟩
theorem markV1 (a : Option Addr) (cap : Nat) (l : List DInterval) (mm : Int) (hm : mm = mkE 1 l) (lo : Nat) (w : World) (hs : Rdb.sz l ≤ 2097152) (h : OwnV lo w (.slice a l.length cap) l) :
    Calls Try.prog 37 #[.slice a l.length cap, .int .i64 1] w (fun e w' => e = .returned (.int .i64 mm) ∧ Rows true lo w' a (mkL 1 l) ∧ Chg lo w.heap.size w w') := by
  rw [hm]
  refine (markIntervalX a cap l lo w hs h).mono ?_
  rintro e w' ⟨rfl, V, c⟩
  exact ⟨rfl, (OwnV.rows V).2, c⟩
theorem heldV1 (a : Option Addr) (cap : Nat) (l : List DInterval) (mm : Int) (hm : mm = mkE 1 l) (lo : Nat) (w : World) (hs : Rdb.sz l ≤ 2097152) (h : Rows true lo w a (mkL 1 l)) :
    Calls Try.prog 42 #[.slice a l.length cap, .int .i64 1] w (RetW (.int .i64 mm) w) := by
  rw [hm]; exact heldIntervalX a cap l true lo w hs h
theorem ansV_of {l : List DInterval} {w : World} {e : Ending} {w' : World} (h : ∃ v, e = .returned v ∧ OwnV w.heap.size w' v l ∧ Below w.heap.size w w') : AnsV l w e w' := by
  obtain ⟨v, rfl, V, b⟩ := h
  obtain ⟨a, c, rfl⟩ := OwnV.shape V
  exact ⟨a, c, rfl, V, b⟩
end Go.Proofs.Ythimpcfodbmhkaa.Rd
