/-
  The exact law of LastOf: the program answers as the model, and the state is left as it was. No condition.
-/
import Derived.Test.YtbckdfoapmjilaaGreatDoorGLastOf
import Derived.Test.YtbckdfoapmjilaaGreatDoorStO
namespace Go.Proofs.YtbckdfoapmjilaaGreatDoor.Rd
open Go.RowKit
theorem specStLastOf {es : List Value} (d : DPgState) (r : DVer) (w : World) (z : Rdb.sz d ≤ 1048576) (k : Rdb.rd true 0 w es d) (hr : (StP d → r = lastV d) ∧ (¬ StP d → r = ⟨0, 0⟩)) : Calls Tryz.prog 12 #[.agg es.toArray] w (RetW (.agg #[.int .i64 r.epoch, .int .i64 r.seq]) w) := by
  obtain ⟨a6, c6, a7, c7, a8, c8, a11, c11, rfl, -, -, -, -, -, -, r6, g6, r7, g7, r8, g8, -, -, r11, g11⟩ := shape_PgState k
  have hz : Rdb.sz d = Rdb.sz d.base + Rdb.sz d.clients + Rdb.sz d.log + Rdb.sz d.chunks := rfl
  have z6 := sz_len d.base
  have z7 := sz_len d.clients
  have z8 := sz_len d.log
  have z11 := sz_len d.chunks
  exact specLastOf d w (by omega) (by omega) (by omega) (by omega) g6.2 g8.2 r6 r7 r8 r11 r hr
theorem implStLastOf {es : List Value} (d : DPgState) (r : DVer) (w : World) (z : Rdb.sz d ≤ 1048576) (k : Rdb.rd true 0 w es d) (hT : Nam.Tabs w) (hr : (StP d → r = lastV d) ∧ (¬ StP d → r = ⟨0, 0⟩)) : Calls Tryz.prog 13 #[.agg es.toArray] w (RetW (.agg #[.int .i64 r.epoch, .int .i64 r.seq]) w) := by
  obtain ⟨a6, c6, a7, c7, a8, c8, a11, c11, rfl, -, -, -, -, -, -, r6, g6, r7, g7, r8, g8, -, -, r11, g11⟩ := shape_PgState k
  have hz : Rdb.sz d = Rdb.sz d.base + Rdb.sz d.clients + Rdb.sz d.log + Rdb.sz d.chunks := rfl
  have z6 := sz_len d.base
  have z7 := sz_len d.clients
  have z8 := sz_len d.log
  have z11 := sz_len d.chunks
  exact implLastOf d w (by omega) (by omega) (by omega) (by omega) g8.2 r6 r7 r8 r11 hT r hr
theorem lawLastOf (cs : List Value) (d : DPgState) (w : World) (h : Rdb.rd false 0 w cs d) (hT : Nam.Tabs w) :
    Calls Tryz.prog 4 #[.agg cs.toArray] w fun e w' => e = .returned (.bool true) ∧ Below w.heap.size w w' := by
  obtain ⟨r, hr⟩ : ∃ r : DVer, (StP d → r = lastV d) ∧ (¬ StP d → r = ⟨0, 0⟩) := by
    by_cases q : StP d
    · exact ⟨lastV d, fun _ => rfl, fun n => absurd q n⟩
    · exact ⟨⟨0, 0⟩, fun n => absurd n q, fun _ => rfl⟩
  have hp : ∀ w', Rdb.rd true 0 w' [.int .i64 r.epoch, .int .i64 r.seq] r := by
    obtain ⟨a6, c6, a7, c7, a8, c8, a11, c11, -, -, -, -, -, t4, t5, -, -, -, -, r8, -⟩ := shape_PgState h
    have hl : (Lit.int .i64 (lastV d).epoch).wf = true ∧ (Lit.int .i64 (lastV d).seq).wf = true := by
      unfold lastV
      cases hn : d.log.length with
      | zero => exact ⟨t4, t5⟩
      | succ j =>
        obtain ⟨e, he⟩ := get_lt (show j < d.log.length by omega)
        have EV : verAt d.tail d.log (j + 1) = e.ver := by
          show (match d.log[j]? with | some e => e.ver | none => d.tail) = e.ver
          rw [he]
        rw [EV]
        obtain ⟨b, off, cs, -, -, -, hr, -⟩ := r8.at' he
        obtain ⟨-, f0, f1, -⟩ := shape_Entry hr
        exact ⟨f0, f1⟩
    intro w'
    by_cases q : StP d
    · rw [hr.1 q]; exact mk_Ver hl.1 hl.2
    · rw [hr.2 q]; exact mk_Ver rfl rfl
  exact fnFnExactLastOf d r w h hp (fun z es w' _ k => specStLastOf d r w' z k hr) (fun z es w' bw k => implStLastOf d r w' z k (tabs_later hT bw) hr)
end Go.Proofs.YtbckdfoapmjilaaGreatDoor.Rd
