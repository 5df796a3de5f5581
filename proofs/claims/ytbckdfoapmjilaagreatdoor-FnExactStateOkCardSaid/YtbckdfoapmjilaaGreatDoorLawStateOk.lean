/-
  The exact law of StateOk: the program answers as the model, and the state is left as it was. No condition.
-/
import Derived.Test.YtbckdfoapmjilaaGreatDoorGStateOk
import Derived.Test.YtbckdfoapmjilaaGreatDoorStO
namespace Go.Proofs.YtbckdfoapmjilaaGreatDoor.Rd
open Go.RowKit
theorem specStStateOk {es : List Value} (d : DPgState) (w : World) (z : Rdb.sz d ≤ 1048576) (k : Rdb.rd true 0 w es d) : Calls Tryz.prog 8 #[.agg es.toArray] w (IffB (StP d) w) := by
  obtain ⟨a6, c6, a7, c7, a8, c8, a11, c11, rfl, -, -, -, -, -, -, r6, g6, r7, g7, r8, g8, -, -, r11, g11⟩ := shape_PgState k
  have hz : Rdb.sz d = Rdb.sz d.base + Rdb.sz d.clients + Rdb.sz d.log + Rdb.sz d.chunks := rfl
  have z6 := sz_len d.base
  have z7 := sz_len d.clients
  have z8 := sz_len d.log
  have z11 := sz_len d.chunks
  exact specStateOk d w (by omega) (by omega) (by omega) (by omega) g6.2 g8.2 r6 r7 r8 r11
theorem implStStateOk {es : List Value} (d : DPgState) (w : World) (z : Rdb.sz d ≤ 1048576) (k : Rdb.rd true 0 w es d) (hT : Nam.Tabs w) : Calls Tryz.prog 10 #[.agg es.toArray] w (IffB (StP d) w) := by
  obtain ⟨a6, c6, a7, c7, a8, c8, a11, c11, rfl, -, -, -, -, -, -, r6, g6, r7, g7, r8, g8, -, -, r11, g11⟩ := shape_PgState k
  have hz : Rdb.sz d = Rdb.sz d.base + Rdb.sz d.clients + Rdb.sz d.log + Rdb.sz d.chunks := rfl
  have z6 := sz_len d.base
  have z7 := sz_len d.clients
  have z8 := sz_len d.log
  have z11 := sz_len d.chunks
  exact implStateOk d w (by omega) (by omega) (by omega) (by omega) g8.2 r6 r7 r8 r11 hT
theorem lawStateOk (cs : List Value) (d : DPgState) (w : World) (h : Rdb.rd false 0 w cs d) (hT : Nam.Tabs w) :
    Calls Tryz.prog 3 #[.agg cs.toArray] w fun e w' => e = .returned (.bool true) ∧ Below w.heap.size w w' := by
  obtain ⟨b, hb⟩ := bool_of (StP d)
  exact fnFnExactStateOk d b w h (fun z es w' _ k => (specStStateOk d w' z k).mono fun _ _ q => iff_ret hb q) (fun z es w' bw k => (implStStateOk d w' z k (tabs_later hT bw)).mono fun _ _ q => iff_ret hb q)
end Go.Proofs.YtbckdfoapmjilaaGreatDoor.Rd
