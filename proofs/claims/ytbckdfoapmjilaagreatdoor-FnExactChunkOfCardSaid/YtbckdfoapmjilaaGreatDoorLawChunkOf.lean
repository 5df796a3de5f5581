/-
  The exact law of ChunkOf: the program answers as the model, and the state is left as it was. No condition.
-/
import Derived.Test.YtbckdfoapmjilaaGreatDoorGChunkOf
import Derived.Test.YtbckdfoapmjilaaGreatDoorStG
import Derived.Test.YtbckdfoapmjilaaGreatDoorStH
namespace Go.Proofs.YtbckdfoapmjilaaGreatDoor.Rd
open Go.RowKit
set_option linter.unusedVariables false
theorem place_ex (l : List DChunk) (c : DChunk) : ∃ k b, PlaceC l c k b := by
  have : ∃ k, k ≤ l.length ∧ (∀ (i : Nat) (x : DChunk), i < k → l[i]? = some x → cLt x c = true) ∧ (∀ (x : DChunk), l[k]? = some x → cLt x c = false) := by
    induction l with
    | nil => exact ⟨0, Nat.le_refl _, fun i x hi => absurd hi (Nat.not_lt_zero _), fun x h => by simp at h⟩
    | cons a l ih =>
      cases q : cLt a c
      · exact ⟨0, Nat.zero_le _, fun i x hi => absurd hi (Nat.not_lt_zero _), fun x h => by simp at h; subst h; exact q⟩
      · obtain ⟨k, h1, h2, h3⟩ := ih
        refine ⟨k + 1, by simp only [List.length_cons]; omega, fun i x hi hx => ?_, fun x hx => h3 x (by simpa using hx)⟩
        cases i with
        | zero => simp at hx; subst hx; exact q
        | succ j => exact h2 j x (by omega) (by simpa using hx)
  obtain ⟨k, h1, h2, h3⟩ := this
  obtain ⟨b, hb⟩ := bool_of (∃ x, l[k]? = some x ∧ cLt x c = false ∧ cLt c x = false)
  exact ⟨k, b, h1, h2, h3, hb⟩
theorem chP_ex (d : DPgState) (nm : ByteArray) (v : DVer) (pos : Int) : ∃ q b, ChP d nm v pos q b ∧ (q = ⟨ByteArray.empty, ⟨0, 0⟩, 0, 0, ByteArray.empty⟩ ∨ ∃ k : Nat, d.chunks[k]? = some q) := by
  by_cases hs : StP d
  · obtain ⟨k, b, hp⟩ := place_ex d.chunks ⟨nm, v, pos, 0, ByteArray.empty⟩
    cases b with
    | false => exact ⟨_, false, ⟨fun _ => ⟨k, false, hp, .inr ⟨rfl, rfl, rfl⟩⟩, fun n => absurd hs n⟩, .inl rfl⟩
    | true =>
      obtain ⟨x, hx, _⟩ := hp.2.2.2.1 rfl
      exact ⟨x, true, ⟨fun _ => ⟨k, true, hp, .inl ⟨rfl, rfl, hx⟩⟩, fun n => absurd hs n⟩, .inr ⟨k, hx⟩⟩
  · exact ⟨_, false, ⟨fun n => absurd n hs, fun _ => ⟨rfl, rfl⟩⟩, .inl rfl⟩
theorem lawChunkOf (cs : List Value) (d : DPgState) (nm : ByteArray) (vs : List Value) (v : DVer) (pos : Int) (w : World) (h : Rdb.rd false 0 w cs d) (hn : nm.size ≤ maxLen) (hv : Rdb.rd false 0 w vs v) (hp : (Lit.int .i64 pos).wf = true) (hT : Nam.Tabs w) :
    Calls Tryz.prog 5 #[.agg cs.toArray, .string nm, .agg vs.toArray, .int .i64 pos] w fun e w' => e = .returned (.bool true) ∧ Below w.heap.size w w' := by
  obtain ⟨q, b, hq, hk⟩ := chP_ex d nm v pos
  have F : q.name.size ≤ 9223372036854775807 ∧ (Lit.int .i64 q.ver.epoch).wf = true ∧ (Lit.int .i64 q.ver.seq).wf = true ∧ (Lit.int .i64 q.pos).wf = true ∧ (Lit.int .i64 q.sum).wf = true ∧ q.bytes.size ≤ 9223372036854775807 := by
    rcases hk with rfl | ⟨k, hk⟩
    · exact ⟨by decide, rfl, rfl, rfl, rfl, by decide⟩
    · obtain ⟨a6, c6, a7, c7, a8, c8, a11, c11, -, -, -, -, -, -, -, -, -, -, -, -, -, -, -, r11, -⟩ := shape_PgState h
      obtain ⟨_, _, cs', _, _, _, hr, _⟩ := r11.at' hk
      exact (shape_Chunk hr).2
  have Z : Rdb.sz d ≤ 1048576 → Rdb.sz q ≤ 2097152 := fun z => by
    rcases hk with rfl | ⟨k, hk⟩
    · show (ByteArray.empty.size + ByteArray.empty.size : Nat) ≤ _
      decide
    · have h1 := sz_mem hk
      have h2 : Rdb.sz d = Rdb.sz d.base + Rdb.sz d.clients + Rdb.sz d.log + Rdb.sz d.chunks := rfl
      omega
  refine fnChunkOf d nm v pos q b w h hv (fun w' => mk_Chunk F.1 F.2.1 F.2.2.1 F.2.2.2.1 F.2.2.2.2.1 F.2.2.2.2.2) Z (fun z es w' _ k => ?_) (fun z es w' bw k => ?_)
  · obtain ⟨a6, c6, a7, c7, a8, c8, a11, c11, rfl, -, -, -, -, -, -, r6, g6, r7, g7, r8, g8, -, -, r11, g11⟩ := shape_PgState k
    have hz : Rdb.sz d = Rdb.sz d.base + Rdb.sz d.clients + Rdb.sz d.log + Rdb.sz d.chunks := rfl
    have z6 := sz_len d.base
    have z7 := sz_len d.clients
    have z8 := sz_len d.log
    have z11 := sz_len d.chunks
    exact specChunkOf d nm v pos w' (by omega) (by omega) (by omega) (by omega) g6.2 g8.2 r6 r7 r8 r11 q b hq
  · obtain ⟨a6, c6, a7, c7, a8, c8, a11, c11, rfl, -, -, -, -, -, -, r6, g6, r7, g7, r8, g8, -, -, r11, g11⟩ := shape_PgState k
    have hz : Rdb.sz d = Rdb.sz d.base + Rdb.sz d.clients + Rdb.sz d.log + Rdb.sz d.chunks := rfl
    have z6 := sz_len d.base
    have z7 := sz_len d.clients
    have z8 := sz_len d.log
    have z11 := sz_len d.chunks
    exact implChunkOf d nm v pos w' (by omega) (by omega) (by omega) (by omega) g8.2 r6 r7 r8 r11 (tabs_later hT bw) q b hq
end Go.Proofs.YtbckdfoapmjilaaGreatDoor.Rd
