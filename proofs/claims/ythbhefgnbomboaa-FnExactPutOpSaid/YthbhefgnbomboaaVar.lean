/-
  The varint encoders of the program and of the model.
-/
import Derived.Test.YthbhefgnbomboaaBuf
namespace Go.Proofs.Ythbhefgnbomboaa.Vr
open Go.RowKit Go.Proofs.Ythbhefgnbomboaa.Bf
def Text (W0 : World) (s : ByteArray) (e : Ending) (w : World) : Prop := e = .returned (.string s) ∧ Below W0.heap.size W0 w

theorem snoc {W0 w' : World} {v' : Value} {acc : List Int} {c : Int} (h : Lib.OwnBuf W0.heap.size 5 v' (acc.length + 1) (acc.map (Value.int .u8) ++ [.int .u8 c]) W0 w') : Buf W0 w' v' (acc ++ [c]) := by
  unfold Buf; rw [List.length_append, List.map_append]; exact h

theorem fin_of {W0 w' : World} {v' : Value} {acc xs : List Int} {m : Int} (h : acc ++ [m] = xs) (hb : Buf W0 w' v' (acc ++ [m])) : Text W0 (strOfNums xs) (.returned (.string (strOfNums (acc ++ [m])))) w' := ⟨by rw [h], hb.below⟩

set_option maxRecDepth 100000 in
theorem l01Var (n : Int) (h0 : 0 ≤ n) (h1 : n ≤ 4611686018427387904) (w : World) :
    Calls Try.prog 73 #[.int .i64 n] w (Text w (strOfNums (encF 9 n))) := by
  obtain ⟨i0, hi, hz0, hz1, hz2⟩ := info_parts info1
  have S0 := Lib.hid (Togo.start h0 h1)
  have B0 := Buf.made w 0 #[] rfl (by omega)
  go_enter Try.func73, Try.ntmps73
  go_wp2
  go_loopw [0, 3] (fun x v wr => ∃ (m : Int) (acc : List Int), x = .int .i64 m ∧ Togo n acc m ∧ Buf w wr v acc) (fun x _ _ => (intOf x).toNat)
  case atStart => exact ⟨n, [], rfl, S0.out, B0⟩
  case round =>
    obtain ⟨m, acc, rfl, hL, hb⟩ := hrel
    clear B0 S0
    obtain ⟨m0, m1, hlen⟩ := hL.bounds
    by_cases hbig : 128 ≤ m
    · have N := Lib.hid (hL.step hbig)
      clear hL
      go_wp2_with (at_builtin; refine Lib.wpList_append_byte rfl _ _ 22 rfl w.heap.size 5 i0 Try.underlying22 hi hz0 hz1 hz2 u3 acc.length (acc.map (Value.int .u8)) rfl w wr (128 + m % 128) hb rfl (by omega) ?_; intro v' w' hb'; replace hb' := snoc hb')
      go_roundw
      case rel => exact ⟨m / 128, acc ++ [m % 128 + 128], rfl, N.out, by rw [Int.add_comm]; exact hb'⟩
      case measure => simp [intOf]; omega
    · have N := Lib.hid (hL.done (by omega))
      clear hL
      go_wp2_with (at_builtin; refine Lib.wpList_append_byte rfl _ _ 22 rfl w.heap.size 5 i0 Try.underlying22 hi hz0 hz1 hz2 u3 acc.length (acc.map (Value.int .u8)) rfl w wr m hb rfl (by omega) ?_; intro v' w' hb'; have hcv := (snoc hb').conv)
      go_ret
      exact fin_of N.out (snoc hb')
set_option maxRecDepth 100000 in
theorem implPutVar (n : Int) (h0 : 0 ≤ n) (h1 : n ≤ 4611686018427387904) (w : World) :
    Calls Try.prog 47 #[.int .i64 n] w (Text w (strOfNums (encF 9 n))) := by
  obtain ⟨i0, hi, hz0, hz1, hz2⟩ := info_parts info1
  have S0 := Lib.hid (Togo.start h0 h1)
  have B0 := Buf.made w 9 #[.int .u8 0, .int .u8 0, .int .u8 0, .int .u8 0, .int .u8 0, .int .u8 0, .int .u8 0, .int .u8 0, .int .u8 0] rfl (by omega)
  have hmk : ∀ w : World, (Instr.makeSlice 22 (.int .i64 0) (.int .i64 9)).run Try.prog w = .ok (.slice (some ⟨w.heap.size, 0, none⟩) 0 9) (w.alloc (.cells #[.int .u8 0, .int .u8 0, .int .u8 0, .int .u8 0, .int .u8 0, .int .u8 0, .int .u8 0, .int .u8 0, .int .u8 0] 5)) := fun _ => by kernel_rfl
  go_enter Try.func47, Try.ntmps47
  go_wp2
  go_loopw [0, 3] (fun x v wr => ∃ (m : Int) (acc : List Int), x = .int .i64 m ∧ Togo n acc m ∧ Buf w wr v acc) (fun x _ _ => (intOf x).toNat)
  case atStart => exact ⟨n, [], rfl, S0.out, B0⟩
  case round =>
    obtain ⟨m, acc, rfl, hL, hb⟩ := hrel
    clear B0 S0
    obtain ⟨m0, m1, hlen⟩ := hL.bounds
    by_cases hbig : 128 ≤ m
    · have N := Lib.hid (hL.step hbig)
      clear hL
      go_wp2_with (at_builtin; refine Lib.wpList_append_byte rfl _ _ 22 rfl w.heap.size 5 i0 Try.underlying22 hi hz0 hz1 hz2 u3 acc.length (acc.map (Value.int .u8)) rfl w wr (m % 128 + 128) hb rfl (by omega) ?_; intro v' w' hb'; replace hb' := snoc hb')
      go_roundw
      case rel => exact ⟨m / 128, acc ++ [m % 128 + 128], rfl, N.out, hb'⟩
      case measure => simp [intOf]; omega
    · have N := Lib.hid (hL.done (by omega))
      clear hL
      go_wp2_with (at_builtin; refine Lib.wpList_append_byte rfl _ _ 22 rfl w.heap.size 5 i0 Try.underlying22 hi hz0 hz1 hz2 u3 acc.length (acc.map (Value.int .u8)) rfl w wr m hb rfl (by omega) ?_; intro v' w' hb'; have hcv := (snoc hb').conv)
      go_ret
      exact fin_of N.out (snoc hb')
end Go.Proofs.Ythbhefgnbomboaa.Vr
