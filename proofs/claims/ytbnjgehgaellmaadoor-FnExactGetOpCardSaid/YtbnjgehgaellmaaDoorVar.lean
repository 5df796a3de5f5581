/-
  The varint encoders of the program and of the model.
-/
import Derived.Test.YtbnjgehgaellmaaDoorBuf
namespace Go.Proofs.YtbnjgehgaellmaaDoor.Vr
open Go.RowKit Go.Proofs.YtbnjgehgaellmaaDoor.Bf
def Text (W0 : World) (s : ByteArray) (e : Ending) (w : World) : Prop := e = .returned (.string s) ∧ Below W0.heap.size W0 w

theorem snoc {W0 w' : World} {v' : Value} {acc : List Int} {c : Int} (h : Lib.OwnBuf W0.heap.size 5 v' (acc.length + 1) (acc.map (Value.int .u8) ++ [.int .u8 c]) W0 w') : Buf W0 w' v' (acc ++ [c]) := by
  unfold Buf; rw [List.length_append, List.map_append]; exact h

theorem fin_of {W0 w' : World} {v' : Value} {acc xs : List Int} {m : Int} (h : acc ++ [m] = xs) (hb : Buf W0 w' v' (acc ++ [m])) : Text W0 (strOfNums xs) (.returned (.string (strOfNums (acc ++ [m])))) w' := ⟨by rw [h], hb.below⟩

end Go.Proofs.YtbnjgehgaellmaaDoor.Vr
