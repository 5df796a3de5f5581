/-
  Sectors as arrays of bytes.
-/
import Derived.Test.YtdieekgihdikdaaDkM
import Derived.Laws.Rows
import Derived.Laws.CopyOwn
import Derived.Lib.BufferWrite
import Derived.Laws.BytesArg
namespace Go.Proofs.Ytdieekgihdikdaa.Rd
open Go.RowKit Go.ChangeShapes Go.WideShapes Go.Proofs.Ytdieekgihdikdaa.GfI Go.Proofs.Ytdieekgihdikdaa.GfS
open Go.Proofs.Ytdieekgihdikdaa.Sg (BxN)
set_option linter.unusedVariables false
set_option linter.unusedSimpArgs false

/-- The bytes of a string, as numbers; numbers as an array's cells. -/
def nums (s : ByteArray) : List Int := s.data.toList.map fun x => (x.toNat : Int)
theorem nums_len (s : ByteArray) : (nums s).length = s.size := by unfold nums; rw [List.length_map]; rfl
theorem nums_str (s : ByteArray) : strOfNums (nums s) = s := by
  unfold strOfNums nums
  rw [List.map_map]
  have : (s.data.toList.map ((fun n : Int => UInt8.ofNat n.toNat) ∘ fun x : UInt8 => (x.toNat : Int))) = s.data.toList := by
    rw [show ((fun n : Int => UInt8.ofNat n.toNat) ∘ fun x : UInt8 => (x.toNat : Int)) = id from funext fun x => by simp]
    exact List.map_id _
  rw [this]
def NumA (xs : List Int) : Array Value := (xs.map (Value.int .u8)).toArray
def ByA (s : ByteArray) : Array Value := NumA (nums s)
theorem NumA_size (xs : List Int) : (NumA xs).size = xs.length := by unfold NumA; rw [List.size_toArray, List.length_map]
theorem ByA_size {s : ByteArray} (h : s.size = 64) : (ByA s).size = 64 := by unfold ByA; rw [NumA_size, nums_len, h]
theorem NumA_one (xs : List Int) : (NumA xs).all (·.oneCell') = true := by
  unfold NumA
  rw [Array.all_eq_true_iff_forall_mem]
  intro v hv
  obtain ⟨x, _, rfl⟩ := List.mem_map.1 (by simpa using hv : v ∈ xs.map (Value.int .u8))
  rfl
theorem ByA_one (s : ByteArray) : (ByA s).all (·.oneCell') = true := NumA_one _
theorem infoBlk : (Try.prog.info? 95).map (·.size) = some 64 := by kernel_rfl
theorem infoU8 : (Try.prog.info? 5).map (·.size) = some 1 := by kernel_rfl
/-- Block b is an array of the bytes of s. -/
def RowB (w : World) (b : Nat) (s : ByteArray) : Prop := w.heap[b]? = some (.cells (ByA s) 95 (0, 0))
theorem RowB.later {w w' : World} {b : Nat} {s : ByteArray} (h : RowB w b s) (hb : b < w.heap.size) (k : Below w.heap.size w w') : RowB w' b s := (k.block b hb).trans h
/-- A whole sector copied into a row of as many bytes. -/
theorem wpList_copy_sec {w : World} {ops : Array Oper} {rest : List Oper} {o : Oper} {a : Act} {Q : Exit → Act → World → Prop} (hgd : o.guard = none) (d x : Operand) (dT sT elem T : TypeId) (ho : o.op = .call { callee := .builtin .copy, args := #[d, x], argTypes := #[dT, sT] })
    (hu : Try.prog.underlying dT = some (.slice elem)) (hs : (Try.prog.info? elem).map (·.size) = some 1) (b dCap : Nat) (t : ByteArray) (ht : t.size = 64) (hd : a.eval d = .slice (some ⟨b, 0, none⟩) 64 dCap) (hx : a.eval x = .string t) (cur : Array Value) (hc : cur.size = 64) (hg : w.heap[b]? = some (.cells cur T (0, 0)))
    (h : wpList Try.prog ops Q rest (a.put o.dst (goInt t.size)) (w.setRow b (ByA t))) : wpList Try.prog ops Q (o :: rest) a w := by
  refine wpList_plain hgd fun K hK => ?_
  have hrun := Go.Lib.run_copy_row_string (P := Try.prog) w dT sT o.type elem b 0 64 dCap t cur T hu hs hg (by omega) (by omega)
  have e : (cur.toList.take 0 ++ Go.Lib.byteCells t.data.toList ++ cur.toList.drop (0 + t.size)).toArray = ByA t := by
    rw [List.take_zero, List.nil_append, List.drop_of_length_le (by rw [Array.length_toList]; omega), List.append_nil]
    unfold ByA NumA nums
    rw [List.map_map]; rfl
  rw [e] at hrun
  unfold Oper.wp
  simp [execOp, ho, resolve, invoke, builtin, hd, hx, hrun, Result.andThen]
  exact hK _ _ h
theorem blk_two (lit : Array Value) (hsz : lit.size = 64) (s : ByteArray) (w : World) : ∃ W2, ((w.alloc (.cells lit 95)).alloc (.cells lit 95)).setRow (w.heap.size + 1) (ByA s) = W2 ∧
    ((w.alloc (.cells lit 95)).alloc (.cells lit 95)).heap[w.heap.size + 1]? = some (.cells lit 95 (0, 0)) ∧ RowB W2 (w.heap.size + 1) s ∧ W2.heap[w.heap.size]? = some (.cells lit 95 (0, 0)) ∧ RowB (W2.setRow w.heap.size (ByA s)) w.heap.size s ∧ Below w.heap.size w (W2.setRow w.heap.size (ByA s)) := by
  have g1 : (w.alloc (.cells lit 95)).heap[w.heap.size]? = some (.cells lit 95 (0, 0)) := heap_alloc_new w _
  have g2 : ((w.alloc (.cells lit 95)).alloc (.cells lit 95)).heap[w.heap.size + 1]? = some (.cells lit 95 (0, 0)) := by have := heap_alloc_new (w.alloc (.cells lit 95)) (.cells lit 95); rw [World.size_alloc] at this; exact this
  have g1' : ((w.alloc (.cells lit 95)).alloc (.cells lit 95)).heap[w.heap.size]? = some (.cells lit 95 (0, 0)) := ((lay (w.alloc (.cells lit 95)) _).block w.heap.size (by simp)).trans g1
  have L0 : Below w.heap.size w ((w.alloc (.cells lit 95)).alloc (.cells lit 95)) := chain (lay w _) (lay _ _)
  have R1 : (((w.alloc (.cells lit 95)).alloc (.cells lit 95)).setRow (w.heap.size + 1) (ByA s)).heap[w.heap.size]? = some (.cells lit 95 (0, 0)) := by rw [setRow_other _ _ _ _ (by omega)]; exact g1'
  exact ⟨_, rfl, g2, setRow_heap _ _ _ _ _ _ g2, R1, setRow_heap _ _ _ _ _ _ R1, below_setRow (below_setRow L0 (by omega) _) (Nat.le_refl _) _⟩
set_option maxRecDepth 100000 in
set_option maxHeartbeats 4000000 in
theorem implBlockOf (s : ByteArray) (hs : s.size = 64) (w : World) : Calls Try.prog 56 #[.string s] w (RetW (.agg (ByA s)) w) := by
  have HZ := Lib.hid (show (#[.int .u8 0, .int .u8 0, .int .u8 0, .int .u8 0, .int .u8 0, .int .u8 0, .int .u8 0, .int .u8 0, .int .u8 0, .int .u8 0, .int .u8 0, .int .u8 0, .int .u8 0, .int .u8 0, .int .u8 0, .int .u8 0, .int .u8 0, .int .u8 0, .int .u8 0, .int .u8 0, .int .u8 0, .int .u8 0, .int .u8 0, .int .u8 0, .int .u8 0, .int .u8 0, .int .u8 0, .int .u8 0, .int .u8 0, .int .u8 0, .int .u8 0, .int .u8 0, .int .u8 0, .int .u8 0, .int .u8 0, .int .u8 0, .int .u8 0, .int .u8 0, .int .u8 0, .int .u8 0, .int .u8 0, .int .u8 0, .int .u8 0, .int .u8 0, .int .u8 0, .int .u8 0, .int .u8 0, .int .u8 0, .int .u8 0, .int .u8 0, .int .u8 0, .int .u8 0, .int .u8 0, .int .u8 0, .int .u8 0, .int .u8 0, .int .u8 0, .int .u8 0, .int .u8 0, .int .u8 0, .int .u8 0, .int .u8 0, .int .u8 0, .int .u8 0] : Array Value).size = 64 from rfl)
  obtain ⟨W2, hW, G2, R2, R1, R3, L3⟩ := blk_two #[.int .u8 0, .int .u8 0, .int .u8 0, .int .u8 0, .int .u8 0, .int .u8 0, .int .u8 0, .int .u8 0, .int .u8 0, .int .u8 0, .int .u8 0, .int .u8 0, .int .u8 0, .int .u8 0, .int .u8 0, .int .u8 0, .int .u8 0, .int .u8 0, .int .u8 0, .int .u8 0, .int .u8 0, .int .u8 0, .int .u8 0, .int .u8 0, .int .u8 0, .int .u8 0, .int .u8 0, .int .u8 0, .int .u8 0, .int .u8 0, .int .u8 0, .int .u8 0, .int .u8 0, .int .u8 0, .int .u8 0, .int .u8 0, .int .u8 0, .int .u8 0, .int .u8 0, .int .u8 0, .int .u8 0, .int .u8 0, .int .u8 0, .int .u8 0, .int .u8 0, .int .u8 0, .int .u8 0, .int .u8 0, .int .u8 0, .int .u8 0, .int .u8 0, .int .u8 0, .int .u8 0, .int .u8 0, .int .u8 0, .int .u8 0, .int .u8 0, .int .u8 0, .int .u8 0, .int .u8 0, .int .u8 0, .int .u8 0, .int .u8 0, .int .u8 0] rfl s w
  have R1 := Lib.hid R1
  have R2 := Lib.hid R2
  have R3H := Lib.hid R3
  have L3H := Lib.hid L3
  have G2H := Lib.hid G2
  have HW := Lib.hid hW
  have HS := Lib.hid hs
  clear hW hs G2 R3 L3
  go_enter Try.func56, Try.ntmps56
  go_wp2_with (first
    | (refine wpList_copy_sec rfl (.tmp 4) (.tmp 5) 64 9 5 95 rfl Try.underlying64 infoU8 (w.heap.size + 1) 64 s HS.out rfl rfl _ HZ.out G2H.out ?_; rw [HW.out])
    | (refine wpList_load_row rfl 95 (.tmp 3) rfl (w.heap.size + 1) rfl 95 (ByA s) (0, 0) _ R2.out Try.underlying95 rfl (by rw [ByA_size HS.out]; exact infoBlk) ?_)
    | (refine wpList_store_row rfl 95 (.tmp 2) (.tmp 7) rfl w.heap.size (ByA s) rfl rfl 95 _ R1.out (by rw [ByA_size HS.out]; exact infoBlk) (by rw [ByA_size HS.out]; rfl) (ByA_one s) ?_))
  exact bodyPost_ret (v := .agg (ByA s)) (results_cell_row rfl _ _ w.heap.size 95 (ByA s) (0, 0) _ rfl R3H.out Try.underlying95 rfl (by rw [ByA_size HS.out]; exact infoBlk)) rfl ⟨rfl, L3H.out⟩
set_option maxRecDepth 100000 in
set_option maxHeartbeats 4000000 in
theorem implText (xs : List Int) (hl : xs.length = 64) (w : World) : Calls Try.prog 58 #[.agg (NumA xs)] w (RetW (.string (strOfNums xs)) w) := by
  have g1 : (w.alloc (.cells (NumA xs) 95)).heap[w.heap.size]? = some (.cells (NumA xs) 95 (0, 0)) := heap_alloc_new w _
  have hcv := run_convert_bytes_arg (P := Try.prog) (w.alloc (.cells (NumA xs) 95)) 64 5 Try.underlying64 Try.underlying5 w.heap.size 0 64 64 xs hl (fun i hi => by
    rw [Nat.zero_add, cell_of_row _ _ _ _ _ _ g1]
    unfold NumA
    rw [List.getElem?_toArray, List.getElem?_map, List.getElem?_eq_getElem (by omega), List.getD_eq_getElem?_getD, List.getElem?_eq_getElem (by omega)]; rfl) 9 Try.underlying9
  have L := Lib.hid (lay w (.cells (NumA xs) 95))
  clear g1 hl
  generalize strOfNums xs = t at *
  generalize NumA xs = A at *
  go_enter Try.func58, Try.ntmps58
  go_wp2
  go_ret
  exact ⟨rfl, L.out⟩
end Go.Proofs.Ytdieekgihdikdaa.Rd
