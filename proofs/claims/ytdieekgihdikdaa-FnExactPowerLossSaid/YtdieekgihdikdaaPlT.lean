/-
  A block of which the first bytes are written.
-/
import Derived.Test.YtdieekgihdikdaaBlk
import Derived.Test.YtdieekgihdikdaaDkT
namespace Go.Proofs.Ytdieekgihdikdaa.Rd
open Go.RowKit Go.ChangeShapes Go.WideShapes Go.Proofs.Ytdieekgihdikdaa.GfI Go.Proofs.Ytdieekgihdikdaa.GfS
open Go.Proofs.Ytdieekgihdikdaa.Sg (BxN)
set_option linter.unusedVariables false
set_option linter.unusedSimpArgs false

/-- The first n bytes of a text over numbers. -/
def tornL (xs : List Int) (s : ByteArray) (n : Nat) : List Int := (nums s).take n ++ xs.drop n
theorem tornL_len {xs : List Int} {s : ByteArray} {n : Nat} (h : xs.length = s.size) (hn : n ≤ s.size) : (tornL xs s n).length = s.size := by
  unfold tornL; rw [List.length_append, List.length_take, List.length_drop, nums_len]; omega
/-- The first n bytes of a text copied to the head of a row. -/
theorem run_copy_cut {P : Program} (w : World) (dT sT ty elem : TypeId) (g n dCap : Nat) (s : ByteArray) (cur : Array Value) (t : TypeId)
    (hu : P.underlying dT = some (.slice elem)) (hs : (P.info? elem).map (·.size) = some 1) (hg : w.heap[g]? = some (.cells cur t (0, 0))) (hn : n ≤ s.size) (hfit : n ≤ cur.size) :
    (Builtin.copy_ #[dT, sT] ty #[.slice (some ⟨g, 0, none⟩) n dCap, .string s]).run P w =
      .ok (goInt n) (w.setRow g ((Go.Lib.byteCells s.data.toList).take n ++ cur.toList.drop n).toArray) := by
  have hlen : ((Go.Lib.byteCells s.data.toList).take n).length = n := by
    rw [List.length_take, Go.Lib.byteCells_length, ← Go.Lib.size_eq]; omega
  have hst := run_storeCells_at P g 0 t ((Go.Lib.byteCells s.data.toList).take n) 0 cur w hg (by rw [hlen]; simpa using hfit) (fun v hv => Go.Lib.byteCells_one _ v (List.mem_of_mem_take hv))
  have hmin : Nat.min s.size n = n := Nat.min_eq_right hn
  have htk : List.take n (List.map (fun b : UInt8 => Value.int IntKind.u8 (b.toNat : Int)) s.data.toList) = (Go.Lib.byteCells s.data.toList).take n := rfl
  rw [hlen] at hst
  simp only [Nat.add_zero, List.take_zero, List.nil_append, Nat.zero_add] at hst
  cases hq : P.info? elem with
  | none => simp [hq] at hs
  | some i =>
    simp [Builtin.copy_, run_underlying hu, Builtin.lenOf, Builtin.firstCells, sizeOf, typeInfo, hq, hmin]
    rw [htk, hst]
    simp [Result.andThen]
theorem wpList_copy_cut {w : World} {ops : Array Oper} {rest : List Oper} {o : Oper} {a : Act} {Q : Exit → Act → World → Prop} (hgd : o.guard = none) (d x : Operand) (dT sT elem T : TypeId) (ho : o.op = .call { callee := .builtin .copy, args := #[d, x], argTypes := #[dT, sT] })
    (hu : Try.prog.underlying dT = some (.slice elem)) (hs : (Try.prog.info? elem).map (·.size) = some 1) (b n dCap : Nat) (t : ByteArray) (xs : List Int) (hd : a.eval d = .slice (some ⟨b, 0, none⟩) n dCap) (hx : a.eval x = .string t) (hg : w.heap[b]? = some (.cells (NumA xs) T (0, 0))) (hn : n ≤ t.size) (hl : xs.length = t.size)
    (h : wpList Try.prog ops Q rest (a.put o.dst (goInt n)) (w.setRow b (NumA (tornL xs t n)))) : wpList Try.prog ops Q (o :: rest) a w := by
  refine wpList_plain hgd fun K hK => ?_
  have hrun := run_copy_cut (P := Try.prog) w dT sT o.type elem b n dCap t (NumA xs) T hu hs hg hn (by rw [NumA_size]; omega)
  have e : ((Go.Lib.byteCells t.data.toList).take n ++ (NumA xs).toList.drop n).toArray = NumA (tornL xs t n) := by
    unfold NumA tornL nums
    rw [List.map_append, List.map_take, List.map_drop, List.map_map]; rfl
  rw [e] at hrun
  unfold Oper.wp
  simp [execOp, ho, resolve, invoke, builtin, hd, hx, hrun, Result.andThen]
  exact hK _ _ h
theorem blk_torn (lit A A2 : Array Value) (w : World) : ∃ W2, ((w.alloc (.cells A 95)).alloc (.cells lit 95)).setRow w.heap.size A2 = W2 ∧
    ((w.alloc (.cells A 95)).alloc (.cells lit 95)).heap[w.heap.size]? = some (.cells A 95 (0, 0)) ∧ W2.heap[w.heap.size]? = some (.cells A2 95 (0, 0)) ∧ W2.heap[w.heap.size + 1]? = some (.cells lit 95 (0, 0)) ∧
    (W2.setRow (w.heap.size + 1) A2).heap[w.heap.size + 1]? = some (.cells A2 95 (0, 0)) ∧ Below w.heap.size w (W2.setRow (w.heap.size + 1) A2) := by
  have g1 : (w.alloc (.cells A 95)).heap[w.heap.size]? = some (.cells A 95 (0, 0)) := heap_alloc_new w _
  have g2 : ((w.alloc (.cells A 95)).alloc (.cells lit 95)).heap[w.heap.size + 1]? = some (.cells lit 95 (0, 0)) := by have := heap_alloc_new (w.alloc (.cells A 95)) (.cells lit 95); rw [World.size_alloc] at this; exact this
  have g1' : ((w.alloc (.cells A 95)).alloc (.cells lit 95)).heap[w.heap.size]? = some (.cells A 95 (0, 0)) := ((lay (w.alloc (.cells A 95)) _).block w.heap.size (by simp)).trans g1
  have L0 : Below w.heap.size w ((w.alloc (.cells A 95)).alloc (.cells lit 95)) := chain (lay w _) (lay _ _)
  have R1 : (((w.alloc (.cells A 95)).alloc (.cells lit 95)).setRow w.heap.size A2).heap[w.heap.size + 1]? = some (.cells lit 95 (0, 0)) := by rw [setRow_other _ _ _ _ (by omega)]; exact g2
  exact ⟨_, rfl, g1', setRow_heap _ _ _ _ _ _ g1', R1, setRow_heap _ _ _ _ _ _ R1, below_setRow (below_setRow L0 (Nat.le_refl _) _) (by omega) _⟩
set_option maxRecDepth 100000 in
set_option maxHeartbeats 4000000 in
theorem implTorn (xs : List Int) (hx : xs.length = 64) (s : ByteArray) (hs : s.size = 64) (n : Nat) (hn : n ≤ 64) (w : World) : Calls Try.prog 57 #[.agg (NumA xs), .string s, .int .i64 n] w (RetW (.agg (NumA (tornL xs s n))) w) := by
  have HZ := Lib.hid (show (#[.int .u8 0, .int .u8 0, .int .u8 0, .int .u8 0, .int .u8 0, .int .u8 0, .int .u8 0, .int .u8 0, .int .u8 0, .int .u8 0, .int .u8 0, .int .u8 0, .int .u8 0, .int .u8 0, .int .u8 0, .int .u8 0, .int .u8 0, .int .u8 0, .int .u8 0, .int .u8 0, .int .u8 0, .int .u8 0, .int .u8 0, .int .u8 0, .int .u8 0, .int .u8 0, .int .u8 0, .int .u8 0, .int .u8 0, .int .u8 0, .int .u8 0, .int .u8 0, .int .u8 0, .int .u8 0, .int .u8 0, .int .u8 0, .int .u8 0, .int .u8 0, .int .u8 0, .int .u8 0, .int .u8 0, .int .u8 0, .int .u8 0, .int .u8 0, .int .u8 0, .int .u8 0, .int .u8 0, .int .u8 0, .int .u8 0, .int .u8 0, .int .u8 0, .int .u8 0, .int .u8 0, .int .u8 0, .int .u8 0, .int .u8 0, .int .u8 0, .int .u8 0, .int .u8 0, .int .u8 0, .int .u8 0, .int .u8 0, .int .u8 0, .int .u8 0] : Array Value).size = 64 from rfl)
  obtain ⟨W2, hW, G1, R2, Rl, R3, L3⟩ := blk_torn #[.int .u8 0, .int .u8 0, .int .u8 0, .int .u8 0, .int .u8 0, .int .u8 0, .int .u8 0, .int .u8 0, .int .u8 0, .int .u8 0, .int .u8 0, .int .u8 0, .int .u8 0, .int .u8 0, .int .u8 0, .int .u8 0, .int .u8 0, .int .u8 0, .int .u8 0, .int .u8 0, .int .u8 0, .int .u8 0, .int .u8 0, .int .u8 0, .int .u8 0, .int .u8 0, .int .u8 0, .int .u8 0, .int .u8 0, .int .u8 0, .int .u8 0, .int .u8 0, .int .u8 0, .int .u8 0, .int .u8 0, .int .u8 0, .int .u8 0, .int .u8 0, .int .u8 0, .int .u8 0, .int .u8 0, .int .u8 0, .int .u8 0, .int .u8 0, .int .u8 0, .int .u8 0, .int .u8 0, .int .u8 0, .int .u8 0, .int .u8 0, .int .u8 0, .int .u8 0, .int .u8 0, .int .u8 0, .int .u8 0, .int .u8 0, .int .u8 0, .int .u8 0, .int .u8 0, .int .u8 0, .int .u8 0, .int .u8 0, .int .u8 0, .int .u8 0] (NumA xs) (NumA (tornL xs s n)) w
  have HW := Lib.hid hW
  have G1H := Lib.hid G1
  have R2H := Lib.hid R2
  have RlH := Lib.hid Rl
  have R3H := Lib.hid R3
  have L3H := Lib.hid L3
  have TL : (tornL xs s n).length = 64 := (tornL_len (by omega) (by omega)).trans hs
  have I2 := Lib.hid (show (Try.prog.info? 95).map (·.size) = some (NumA (tornL xs s n)).size from by rw [NumA_size, TL]; exact infoBlk)
  have I1 := Lib.hid (HZ.out.trans (show 64 = (NumA (tornL xs s n)).size from by rw [NumA_size, TL]))
  have HS := Lib.hid (show n ≤ s.size from by omega)
  have HX := Lib.hid (show xs.length = s.size from by omega)
  have ONE := Lib.hid (NumA_one (tornL xs s n))
  have n0 : (0 : Int) ≤ (n : Int) := by omega
  have n1 : (n : Int) ≤ 64 := by omega
  clear hW G1 R2 Rl R3 L3 TL hx hs
  generalize hT : NumA (tornL xs s n) = B at *
  have HT := Lib.hid hT
  clear hT
  go_enter Try.func57, Try.ntmps57
  go_wp2_with (first
    | (refine wpList_copy_cut rfl (.tmp 9) (.tmp 10) 64 9 5 95 rfl Try.underlying64 infoU8 w.heap.size n n s xs rfl rfl G1H.out HS.out HX.out ?_; rw [HT.out, HW.out])
    | (refine wpList_load_row rfl 95 (.tmp 3) rfl w.heap.size rfl 95 B (0, 0) _ R2H.out Try.underlying95 rfl I2.out ?_)
    | (refine wpList_store_row rfl 95 (.tmp 6) (.tmp 12) rfl (w.heap.size + 1) B rfl rfl 95 _ RlH.out I2.out I1.out ONE.out ?_))
  exact bodyPost_ret (v := .agg B) (results_cell_row rfl _ _ (w.heap.size + 1) 95 B (0, 0) _ rfl R3H.out Try.underlying95 rfl I2.out) rfl ⟨rfl, L3H.out⟩
end Go.Proofs.Ytdieekgihdikdaa.Rd
