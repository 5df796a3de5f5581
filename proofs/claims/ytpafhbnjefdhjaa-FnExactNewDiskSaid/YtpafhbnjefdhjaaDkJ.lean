/-
  NewDisk in the program.
-/
import Derived.Test.YtpafhbnjefdhjaaDkN
import Derived.Test.YtpafhbnjefdhjaaShelfR
import Derived.Laws.CopyOwn
import Derived.Deep.RegionLaw
namespace Go.Proofs.Ytpafhbnjefdhjaa.Rd
open Go.RowKit Go.ChangeShapes Go.WideShapes Go.Proofs.Ytpafhbnjefdhjaa.GfI Go.Proofs.Ytpafhbnjefdhjaa.GfS
open Go.Proofs.Ytpafhbnjefdhjaa.Sg (BxN)
set_option linter.unusedVariables false
set_option linter.unusedSimpArgs false

/-- A row that is filled with one text up to n. -/
def rpt (k n : Nat) (s : ByteArray) : List Value := List.replicate n (.string s) ++ List.replicate (k - n) (.string ByteArray.empty)
theorem rpt_len (k n : Nat) (s : ByteArray) (h : n ≤ k) : (rpt k n s).length = k := by unfold rpt; simp; omega
theorem rpt_at (k n i : Nat) (s : ByteArray) (h : i < n) : (rpt k n s)[i]? = some (.string s) := by
  unfold rpt; rw [List.getElem?_append_left (by simpa using h), List.getElem?_replicate, if_pos h]
theorem rpt_add (k n m : Nat) (s : ByteArray) (h : n + m ≤ k) : splice (rpt k n s) n (List.replicate m (.string s)) = rpt k (n + m) s := by
  unfold splice rpt
  rw [List.take_append_of_le_length (by simp), List.take_of_length_le (by simp), List.drop_append, List.drop_of_length_le (by simp), List.drop_replicate]
  simp only [List.length_replicate, List.nil_append]
  rw [← List.append_assoc, List.replicate_append_replicate]
  congr 2
  omega
theorem made_rpt (k : Nat) (s : ByteArray) : madeCells #[.string ByteArray.empty] k = (rpt k 0 s).toArray := by
  apply Array.ext_getElem?
  intro i
  unfold rpt
  rcases Nat.lt_or_ge i k with h | h
  · simp [madeCells, h, List.getElem?_replicate, Nat.mod_one]
  · simp [madeCells, h, List.getElem?_replicate]
theorem cut_ex {n k : Nat} (h1 : 1 ≤ n) (h2 : n < k) : ∃ m, m = Nat.min n (k - n) ∧ 1 ≤ m ∧ n + m ≤ k ∧ m ≤ n := by
  have a1 : Nat.min n (k - n) ≤ n := Nat.min_le_left _ _
  have a2 : Nat.min n (k - n) ≤ k - n := Nat.min_le_right _ _
  have a3 : 1 ≤ Nat.min n (k - n) := Nat.le_min.2 ⟨h1, by omega⟩
  exact ⟨_, rfl, a3, by omega, a1⟩
theorem rpt_one {w w' : World} {g k : Nat} {s : ByteArray} (hz : s.size ≤ 9223372036854775807) (hg : w'.heap[g]? = some (.cells (rpt k k s).toArray 9 (0, 0))) (h : w.heap.size ≤ g) : One w.heap.size w'.heap.size w' (some ⟨g, 0, none⟩) (List.replicate k s) := by
  have hlt : g < w'.heap.size := by
    rcases Nat.lt_or_ge g w'.heap.size with q | q
    · exact q
    · rw [Array.getElem?_eq_none q] at hg; cases hg
  refine .inr ⟨g, rfl, .inr ⟨g, 0, rfl, h, hlt, fun _ i => ?_, fun i x hx => ?_⟩, h, hlt⟩
  · simp [World.frozen?, hg]
  · have hi := (List.getElem?_eq_some_iff.1 hx).1
    rw [List.length_replicate] at hi
    obtain rfl := List.eq_of_mem_replicate (List.mem_of_getElem? hx)
    refine ⟨[.string x], Enc.iff.2 ⟨rfl, hz⟩, fun c v hv => ?_⟩
    have hc := (List.getElem?_eq_some_iff.1 hv).1
    obtain rfl : c = 0 := by simpa using hc
    obtain rfl : Value.string x = v := by simpa using hv
    rw [cell_of_row _ _ _ _ _ _ hg, show 0 + i * Rdb.size ByteArray + 0 = i from by show 0 + i * 1 + 0 = _; omega, List.getElem?_toArray]
    exact rpt_at k k i x hi
set_option maxRecDepth 100000 in
set_option maxHeartbeats 4000000 in
theorem repeatS (b : Nat) (s : ByteArray) (k : Nat) (h1 : 1 ≤ k) (h2 : k ≤ 1200) (hz : s.size ≤ 9223372036854775807) (w : World) (hb : b < w.heap.size) (hc : w.cell? ⟨b, 0, none⟩ = some (.string s)) :
    Calls Try.prog 59 #[.slice (some ⟨b, 0, none⟩) 1 1, .int .i64 k] w (AnsL (List.replicate k s) w) := by
  have MUL := Lib.hid (show ∀ w', Calls Try.prog 90 #[.int .u64 1, .int .u64 k] w' fun e w'' => e = .returned (.tuple #[.int .u64 0, .int .u64 k]) ∧ w' = w'' from fun w' => (ShR.bits_Mul 1 k (by omega) (by omega) w').mono (fun e w'' q => by
    rw [q.1, Nat.one_mul, Nat.div_eq_of_lt (by omega), Nat.mod_eq_of_lt (by omega)]; exact ⟨rfl, q.2.symm⟩))
  have hmk : ∀ w : World, (Instr.makeSlice 22 (.int .i64 k) (.int .i64 k)).run Try.prog w = .ok (.slice (some ⟨w.heap.size, 0, none⟩) k k) (w.alloc (.cells (rpt k 0 s).toArray 9)) := fun w => by
    have := run_make_row' (P := Try.prog) 22 9 (.string ByteArray.empty) 16 Try.underlying22 infoStr rfl .i64 .i64 k (by omega) (by omega) w
    rw [made_rpt k s] at this
    exact this
  have G1 := Lib.hid (heap_alloc_new w (.cells (rpt k 0 s).toArray 9))
  have L := Lib.hid (lay w (.cells (rpt k 0 s).toArray 9))
  have wk : IntKind.u64.wrap (k : Int) = k := by rw [IntKind.wrap_u64]; omega
  have wj : IntKind.i64.wrap (k : Int) = k := by rw [IntKind.wrap_i64]; omega
  have dk : decide ((k : Int) < 0) = false := decide_eq_false (by omega)
  have dm : decide ((9223372036854775807 : Int) < (k : Int)) = false := decide_eq_false (by omega)
  have HC := Lib.hid (fun w' (h : Below w.heap.size w w') => (h.cell (p := ⟨b, 0, none⟩) hb).trans hc)
  have HS := Lib.hid (show (Try.prog.info? 9).map (·.size) = some 1 from by kernel_rfl)
  clear hc hb
  go_enter Try.func59, Try.ntmps59
  go_wp2_with fail
  refine (MUL.out _).mono ?_
  rintro e w9 ⟨rfl, rfl⟩
  have HN := Lib.hid (show [Value.string s].length = Nat.min 1 k from (Nat.min_eq_left h1).symm)
  have HP := Lib.hid (show ∃ ad, (some ⟨b, 0, none⟩ : Option Addr) = some ad ∧ ∀ j v, [Value.string s][j]? = some v → (w.alloc (.cells (rpt k 0 s).toArray 9)).cell? (ad.add j) = some v from ⟨_, rfl, fun j v hv => by
    have hj := (List.getElem?_eq_some_iff.1 hv).1
    obtain rfl : j = 0 := by simpa using hj
    obtain rfl : Value.string s = v := by simpa using hv
    exact HC.out _ L.out⟩)
  have HF := Lib.hid (show 0 + [Value.string s].length ≤ (rpt k 0 s).length from by rw [rpt_len k 0 s (by omega)]; exact h1)
  have H1 := Lib.hid (show ∀ v ∈ [Value.string s], v.oneCell' = true from fun v hv => by obtain rfl : v = .string s := by simpa using hv
                                                                                         rfl)
  have HR := Lib.hid (show splice (rpt k 0 s) 0 [Value.string s] = rpt k 1 s from rpt_add k 0 1 s (by omega))
  go_wp2_with (refine wpList_copy_splice (B := w.heap.size) (w0 := w) rfl (.tmp 31) (.tmp 32) 22 22 ?_ 9 ?_ ?_ (some ⟨w.heap.size, 0, none⟩) (some ⟨b, 0, none⟩) k k 1 1 ?_ ?_ w.heap.size 0 (rpt k 0 s) 9 ?_ [.string s] ?_ ?_ ?_ ?_ ?_ ?_ ?_; (· rfl); (· exact Try.underlying22); (· exact HS.out); (· rfl); (· rfl); (· exact G1.out); (· exact HN.out); (· exact fun _ => ⟨rfl, HP.out⟩); (· exact HF.out); (· exact H1.out); (· exact L.out); (· exact Nat.le_refl _); intro w4 g4 b4; rw [HR.out] at g4; have B4 := Lib.hid b4; clear b4)
  clear HN HP HF H1 HR G1 L
  go_loopw [8] (fun i wr => ∃ n : Nat, 1 ≤ n ∧ n ≤ k ∧ i = .int .i64 n ∧ Below w.heap.size w wr ∧ Hid (wr.heap[w.heap.size]? = some (.cells (rpt k n s).toArray 9 (0, 0)))) (fun i _ => k - (intOf i).toNat)
  case atStart => exact ⟨1, Nat.le_refl _, h1, rfl, B4.out, g4⟩
  case round =>
    obtain ⟨n, n1, n2, rfl, hB, gr⟩ := hrel
    have HB := Lib.hid hB
    clear hB B4 g4
    by_cases hlt : n < k
    · have n0 : (0 : Int) ≤ (n : Int) := by omega
      have n3 : (n : Int) ≤ (k : Int) := by omega
      have dn : decide ((n : Int) < (k : Int)) = true := decide_eq_true (by omega)
      have kn : k ≠ n := by omega
      obtain ⟨m, hm, m1, m2, m3⟩ := cut_ex n1 hlt
      have WA : IntKind.i64.wrap ((n : Int) + (m : Int)) = (n : Int) + (m : Int) := by rw [IntKind.wrap_i64]; omega
      have GD := Lib.hid (show wr.drew.heap[w.heap.size]? = some (.cells (rpt k n s).toArray 9 (0, 0)) from gr.out)
      have HN := Lib.hid (show (List.replicate m (Value.string s)).length = Nat.min n (k - n) from by rw [List.length_replicate]; exact hm)
      have HP := Lib.hid (show ∃ ad, (some ⟨w.heap.size, 0, none⟩ : Option Addr) = some ad ∧ ∀ j v, (List.replicate m (Value.string s))[j]? = some v → wr.drew.cell? (ad.add j) = some v from ⟨_, rfl, fun j v hv => by
        have hj := (List.getElem?_eq_some_iff.1 hv).1
        rw [List.length_replicate] at hj
        obtain rfl := List.eq_of_mem_replicate (List.mem_of_getElem? hv)
        have hmn : m ≤ n := m3
        rw [Addr.add_lit, Nat.zero_add, cell_of_row _ _ _ _ _ _ GD.out, List.getElem?_toArray]
        exact rpt_at k n j s (by omega)⟩)
      have HF := Lib.hid (show n + (List.replicate m (Value.string s)).length ≤ (rpt k n s).length from by rw [rpt_len k n s (by omega), List.length_replicate]; exact m2)
      have H1 := Lib.hid (show ∀ v ∈ List.replicate m (Value.string s), v.oneCell' = true from fun v hv => by rw [List.eq_of_mem_replicate hv]; rfl)
      have HR := Lib.hid (show splice (rpt k n s) n (List.replicate m (.string s)) = rpt k (n + m) s from rpt_add k n m s m2)
      have HBD := Lib.hid HB.out.drew
      clear hm
      go_wp2
      go_region_law ((refine step_copy_splice (B := w.heap.size) (w0 := w) rfl (.tmp 41) (.tmp 44) 22 22 ?_ 9 ?_ ?_ (some ⟨w.heap.size, n, none⟩) (some ⟨w.heap.size, 0, none⟩) (k - n) (k - n) n k ?_ ?_ w.heap.size n (rpt k n s) 9 ?_ (List.replicate m (.string s)) ?_ ?_ ?_ ?_ ?_ ?_ ?_; (· rfl); (· exact Try.underlying22); (· exact HS.out); (· rfl); (· rfl); (· exact GD.out); (· exact HN.out); (· exact fun _ => ⟨rfl, HP.out⟩); (· exact HF.out); (· exact H1.out); (· exact HBD.out); (· exact Nat.le_refl _); intro w4 g4 b4; rw [HR.out] at g4; rw [List.length_replicate]; have B4 := Lib.hid b4; clear b4))
      all_goals
        clear HN HP HF H1 HR GD HBD
        (try simp only [Act.put, List.getElem_toArray, List.getElem_cons_zero, List.getElem_cons_succ, List.setIfInBounds_toArray, List.set_cons_zero, List.set_cons_succ])
        (try go_wp2)
        go_roundw
        case rel => exact ⟨n + m, by omega, m2, by go_num, B4.out, g4⟩
        case measure => simp [intOf]; omega
    · obtain rfl : n = k := by omega
      have F := Lib.hid (show AnsL (List.replicate n s) w (.returned (.slice (some ⟨w.heap.size, 0, none⟩) n n)) wr from ⟨_, _, by rw [List.length_replicate], by rw [List.length_replicate]; exact Nat.le_refl _, rpt_one hz gr.out (Nat.le_refl _), HB.out⟩)
      go_wp2
      go_ret
      exact F.out
end Go.Proofs.Ytpafhbnjefdhjaa.Rd
