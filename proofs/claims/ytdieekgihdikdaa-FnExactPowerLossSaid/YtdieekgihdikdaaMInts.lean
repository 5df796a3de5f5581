/-
  Data of the type []int64 (marks): its reading, and the laws' helpers on it (written by tools/gen/data.py).
-/
import Derived.Test.YtdieekgihdikdaaRdI
namespace Go.Proofs.Ytdieekgihdikdaa.Rd
open Go.RowKit Go.ChangeShapes Go.WideShapes
open Go.Proofs.Ytdieekgihdikdaa.Sg (BxN)
set_option linter.unusedVariables false
set_option linter.unusedSimpArgs false

set_option maxRecDepth 100000 in
set_option maxHeartbeats 4000000 in
theorem markInt64S (a : Option Addr) (cap : Nat) (l : List Int) (k : Int) (lo : Nat) (v w : World) (hl : l.length ≤ 2097152) (k0 : 0 ≤ k) (k1 : k ≤ 1000000000000) (h : Rows true lo v a l) (hs : Shadow v.heap.size v w) (hz : v.heap.size ≤ w.heap.size) :
    Calls Try.prog 19 #[.slice a l.length cap, .int .i64 k] w (MkR lo v (k + l.length) w) := by
  obtain ⟨n, hn⟩ : ∃ n, n = l.length := ⟨_, rfl⟩
  have HN := Lib.hid hn
  rw [← hn] at hl ⊢
  clear hn
  have R0 := Lib.hid h
  have S0 := Lib.hid hs
  clear h hs
  go_enter Try.func19, Try.ntmps19
  go_wp2
  go_loopw [1, 5] (fun kk i wr => ∃ (j : Nat) (v' : World), j ≤ n ∧ i = .int .i64 j ∧ kk = .int .i64 (k + j) ∧ Stirred v v' ∧ Shadow v.heap.size v' wr ∧ Chg lo v.heap.size w wr) (fun _ i _ => n - (intOf i).toNat)
  case atStart => exact ⟨0, v, by omega, rfl, by simp, .refl _, S0.out, Chg.refl _ _ _⟩
  case round =>
    obtain ⟨j, v', hj, rfl, rfl, ST, S, C⟩ := hrel
    have ev := ST.size
    obtain ⟨l', hl0, R⟩ := R0.out.stirred ST
    have hl' := (map_len hl0).trans HN.out.symm
    have HL := Lib.hid hl'
    have EV := Lib.hid ev
    clear hl0
    by_cases hlt : j < n
    · obtain ⟨x, hx⟩ := get_lt (show j < l'.length by rw [HL.out]; exact hlt)
      obtain ⟨b, off, he, h0, hB, hf, hc⟩ := R.resolve_left (by rintro rfl; simp at hx)
      subst he
      obtain ⟨cs, hr, hcc⟩ := hc j x hx
      have RA : Rows true lo v' (some ⟨b, off, none⟩) l' := .inr ⟨b, off, rfl, h0, hB, hf, hc⟩
      have bh : b < v.heap.size := by rw [← EV.out]; exact hB
      obtain ⟨rfl, -⟩ := hr
      have q0 : v'.cell? ⟨b, off + j, none⟩ = some (.int .i64 x) := by have := hcc 0 _ rfl; rwa [show off + j * Rdb.size Int + 0 = off + j from by show off + j * 1 + 0 = _; omega] at this
      have d0 := (S.cell (p := ⟨b, off + j, none⟩) bh).trans q0
      have z0 := (S.frozen (p := ⟨b, off + j, none⟩) bh).trans (hf rfl (off + j))
      have T1 := Stirred.step ⟨b, off + j, none⟩ (u' := .int .i64 (k + (j : Nat))) ST q0 (.inl ⟨_, _, rfl, rfl, WalkArith.wf_i64 (by omega)⟩)
      have S2 := Lib.hid (S.set ⟨b, off + j, none⟩ (.int .i64 (k + (j : Nat))))
      have C2 := Lib.hid (C.trans (Chg.set wr ⟨b, off + j, none⟩ (.int .i64 (k + (j : Nat))) h0 bh))
      have TT := Lib.hid T1
      clear R S C ST T1 hl' ev hf hc hcc hx RA bh h0 hB S0 hz q0
      go_wp2
      go_roundw
      case rel => exact ⟨j + 1, _, by omega, by go_num, by go_num, TT.out, S2.out, C2.out⟩
      case measure => simp [intOf]; omega
    · obtain rfl : j = n := by omega
      have FN := Lib.hid (show MkR lo v (k + j) w (.returned (.int .i64 (k + j))) wr from ⟨v', rfl, ST, S, C⟩)
      clear R S C hl' ev ST
      go_wp2
      go_ret
      exact FN.out
def mkInt (m : Int) (i : Nat) : Int := m + (i : Nat)
set_option maxRecDepth 100000 in
set_option maxHeartbeats 4000000 in
theorem markXInt64S (q cap n : Nat) (l : List Int) (m : Int) (lo : Nat) (w : World) (hn : l.length = n) (hl : n ≤ 2097152) (k0 : 0 ≤ m) (k1 : m ≤ 1000000000000) (h : Rows true lo w (some ⟨q, 0, none⟩) l) :
    Calls Try.prog 19 #[.slice (some ⟨q, 0, none⟩) n cap, .int .i64 m] w (MkX lo q n (m + n) (mkInt m) w) := by
  have LN := Lib.hid (fun j => (mixL_len (mkInt m) l j).trans hn)
  have ALL := Lib.hid (mixL_all (mkInt m) l)
  have HN := Lib.hid hn
  have R0 := Lib.hid h
  clear h hn
  go_enter Try.func19, Try.ntmps19
  go_wp2
  go_loopw [1, 5] (fun kk i wr => ∃ j : Nat, j ≤ n ∧ i = .int .i64 j ∧ kk = .int .i64 (m + j) ∧ Rows true lo wr (some ⟨q, 0, none⟩) (mixL (mkInt m) l j) ∧ Chg q (q + 1) w wr) (fun _ i _ => n - (intOf i).toNat)
  case atStart => exact ⟨0, by omega, rfl, by simp, R0.out, Chg.refl _ _ _⟩
  case round =>
    obtain ⟨j, hj, rfl, rfl, R, C⟩ := hrel
    by_cases hlt : j < n
    · obtain ⟨x, hx⟩ := get_lt (show j < (mixL (mkInt m) l j).length by rw [LN.out]; exact hlt)
      have P := Rows.put (fun h => h) R (show j < (mixL (mkInt m) l j).length by rw [LN.out]; exact hlt) (show Rdb.rd true lo wr [.int .i64 (m + (j : Nat))] (mkInt m j) from ⟨rfl, WalkArith.wf_i64 (by show _ ≤ m + (j : Int) ∧ m + (j : Int) ≤ _; omega)⟩)
      obtain ⟨b, off, he, h0, hB, hf, hc⟩ := R.resolve_left (by intro e; rw [e] at hx; simp at hx)
      obtain ⟨rfl, rfl⟩ : q = b ∧ 0 = off := by simpa using he
      obtain ⟨cs, ⟨rfl, -⟩, hcc⟩ := hc j x hx
      have d0 : wr.cell? ⟨q, j, none⟩ = some (.int .i64 x) := by have := hcc 0 _ rfl; rwa [show 0 + j * Rdb.size Int + 0 = j from by show 0 + j * 1 + 0 = _; omega] at this
      have z0 := hf rfl j
      rw [show 0 + j * Rdb.size Int = j from by show 0 + j * 1 = _; omega] at P
      have P2 : Rows true lo (wr.setCell ⟨q, j, none⟩ (.int .i64 (m + (j : Nat)))) (some ⟨q, 0, none⟩) (mixL (mkInt m) l (j + 1)) := P
      have P2 := Lib.hid P2
      have C2 := Lib.hid (C.trans (Chg.set wr ⟨q, j, none⟩ (.int .i64 (m + (j : Nat))) (Nat.le_refl q) (Nat.lt_succ_self q)))
      clear P R C hf hc hcc hx h0 hB he R0
      go_wp2
      go_roundw
      case rel => exact ⟨j + 1, by omega, by go_num, by go_num, P2.out, C2.out⟩
      case measure => simp [intOf]; omega
    · obtain rfl : j = n := by omega
      have FN := Lib.hid (show MkX lo q j (m + j) (mkInt m) w (.returned (.int .i64 (m + j))) wr from ⟨rfl, by have := ALL.out; rw [HN.out] at this; rw [this] at R; exact R, C⟩)
      clear R C
      go_wp2
      go_ret
      exact FN.out
set_option maxRecDepth 100000 in
set_option maxHeartbeats 4000000 in
theorem heldInt64S (a : Option Addr) (cap n : Nat) (m : Int) (fr : Bool) (lo : Nat) (w : World) (hl : n ≤ 2097152) (k0 : 0 ≤ m) (k1 : m ≤ 1000000000000) (h : Rows fr lo w a ((List.range n).map (mkInt m))) :
    Calls Try.prog 73 #[.slice a n cap, .int .i64 m] w (RetW (.int .i64 (m + n)) w) := by
  have R0 := Lib.hid h
  clear h
  go_enter Try.func73, Try.ntmps73
  go_wp2
  go_loopw [1, 5] (fun kk i wr => ∃ j : Nat, j ≤ n ∧ i = .int .i64 j ∧ kk = .int .i64 (m + j) ∧ Below w.heap.size w wr) (fun _ i _ => n - (intOf i).toNat)
  case atStart => exact ⟨0, by omega, rfl, by simp, Below.refl _ _⟩
  case round =>
    obtain ⟨j, hj, rfl, rfl, hw⟩ := hrel
    have HW := Lib.hid hw
    by_cases hlt : j < n
    · have hx : ((List.range n).map (mkInt m))[j]? = some (mkInt m j) := by rw [List.getElem?_map, List.getElem?_range hlt]; rfl
      obtain ⟨b, off, cs, rfl, -, -, ⟨rfl, -⟩, hcc⟩ := (R0.out.below hw).at' hx
      have d0 : wr.cell? ⟨b, off + j, none⟩ = some (.int .i64 (m + (j : Nat))) := by have := hcc 0 _ rfl; rwa [show off + j * Rdb.size Int + 0 = off + j from by show off + j * 1 + 0 = _; omega] at this
      clear hcc hw hx
      go_wp2
      go_roundw
      case rel => exact ⟨j + 1, by omega, by go_num, by go_num, HW.out⟩
      case measure => simp [intOf]; omega
    · obtain rfl : j = n := by omega
      clear hw
      go_wp2
      go_ret
      exact ⟨rfl, HW.out⟩
end Go.Proofs.Ytdieekgihdikdaa.Rd
