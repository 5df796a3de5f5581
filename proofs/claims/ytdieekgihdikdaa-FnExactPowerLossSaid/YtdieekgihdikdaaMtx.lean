/-
  The text of a mark: what the laws write over strings.
-/
import Derived.Test.YtdieekgihdikdaaDStr
import Derived.Laws.BytesArg
import Derived.Laws.Concat
namespace Go.Proofs.Ytdieekgihdikdaa.Rd
open Go.RowKit Go.ChangeShapes Go.WideShapes
open Go.Proofs.Ytdieekgihdikdaa.Sg (BxN)
set_option linter.unusedVariables false
set_option linter.unusedSimpArgs false

/-- The decimal digits of n ahead of acc. -/
def mkDg : Nat → Nat → ByteArray → ByteArray
  | 0, _, acc => acc
  | f + 1, n, acc => if n = 0 then acc else mkDg f (n / 10) (strOfNums [((48 + n % 10 : Nat) : Int)] ++ acc)
theorem mkDg_size : ∀ (f n : Nat) (acc : ByteArray), (mkDg f n acc).size ≤ acc.size + f
  | 0, _, _ => Nat.le_refl _
  | f + 1, n, acc => by
    unfold mkDg
    split
    · omega
    · have := mkDg_size f (n / 10) (strOfNums [((48 + n % 10 : Nat) : Int)] ++ acc)
      rw [ByteArray.size_append, strOfNums_size, List.length_singleton] at this
      omega
def mTag : ByteArray := ⟨#[109]⟩
/-- The mark k, for k above 0. -/
def mkT (k : Int) : ByteArray := mTag ++ mkDg k.toNat k.toNat ByteArray.empty
theorem mkT_size {k : Int} (h : k ≤ 1000000000000) : (mkT k).size ≤ 9223372036854775807 := by
  unfold mkT
  rw [ByteArray.size_append]
  have := mkDg_size k.toNat k.toNat ByteArray.empty
  have e : ByteArray.empty.size = 0 := rfl
  have e2 : mTag.size = 1 := rfl
  omega
set_option maxRecDepth 100000 in
set_option maxHeartbeats 1000000 in
theorem markText (k : Int) (w : World) (k0 : 1 ≤ k) (k1 : k ≤ 1000000000000) : Calls Try.prog 102 #[.int .i64 k] w (RetW (.string (mkT k)) w) := by
  obtain ⟨K, rfl⟩ : ∃ K : Nat, k = (K : Int) := ⟨k.toNat, by omega⟩
  have hK : K ≤ 1000000000000 := by omega
  have d0 : decide ((K : Int) ≤ 0) = false := decide_eq_false (by omega)
  have d1 : decide (K = 0) = false := decide_eq_false (by omega)
  have d2 : ¬ K = 0 := by omega
  have E0 : mkT (K : Int) = mTag ++ mkDg K K ByteArray.empty := by unfold mkT; rw [Int.toNat_natCast]
  rw [E0]
  have SZ := Lib.hid (show (mkDg K K ByteArray.empty).size ≤ K from by have := mkDg_size K K ByteArray.empty; have e : ByteArray.empty.size = 0 := rfl; omega)
  generalize hR : mkDg K K ByteArray.empty = R at *
  have RH := Lib.hid hR
  clear hR E0 k0
  go_enter Try.func102, Try.ntmps102
  go_wp2
  go_loopw [0, 3] (fun kk out wr => ∃ (n f : Nat) (acc : ByteArray), n ≤ f ∧ kk = .int .i64 n ∧ out = .string acc ∧ mkDg f n acc = R ∧ acc.size + n ≤ K ∧ Below w.heap.size w wr) (fun kk _ _ => (intOf kk).toNat)
  case atStart => exact ⟨K, K, ByteArray.empty, Nat.le_refl _, rfl, rfl, RH.out, by show 0 + K ≤ K; omega, Below.refl _ _⟩
  case round =>
    obtain ⟨n, f, acc, hf, rfl, rfl, hm, hs, hw⟩ := hrel
    have HM := Lib.hid hm
    have HS := Lib.hid hs
    have HW := Lib.hid hw
    by_cases q : 0 < n
    · obtain ⟨g, rfl⟩ : ∃ g, f = g + 1 := ⟨f - 1, by omega⟩
      have HN := show mkDg g (n / 10) (strOfNums [((48 + n % 10 : Nat) : Int)] ++ acc) = R from by rw [← hm]; show _ = if n = 0 then acc else _; rw [if_neg (by omega)]
      have NS := show (strOfNums [((48 + n % 10 : Nat) : Int)] ++ acc).size + n / 10 ≤ K from by rw [ByteArray.size_append, strOfNums_size, List.length_singleton]; omega
      have q1 : decide ((0 : Int) < (n : Int)) = true := decide_eq_true (by omega)
      have m1 : ((n : Int).tmod 10) = ((n % 10 : Nat) : Int) := by rw [Int.tmod_eq_emod_of_nonneg (by omega)]; omega
      have m2 : (n : Int).tdiv 10 = ((n / 10 : Nat) : Int) := by rw [Int.tdiv_eq_ediv_of_nonneg (by omega)]; omega
      have r9 : n % 10 < 10 := Nat.mod_lt _ (by omega)
      have dd : n / 10 < n := Nat.div_lt_self q (by omega)
      have dg : n / 10 ≤ g := by omega
      have dk : n / 10 ≤ K := by omega
      rw [show ((48 + n % 10 : Nat) : Int) = 48 + ((n % 10 : Nat) : Int) from by omega] at HN NS
      generalize n % 10 = r at *
      generalize n / 10 = n2 at *
      have HN := Lib.hid HN
      have NS := Lib.hid NS
      have m3 : IntKind.i64.wrap (48 + (r : Int)) = 48 + (r : Int) := by rw [IntKind.wrap_i64]; omega
      have m4 : IntKind.i64.wrap (r : Int) = (r : Int) := by rw [IntKind.wrap_i64]; omega
      have m5 : IntKind.i64.wrap (n2 : Int) = (n2 : Int) := by rw [IntKind.wrap_i64]; omega
      have m6 : IntKind.u8.wrap (48 + (r : Int)) = 48 + (r : Int) := by rw [IntKind.wrap_u8]; omega
      have YN := BxN.new wr #[.int .u8 (48 + (r : Int))] 5
      have yc : ∀ i, i < 1 → (wr.alloc (.cells #[.int .u8 (48 + (r : Int))] 5)).cell? ⟨wr.heap.size, 0 + i, none⟩ = some (.int .u8 ([48 + (r : Int)].getD i 0)) := by
        intro i hi
        obtain rfl : i = 0 := by omega
        exact YN.cells 0 _ rfl
      have hcv := run_convert_bytes_arg (P := Try.prog) (wr.alloc (.cells #[.int .u8 (48 + (r : Int))] 5)) 64 5 Try.underlying64 Try.underlying5 wr.heap.size 0 1 1 [48 + (r : Int)] rfl yc 9 Try.underlying9
      have sm : ¬ (strOfNums [48 + (r : Int)]).size + acc.size > 9223372036854775807 := by rw [strOfNums_size, List.length_singleton]; omega
      have B2 := Lib.hid (chainX w hw (lay wr (.cells #[.int .u8 (48 + (r : Int))] 5)))
      clear YN hm hs hw yc
      generalize strOfNums [48 + (r : Int)] = dgt at *
      go_wp2
      go_roundw
      case rel => exact ⟨n2, g, dgt ++ acc, dg, by first | rfl | go_num, rfl, HN.out, NS.out, B2.out⟩
      case measure => simp [intOf]; omega
    · obtain rfl : n = 0 := by omega
      have E : acc = R := by rw [← hm]; cases f <;> rfl
      have sm : ¬ (ByteArray.mk #[109]).size + acc.size > 9223372036854775807 := by show ¬ 1 + acc.size > _; omega
      have F := Lib.hid (show mTag ++ acc = mTag ++ R by rw [E])
      clear hm hs hw E
      go_wp2
      go_ret
      refine ⟨?_, HW.out⟩
      rw [← F.out]; rfl
end Go.Proofs.Ytdieekgihdikdaa.Rd
