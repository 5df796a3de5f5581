/-
  Names of objects: strings.TrimFunc by the name's runes leaves nothing just of the strings whose bytes are all such runes.
-/
import Derived.Shelf.GgClosure.StringsTrimFunc
import Derived.Lib.TrimUEq
namespace Go.Proofs.YtbckdfoapmjilaaGreatDoor.Nam
open Go.Lib
/-- A rune (or a byte) of a name. -/
def isN (r : Nat) : Bool := (decide (97 ≤ r) && decide (r ≤ 122)) || (decide (48 ≤ r) && decide (r ≤ 57))
theorem isN_ascii {r : Nat} (h : isN r = true) : r < 128 := by
  unfold isN at h; simp at h; omega
/-- The byte at one place. -/
def byt (s : ByteArray) (i : Nat) : Nat := (s.data.toList.getD i 0).toNat
theorem dN_ascii {n b0 b1 b2 b3 : Nat} (h : (decodeN n b0 b1 b2 b3).1 < 128) : (decodeN n b0 b1 b2 b3) = (b0, 1) := by
  by_cases q : b0 < 128
  · unfold decodeN; rw [if_pos q]
  · exfalso
    unfold decodeN at h
    rw [if_neg q] at h
    repeat' split at h
    all_goals (simp only at h; omega)
theorem dec_ascii {s : ByteArray} {pos : Nat} (h : (Utf8.decode s pos).1 < 128) : Utf8.decode s pos = (byt s pos, 1) := by
  rw [decode_N] at h ⊢; exact dN_ascii h
theorem dec_of {s : ByteArray} {pos : Nat} (h : byt s pos < 128) : Utf8.decode s pos = (byt s pos, 1) := by
  rw [decode_N]; exact decodeN_ascii _ _ _ _ _ h
theorem idx_all (s : ByteArray) : ∀ (f pos : Nat), s.size ≤ pos + f → idxFuncFrom isN false s f pos = -1 → ∀ i, pos ≤ i → i < s.size → isN (byt s i) = true
  | 0, pos, hf, _, i, h1, h2 => by omega
  | f + 1, pos, hf, h, i, h1, h2 => by
    unfold idxFuncFrom at h
    rw [if_pos (by omega)] at h
    by_cases q : isN (Utf8.decode s pos).1 = false
    · rw [if_pos q] at h; omega
    · rw [if_neg q] at h
      have q : isN (Utf8.decode s pos).1 = true := by simpa using q
      have d := dec_ascii (isN_ascii q)
      rw [d] at h q
      by_cases e : i = pos
      · rw [e]; exact q
      · exact idx_all s f (pos + 1) (by omega) h i (by omega) h2
theorem all_idx (s : ByteArray) : ∀ (f pos : Nat), (∀ i, pos ≤ i → i < s.size → isN (byt s i) = true) → idxFuncFrom isN false s f pos = -1
  | 0, pos, _ => rfl
  | f + 1, pos, h => by
    unfold idxFuncFrom
    by_cases hp : pos < s.size
    · have q := h pos (Nat.le_refl _) hp
      have d := dec_of (s := s) (pos := pos) (isN_ascii q)
      rw [if_pos hp, d, if_neg (by rw [q]; simp)]
      exact all_idx s f (pos + 1) (fun i hi => h i (by omega))
    · rw [if_neg hp]
theorem idx_stop (s : ByteArray) : ∀ (f pos k : Nat), idxFuncFrom isN false s f pos = (k : Int) → isN (Utf8.decode s k).1 = false
  | 0, pos, k, h => by simp only [idxFuncFrom] at h; omega
  | f + 1, pos, k, h => by
    unfold idxFuncFrom at h
    by_cases hp : pos < s.size
    · rw [if_pos hp] at h
      by_cases q : isN (Utf8.decode s pos).1 = false
      · rw [if_pos q] at h
        obtain rfl : pos = k := by omega
        exact q
      · rw [if_neg q] at h; exact idx_stop s f _ k h
    · rw [if_neg hp] at h; omega
theorem last_ascii {l : List UInt8} (h0 : 0 < l.length) (h : (decodeLastL l).1 < 128) : decodeLastL l = ((l.getD (l.length - 1) 0).toNat, 1) := by
  have hne : l ≠ [] := List.length_pos_iff.1 h0
  unfold decodeLastL at h ⊢
  rw [if_neg hne] at h ⊢
  by_cases q : (l.getD (l.length - 1) 0).toNat < 128
  · rw [if_pos q]
  · rw [if_neg q] at h
    exfalso
    simp only at h
    by_cases c : lastStart l + (decodeL (l.drop (lastStart l))).2 = l.length
    · rw [if_pos c] at h
      rw [decodeL_N] at h c
      have d := dN_ascii h
      rw [d] at c h
      have : lastStart l = l.length - 1 := by simp only at c; omega
      rw [getD_dropU, this] at h
      exact q h
    · rw [if_neg c] at h; exact absurd h (by decide)
theorem last_all (s : ByteArray) : ∀ (f i : Nat), i ≤ f → i ≤ s.size → lastIdxFuncFrom isN false s f i = -1 → ∀ j, j < i → isN (byt s j) = true
  | 0, i, hf, _, _, j, hj => by omega
  | f + 1, i, hf, hs, h, j, hj => by
    unfold lastIdxFuncFrom at h
    rw [if_pos (by omega)] at h
    have hl : (s.data.toList.take i).length = i := by rw [List.length_take, ← Lib.size_eq]; omega
    by_cases q : isN (decodeLastL (s.data.toList.take i)).1 = false
    · rw [if_pos q] at h; omega
    · rw [if_neg q] at h
      have q : isN (decodeLastL (s.data.toList.take i)).1 = true := by simpa using q
      have d := last_ascii (l := s.data.toList.take i) (by omega) (isN_ascii q)
      rw [d] at h q
      have e : ((s.data.toList.take i).getD ((s.data.toList.take i).length - 1) 0).toNat = byt s (i - 1) := by
        rw [hl]; unfold byt
        simp only [List.getD_eq_getElem?_getD, List.getElem?_take]
        rw [if_pos (by omega)]
      rw [e] at q
      by_cases c : j = i - 1
      · rw [c]; exact q
      · exact last_all s f (i - 1) (by omega) (by omega) h j (by omega)
theorem byt_ext (s : ByteArray) (k j : Nat) : byt (s.extract k s.size) j = if k + j < s.size then byt s (k + j) else 0 := by
  unfold byt
  rw [Lib.extract_data, List.getD_eq_getElem?_getD, List.getElem?_take, List.getElem?_drop]
  by_cases h : k + j < s.size
  · rw [if_pos (by omega), if_pos h, List.getD_eq_getElem?_getD]
  · rw [if_neg h]
    split
    · rw [List.getElem?_eq_none (by rw [← Lib.size_eq]; omega)]; rfl
    · rfl
theorem sz_ext (s : ByteArray) (k : Nat) : (s.extract k s.size).size = s.size - k := by
  rw [Lib.size_eq, Lib.extract_data, List.length_take, List.length_drop, ← Lib.size_eq]; omega
theorem sz_ext0 (s : ByteArray) (k : Nat) : (s.extract 0 k).size = min k s.size := by
  rw [Lib.size_eq, Lib.extract_data, List.length_take, List.length_drop, ← Lib.size_eq]; omega
/-- Nothing is left of a string just if all its bytes are a name's. -/
theorem trim_none (s : ByteArray) : (trimF isN s).size = 0 ↔ ∀ i, i < s.size → isN (byt s i) = true := by
  unfold trimF
  constructor
  · intro h
    rcases idxFunc_range isN false s with e | ⟨h0, h1⟩
    · exact fun i hi => idx_all s s.size 0 (by omega) e i (by omega) hi
    · exfalso
      obtain ⟨k, hk⟩ : ∃ k : Nat, idxFunc isN false s = (k : Int) := ⟨(idxFunc isN false s).toNat, by omega⟩
      have st := idx_stop s s.size 0 k hk
      have hks : k < s.size := by omega
      rw [trimLeftF, if_neg (by omega), hk] at h
      simp only [Int.toNat_natCast] at h
      unfold trimRightF at h
      rw [sz_ext0, sz_ext] at h
      have tp : (s.extract k s.size).size = s.size - k := sz_ext s k
      unfold rightEndF at h
      by_cases q : 0 ≤ lastIdxFunc isN false (s.extract k s.size)
      · rw [if_pos q] at h
        have r := lastIdxFuncFrom_range isN false (s.extract k s.size) (s.extract k s.size).size (s.extract k s.size).size
        have ex : 1 ≤ (decodeGoB ((s.extract k s.size).extract (lastIdxFunc isN false (s.extract k s.size)).toNat (s.extract k s.size).size)).2 ∨ lastIdxFunc isN false (s.extract k s.size) = (s.extract k s.size).size := by
          unfold decodeGoB
          split
          · rename_i z
            rw [sz_ext] at z
            right
            have : lastIdxFunc isN false (s.extract k s.size) ≤ (s.extract k s.size).size := by
              rcases r with r | r
              · exact absurd (show lastIdxFunc isN false (s.extract k s.size) = -1 from r) (by omega)
              · exact r.2
            omega
          · exact .inl (width_pos _ _)
        rcases ex with ex | ex <;> omega
      · have r := lastIdxFuncFrom_range isN false (s.extract k s.size) (s.extract k s.size).size (s.extract k s.size).size
        have e1 : lastIdxFunc isN false (s.extract k s.size) = -1 := by
          rcases r with r | r
          · exact r
          · exact absurd r.1 q
        have al := last_all (s.extract k s.size) _ _ (Nat.le_refl _) (Nat.le_refl _) e1 0 (by omega)
        rw [byt_ext, if_pos (by omega), Nat.add_zero] at al
        rw [dec_of (isN_ascii al)] at st
        rw [al] at st
        exact absurd st (by decide)
  · intro h
    have e : idxFunc isN false s = -1 := all_idx s s.size 0 (fun i _ hi => h i hi)
    rw [trimLeftF, if_pos e]
    unfold trimRightF
    rw [sz_ext0]
    show min _ 0 = 0
    omega
end Go.Proofs.YtbckdfoapmjilaaGreatDoor.Nam
