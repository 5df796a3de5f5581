/-
  The sectors behind a loss of power, write by write.
-/
import Derived.Test.YtdieekgihdikdaaPlM
namespace Go.Proofs.Ytdieekgihdikdaa.Rd
open Go.RowKit Go.ChangeShapes Go.WideShapes Go.Proofs.Ytdieekgihdikdaa.GfI Go.Proofs.Ytdieekgihdikdaa.GfS
open Go.Proofs.Ytdieekgihdikdaa.Sg (BxN)
set_option linter.unusedVariables false
set_option linter.unusedSimpArgs false

/-- The sectors, write by write. -/
structure Run (d : DDisk) (z : List Int) (t : Int) (R : DDisk) (S : Nat → List ByteArray) : Prop where
  zero : S 0 = d.sectors
  last : S z.length = R.sectors
  none : R.waits = []
  len : ∀ j, (S j).length = d.sectors.length
  size : ∀ j s, s ∈ S j → s.size = 64
  step : ∀ j v x i s, z[j]? = some v → d.waits[v.toNat]? = some x → x.atF = ((i : Nat) : Int) → (S j)[i]? = some s → S (j + 1) = (S j).set i (if j + 1 = z.length ∧ 0 ≤ t then tornS s x.bytes t.toNat else x.bytes)
theorem flushL_snoc (l : List ByteArray) (ws : List DPending) (x : DPending) : flushL l (ws ++ [x]) = putS (flushL l ws) x := by unfold flushL; rw [List.foldl_append]; rfl
theorem run_of {d : DDisk} {z : List Int} {t : Int} {R : DDisk} (hd : DOk d) (R0 : DDisk) (hR : R = R0) (hw : R.waits = []) (hl : R.sectors.length = d.sectors.length) (hsec : ∀ s, s ∈ R.sectors → sec s = true) (h0 : z = [] → R.sectors = d.sectors)
    (hlast : ∀ j v x i s, j + 1 = z.length → z[j]? = some v → d.waits[v.toNat]? = some x → x.atF = ((i : Nat) : Int) → (flushL d.sectors (keptL d (z.take j)))[i]? = some s → R.sectors = (flushL d.sectors (keptL d (z.take j))).set i (if 0 ≤ t then tornS s x.bytes t.toNat else x.bytes)) : ∃ S, Run d z t R S := by
  refine ⟨fun j => if j = z.length then R.sectors else flushL d.sectors (keptL d (z.take j)), ?_, ?_, hw, fun j => ?_, fun j s hs => ?_, ?_⟩
  · show (if 0 = z.length then R.sectors else flushL d.sectors (keptL d (z.take 0))) = d.sectors
    by_cases e : z.length = 0
    · rw [if_pos e.symm]; exact h0 (List.length_eq_zero_iff.1 e)
    · rw [if_neg (fun q => e q.symm)]; rfl
  · exact if_pos rfl
  · show (if j = z.length then R.sectors else flushL d.sectors (keptL d (z.take j))).length = _
    by_cases e : j = z.length
    · rw [if_pos e]; exact hl
    · rw [if_neg e]; exact flushL_len _ _
  · have hs : s ∈ (if j = z.length then R.sectors else flushL d.sectors (keptL d (z.take j))) := hs
    by_cases e : j = z.length
    · rw [if_pos e] at hs; exact of_decide_eq_true (hsec s hs)
    · rw [if_neg e] at hs; exact of_decide_eq_true (kept_sec hd _ s hs)
  · intro j v x i s hz hx hi hs
    have hj := (List.getElem?_eq_some_iff.1 hz).1
    have hs : (if j = z.length then R.sectors else flushL d.sectors (keptL d (z.take j)))[i]? = some s := hs
    show (if j + 1 = z.length then R.sectors else flushL d.sectors (keptL d (z.take (j + 1)))) = (if j = z.length then R.sectors else flushL d.sectors (keptL d (z.take j))).set i _
    have jn : ¬ j = z.length := by omega
    rw [if_neg jn] at hs ⊢
    by_cases e : j + 1 = z.length
    · rw [if_pos e, hlast j v x i s e hz hx hi hs]
      congr 1
      by_cases q : 0 ≤ t
      · rw [if_pos q, if_pos ⟨e, q⟩]
      · rw [if_neg q, if_neg (fun r => q r.2)]
    · rw [if_neg e, if_neg (fun r => e r.1), keptL_succ hz hx, flushL_snoc]
      unfold putS; rw [hi, Int.toNat_natCast]
theorem run_plain {d : DDisk} {z : List Int} {t : Int} (hd : DOk d) (e : t < 0 ∨ z = []) : ∃ S, Run d z t ⟨flushL d.sectors (keptL d z), []⟩ S := by
  refine run_of hd _ rfl rfl (flushL_len _ _) (kept_sec hd z) (fun q => by subst q; rfl) (fun j v x i s ej hz hx hi hs => ?_)
  have ht : ¬ 0 ≤ t := by
    rcases e with e | e
    · omega
    · rw [e] at ej; simp at ej
  rw [if_neg ht]
  have e1 : z = z.take (j + 1) := (List.take_of_length_le (by omega)).symm
  show flushL d.sectors (keptL d z) = _
  rw [e1, keptL_succ hz hx, flushL_snoc]
  unfold putS; rw [hi, Int.toNat_natCast, ← e1]
theorem run_torn {d : DDisk} {za : List Int} {v : Int} {x : DPending} {s : ByteArray} {n i : Nat} (hd : DOk d) (hx : d.waits[v.toNat]? = some x) (hi : x.atF = ((i : Nat) : Int)) (hn : n ≤ 64) (hs : (flushL d.sectors (keptL d za))[i]? = some s) :
    ∃ S, Run d (za ++ [v]) ((n : Nat) : Int) ⟨(flushL d.sectors (keptL d za)).set i (tornS s x.bytes n), []⟩ S := by
  have s1 : s.size = 64 := of_decide_eq_true (kept_sec hd za s (List.mem_of_getElem? hs))
  have b1 : x.bytes.size = 64 := of_decide_eq_true (wait_sec (hd.2.2.2 x (List.mem_of_getElem? hx)))
  refine run_of hd _ rfl rfl (by show ((flushL d.sectors (keptL d za)).set i _).length = _; rw [List.length_set, flushL_len]) (fun y hy => ?_) (fun q => by simp at q) (fun j v' x' i' s' ej hz' hx' hi' hs' => ?_)
  · rcases List.mem_or_eq_of_mem_set hy with q | q
    · exact kept_sec hd za y q
    · rw [q]; exact decide_eq_true ((tornS_size (by omega) (by omega)).trans b1)
  · have ej : j = za.length := by simp at ej; omega
    subst ej
    have e1 : (za ++ [v]).take za.length = za := by simp
    rw [e1] at hs' ⊢
    obtain rfl : v = v' := by simpa using hz'
    obtain rfl : x = x' := by rw [hx] at hx'; simpa using hx'
    obtain rfl : i = i' := by omega
    obtain rfl : s = s' := by rw [hs] at hs'; simpa using hs'
    rw [if_pos (by omega), Int.toNat_natCast]
end Go.Proofs.Ytdieekgihdikdaa.Rd
