/-
  The nodes of an acting set in order, both sides.
-/
import Derived.Test.YthimpcfodbmhkaaActJ
import Derived.Test.YthimpcfodbmhkaaAns
namespace Go.Proofs.Ythimpcfodbmhkaa.Ac
open Go.RowKit Go.Proofs.Ythimpcfodbmhkaa.GfI Go.Proofs.Ythimpcfodbmhkaa.GfS Go.Proofs.Ythimpcfodbmhkaa.MixC
open Go.Proofs.Ythimpcfodbmhkaa.Gf2 (Ib wpList_append_int)
open Go.Proofs.Ythimpcfodbmhkaa.Rd (lay chain chainX RetW Rdb rows_words rows_wf GOne AnsI AnsR gone_of_own rows_of_words)
set_option linter.unusedVariables false
set_option linter.unusedSimpArgs false

def memV (l : List Int) : List Int := if ActP l then srt (nodl l) else []
theorem memV_len (l : List Int) : (memV l).length ≤ l.length := by
  unfold memV; split
  · rw [srt_len]; exact nodl_len l
  · simp
theorem wf_srt {l : List Int} (h : ∀ z, z ∈ l → (Lit.int .i64 z).wf = true) : ∀ z, z ∈ srt (nodl l) → (Lit.int .i64 z).wf = true := fun z hz => h z (mem_nodl.1 (mem_srt.1 hz)).1
set_option maxRecDepth 100000 in
set_option maxHeartbeats 2000000 in
theorem specMembersOf (a : Option Addr) (cap : Nat) (l : List Int) (w : World) {fr : Bool} {lo : Nat} (hl : l.length ≤ 2097152) (hc : l.length ≤ cap) (h : Rd.Rows fr lo w a l) :
    Calls Try.prog 25 #[.slice a l.length cap] w (AnsR (memV l) w) := by
  have OK := Lib.hid (l12Ok a cap l w hl hc (rows_words h))
  have wf := rows_wf h
  by_cases hp : ActP l
  · have OK := Lib.hid (OK.out.mono fun e w' q => (show e = .returned (.bool true) ∧ Below w.heap.size w w' from by obtain ⟨r, e1, hr, b⟩ := q; rw [hr.2 hp] at e1; exact ⟨e1, b⟩))
    have CT := Lib.hid (fun w' (b : Below w.heap.size w w') => l12Members a cap l w' (by have := hp.1; omega) hp.2.1 (rows_words (h.below b)))
    have FIN := Lib.hid (fun (a2 : Option Addr) (c2 : Nat) (w1 w2 : World) (b1 : Below w.heap.size w w1) (K : Words w2 a2 (putAll [] (nodl l))) (b2 : Below w1.heap.size w1 w2) => show AnsR (memV l) w (.returned (.slice a2 (putAll [] (nodl l)).length c2)) w2 from by
      rw [show memV l = srt (nodl l) from if_pos hp, putAll_srt hp.2.2] at *
      exact ⟨a2, c2, rfl, rows_of_words K (wf_srt wf), chainX w b1 b2⟩)
    clear h wf
    generalize l.length = n at *
    go_enter Try.func25, Try.ntmps25
    go_wp2_with fail
    refine OK.out.mono ?_
    rintro e w1 ⟨rfl, b1⟩
    have B1 := Lib.hid b1
    clear b1
    go_wp2_with fail
    refine (CT.out _ B1.out).mono ?_
    rintro e w2 ⟨a2, c2, rfl, K2, b2⟩
    have G := Lib.hid (FIN.out a2 c2 w1 w2 B1.out K2 b2)
    clear K2 b2
    generalize (putAll [] (nodl l)).length = m at *
    go_wp2
    go_ret
    exact G.out
  · have OK := Lib.hid (OK.out.mono fun e w' q => (show e = .returned (.bool false) ∧ Below w.heap.size w w' from by obtain ⟨r, e1, hr, b⟩ := q; cases r; exact ⟨e1, b⟩; exact absurd (hr.1 rfl) hp))
    have FIN := Lib.hid (fun (w1 : World) (b1 : Below w.heap.size w w1) => show AnsR (memV l) w (.returned (.slice (some ⟨w1.heap.size, 0, none⟩) 0 0)) (w1.alloc (.cells #[] 2)) from by
      rw [show memV l = [] from if_neg hp]
      exact ⟨_, 0, rfl, .inl rfl, chainX w b1 (lay _ _)⟩)
    clear h wf hp
    generalize l.length = n at *
    go_enter Try.func25, Try.ntmps25
    go_wp2_with fail
    refine OK.out.mono ?_
    rintro e w1 ⟨rfl, b1⟩
    have G := Lib.hid (FIN.out _ b1)
    clear b1
    go_wp2
    go_ret
    exact G.out
set_option maxRecDepth 100000 in
set_option maxHeartbeats 2000000 in
theorem implMembersOf (a : Option Addr) (cap : Nat) (l : List Int) (w : World) {fr : Bool} {lo : Nat} (hl : l.length ≤ 2097152) (hc : l.length ≤ cap) (h : Rd.Rows fr lo w a l) :
    Calls Try.prog 26 #[.slice a l.length cap] w (AnsI (memV l) w) := by
  have OK := Lib.hid ((implActingOk a cap l w hl hc h).mono fun _ _ q => IffB.ret q)
  have wf := rows_wf h
  by_cases hp : ActP l
  · have OK := Lib.hid (OK.out.mono fun e w' q => (show e = .returned (.bool true) ∧ Below w.heap.size w w' from by obtain ⟨r, e1, hr, b⟩ := q; rw [hr.2 hp] at e1; exact ⟨e1, b⟩))
    have CT := Lib.hid (fun w' (b : Below w.heap.size w w') => nodesOne a cap l w' (by have := hp.1; omega) hc (h.below b))
    have FIN := Lib.hid (fun (a2 : Option Addr) (c2 : Nat) (w1 w2 : World) (b1 : Below w.heap.size w w1) (J : Ib w1.heap.size w2 (.slice a2 (srt (nodl l)).length c2) (srt (nodl l))) (b2 : Below w1.heap.size w1 w2) => show AnsI (memV l) w (.returned (.slice a2 (srt (nodl l)).length c2)) w2 from by
      rw [show memV l = srt (nodl l) from if_pos hp]
      exact ⟨a2, c2, rfl, gone_of_own (Gf2.Ib.own (w0 := w) J b1.size).1 (wf_srt wf), chainX w b1 b2⟩)
    clear h wf
    generalize l.length = n at *
    go_enter Try.func26, Try.ntmps26
    go_wp2_with fail
    refine OK.out.mono ?_
    rintro e w1 ⟨rfl, b1⟩
    have B1 := Lib.hid b1
    clear b1
    go_wp2_with fail
    refine (CT.out _ B1.out).mono ?_
    rintro e w2 ⟨v2, rfl, a2, c2, rfl, -, J2, b2⟩
    have G := Lib.hid (FIN.out a2 c2 w1 w2 B1.out J2 b2)
    clear J2 b2
    generalize (srt (nodl l)).length = m at *
    go_wp2
    go_ret
    exact G.out
  · have OK := Lib.hid (OK.out.mono fun e w' q => (show e = .returned (.bool false) ∧ Below w.heap.size w w' from by obtain ⟨r, e1, hr, b⟩ := q; cases r; exact ⟨e1, b⟩; exact absurd (hr.1 rfl) hp))
    have FIN := Lib.hid (fun (w1 : World) (b1 : Below w.heap.size w w1) => show AnsI (memV l) w (.returned (.slice none 0 0)) w1 from by
      rw [show memV l = [] from if_neg hp]
      exact ⟨none, 0, rfl, .inl rfl, b1⟩)
    clear h wf hp
    generalize l.length = n at *
    go_enter Try.func26, Try.ntmps26
    go_wp2_with fail
    refine OK.out.mono ?_
    rintro e w1 ⟨rfl, b1⟩
    have G := Lib.hid (FIN.out _ b1)
    clear b1
    go_wp2
    go_ret
    exact G.out
end Go.Proofs.Ythimpcfodbmhkaa.Ac
