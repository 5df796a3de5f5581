/-
  AskOf in the model.
-/
import Derived.Test.YthimpcfodbmhkaaAskM
namespace Go.Proofs.Ythimpcfodbmhkaa.Ac
open Go.RowKit Go.Proofs.Ythimpcfodbmhkaa.GfI Go.Proofs.Ythimpcfodbmhkaa.GfS Go.Proofs.Ythimpcfodbmhkaa.MixC
open Go.Proofs.Ythimpcfodbmhkaa.Gf2 (Ib wpList_append_int)
open Go.Proofs.Ythimpcfodbmhkaa.Rd (lay chain chainX RetW Rdb rows_words rows_wf GOne AnsI AnsR gone_of_own rows_of_words DInterval shape_Interval mk_Interval)
open Go.Proofs.Ythimpcfodbmhkaa.Sg (BxN)
set_option linter.unusedVariables false
set_option linter.unusedSimpArgs false

set_option maxRecDepth 100000 in
set_option maxHeartbeats 4000000 in
theorem l13Ask (a : Option Addr) (cap : Nat) (l : List DInterval) (w : World) {fr : Bool} {lo : Nat} (hp : IvP l) (h : Rd.Rows fr lo w a l) :
    Calls Try.prog 70 #[.slice a l.length cap] w (ListR (askL l) w) := by
  have RH := Lib.hid h
  have GET := Lib.hid (fun k (h : k < l.length) => Rd.get_lt h)
  have hl := hp.len
  have IV := Lib.hid (fun k v (hk : k < l.length) (hv : l[k]? = some v) => (hp k v hk hv).2.2.1)
  have AL := Lib.hid (fun k (hk : k ≤ l.length) => askL_len hp k hk)
  have SN := Lib.hid (fun k v (hv : l[k]? = some v) => askL_snoc hv)
  have ALL := Lib.hid (show askL (l.take l.length) = askL l by rw [List.take_length])
  have LH := Lib.hid (lay w (.cells #[] 2))
  have S0 := Lib.hid (show ∃ a c, (Value.slice (some ⟨w.heap.size, 0, none⟩) 0 0) = .slice a (askL (l.take 0)).length c ∧ Words (w.alloc (.cells #[] 2)) a (askL (l.take 0)) from ⟨_, _, rfl, .inl rfl⟩)
  obtain ⟨n, hn⟩ : ∃ n, l.length = n := ⟨_, rfl⟩
  have HN := Lib.hid hn
  rw [hn] at hl GET IV AL ALL ⊢
  clear h hn hp
  go_enter Try.func70, Try.ntmps70
  go_wp2
  go_loopw [3, 4] (fun v i wr => ∃ k : Nat, k ≤ n ∧ i = .int .i64 k ∧ (∃ a c, v = .slice a (askL (l.take k)).length c ∧ Words wr a (askL (l.take k))) ∧ Below w.heap.size w wr) (fun _ i _ => n - (intOf i).toNat)
  case atStart => exact ⟨0, by omega, rfl, S0.out, LH.out⟩
  case round =>
    clear S0 LH
    obtain ⟨k, hk, rfl, ⟨a2, c2, rfl, W2⟩, hw⟩ := hrel
    have BH := Lib.hid hw
    have W2H := Lib.hid W2
    have ALk := AL.out k hk
    by_cases hlt : k < n
    · obtain ⟨v, hv⟩ := GET.out k hlt
      obtain ⟨b, off, cs, rfl, -, hB, hr, hcc⟩ := (RH.out.below hw).at' hv
      obtain ⟨a0_2, c0_2, rfl, f0_0, f0_1, f0_2, g0_2⟩ := shape_Interval hr
      have z2 : wr.cell? ⟨b, off + k * 4 + 2, none⟩ = some (.slice a0_2 v.acting.length c0_2) := hcc 2 _ rfl
      have AP := IV.out k v hlt hv
      have MB := Lib.hid (l12Members a0_2 c0_2 v.acting wr (by have := AP.1; omega) AP.2.1 (rows_words f0_2))
      have ML : (putAll [] (nodl v.acting)).length ≤ 7 := by
        have h1 := putAll_len (nodl v.acting) []; have h2 := nodl_len v.acting; have := AP.1; simp at h1; omega
      have SNk := Lib.hid (SN.out k v hv)
      clear hcc hr hv hw W2 AP f0_2 g0_2
      generalize v.acting.length = va at *
      generalize putAll [] (nodl v.acting) = ms at *
      generalize askL (l.take k) = zs at *
      go_wp2_with fail
      refine MB.out.mono ?_
      rintro e w3 ⟨a3, c3, rfl, W3, b3⟩
      have B3 := Lib.hid (chainX w BH.out b3)
      have W3H := Lib.hid W3
      have S1 := Lib.hid (show ∃ a c, (Value.slice a2 zs.length c2) = .slice a (putAll zs (ms.take 0)).length c ∧ Words w3 a (putAll zs (ms.take 0)) from ⟨a2, c2, rfl, W2H.out.below b3⟩)
      obtain ⟨m, hm⟩ : ∃ m, ms.length = m := ⟨_, rfl⟩
      have HM := Lib.hid hm
      have MA := Lib.hid (show putAll zs (ms.take ms.length) = putAll zs ms by rw [List.take_length])
      rw [hm] at ML MA ⊢
      clear b3 W3 hm MB z2
      go_wp2
      go_loopw [3, 6] (fun u i2 w4 => ∃ j : Nat, j ≤ m ∧ i2 = .int .i64 j ∧ (∃ a c, u = .slice a (putAll zs (ms.take j)).length c ∧ Words w4 a (putAll zs (ms.take j))) ∧ Below w3.heap.size w3 w4) (fun _ i2 _ => m - (intOf i2).toNat)
      case atStart => exact ⟨0, by omega, rfl, S1.out, Below.refl _ _⟩
      case round =>
        clear S1
        obtain ⟨j, hj, rfl, ⟨a5, c5, rfl, W5⟩, hw4⟩ := hrel
        have B4 := Lib.hid hw4
        have PLn : (putAll zs (ms.take j)).length ≤ 7 * k + 7 := by
          have h1 := putAll_len (ms.take j) zs; rw [List.length_take] at h1; omega
        have W5H := Lib.hid W5
        by_cases hjl : j < m
        · have jx : j < ms.length := by rw [HM.out]; exact hjl
          obtain ⟨b3, o3, rfl, _, n3⟩ := (W3H.out.below hw4).resolve_left (by intro e; rw [e] at jx; simp at jx)
          have e3 : World.cell? _ ⟨b3, o3 + j, none⟩ = some (.int .i64 (zF ms j)) := n3 j jx
          have PS := Lib.hid (show putAll zs (ms.take (j + 1)) = put (zF ms j) (putAll zs (ms.take j)) from by rw [take_snoc ms j jx, putAll_snoc]; rfl)
          have PT := Lib.hid (l00Put a5 c5 (putAll zs (ms.take j)) (zF ms j) _ (by omega) W5H.out)
          have j0 : (0 : Int) ≤ (j : Int) := by omega
          have j1 : (j : Int) < (m : Int) := by omega
          clear n3 jx hw4 W5
          generalize zF ms j = x at *
          generalize putAll zs (ms.take j) = ps at *
          go_wp2_with fail
          refine PT.out.mono ?_
          rintro e w6 ⟨a6, c6, rfl, W6, b6⟩
          have B6 := Lib.hid (chainX w3 B4.out b6)
          have S6 := Lib.hid (show ∃ a c, (Value.slice a6 (put x ps).length c6) = .slice a (putAll zs (ms.take (j + 1))).length c ∧ Words w6 a (putAll zs (ms.take (j + 1))) from ⟨a6, c6, by rw [PS.out], by rw [PS.out]; exact W6⟩)
          clear W6 b6 PS PT
          go_wp2
          go_roundw
          case rel => exact ⟨j + 1, by omega, by go_num, S6.out, B6.out⟩
          case measure => simp [intOf]; omega
        · obtain rfl : j = m := by omega
          have S6 := Lib.hid (show ∃ a c, (Value.slice a5 (putAll zs (ms.take j)).length c5) = .slice a (askL (l.take (k + 1))).length c ∧ Words _ a (askL (l.take (k + 1))) from ⟨a5, c5, by rw [SNk.out, MA.out], by rw [SNk.out, ← MA.out]; exact W5⟩)
          have B6 := Lib.hid (chainX w B3.out B4.out)
          clear W5 hw4
          generalize (putAll zs (ms.take j)).length = pl at *
          go_wp2
          go_roundw
          case rel => exact ⟨k + 1, by omega, by go_num, S6.out, B6.out⟩
          case measure => simp [intOf]; omega
    · obtain rfl : k = n := by omega
      rw [ALL.out] at W2H ⊢
      have G := Lib.hid (show ListR (askL l) w (.returned (.slice a2 (askL l).length c2)) wr from ⟨a2, c2, rfl, W2H.out, BH.out⟩)
      clear W2 hw
      generalize (askL l).length = z at *
      go_wp2
      go_ret
      exact G.out
set_option maxRecDepth 100000 in
set_option maxHeartbeats 2000000 in
theorem specAskOf (a : Option Addr) (cap : Nat) (l : List DInterval) (r : List Int) (w : World) {fr : Bool} {lo : Nat} (hl : l.length ≤ 2097152) (hs : Rdb.sz l ≤ 2097152) (h : Rd.Rows fr lo w a l) (hr : AskR l r) :
    Calls Try.prog 43 #[.slice a l.length cap] w (AnsR r w) := by
  have OK := Lib.hid (l13Ok a cap l w hl hs h)
  have wf := askL_wf (iv_wf h)
  rcases hr with ⟨hp, rfl⟩ | ⟨hp, rfl⟩
  · have OK := Lib.hid (OK.out.mono fun e w' q => (show e = .returned (.bool true) ∧ Below w.heap.size w w' from by obtain ⟨r, e1, hr, b⟩ := q; rw [hr.2 hp] at e1; exact ⟨e1, b⟩))
    have CT := Lib.hid (fun w' (b : Below w.heap.size w w') => l13Ask a cap l w' hp (h.below b))
    clear h hs
    generalize l.length = n at *
    go_enter Try.func43, Try.ntmps43
    go_wp2_with fail
    refine OK.out.mono ?_
    rintro e w1 ⟨rfl, b1⟩
    have B1 := Lib.hid b1
    clear b1
    go_wp2_with fail
    refine (CT.out _ B1.out).mono ?_
    rintro e w2 ⟨a2, c2, rfl, K2, b2⟩
    have G := Lib.hid (show AnsR (askL l) w (.returned (.slice a2 (askL l).length c2)) w2 from ⟨a2, c2, rfl, rows_of_words K2 wf, chainX w B1.out b2⟩)
    clear K2 b2
    generalize (askL l).length = m at *
    go_wp2
    go_ret
    exact G.out
  · have OK := Lib.hid (OK.out.mono fun e w' q => (show e = .returned (.bool false) ∧ Below w.heap.size w w' from by obtain ⟨r, e1, hr, b⟩ := q; cases r; exact ⟨e1, b⟩; exact absurd (hr.1 rfl) hp))
    have FIN := Lib.hid (fun (w1 : World) (b1 : Below w.heap.size w w1) => show AnsR [] w (.returned (.slice (some ⟨w1.heap.size, 0, none⟩) 0 0)) (w1.alloc (.cells #[] 2)) from ⟨_, 0, rfl, .inl rfl, chainX w b1 (lay _ _)⟩)
    clear h hs hp
    generalize l.length = n at *
    go_enter Try.func43, Try.ntmps43
    go_wp2_with fail
    refine OK.out.mono ?_
    rintro e w1 ⟨rfl, b1⟩
    have G := Lib.hid (FIN.out _ b1)
    clear b1
    go_wp2
    go_ret
    exact G.out
end Go.Proofs.Ythimpcfodbmhkaa.Ac
