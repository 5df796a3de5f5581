/-
  An entry put among heads, in the model (written by tools/gen/stp.py).
-/
import Derived.Test.YtbckdfoapmjilaaGreatDoorStM
import Derived.Test.YtbckdfoapmjilaaGreatDoorOwnH
import Derived.Test.YtbckdfoapmjilaaGreatDoorRs
import Derived.Deep.DeepCutAuto
import Derived.Deep.RegionHeld3
namespace Go.Proofs.YtbckdfoapmjilaaGreatDoor.Rd
open Go.RowKit Go.ChangeShapes Go.WideShapes Go.Proofs.YtbckdfoapmjilaaGreatDoor.GfI Go.Proofs.YtbckdfoapmjilaaGreatDoor.GfS
open Go.Proofs.YtbckdfoapmjilaaGreatDoor.Sg (BxN)
set_option linter.unusedVariables false
set_option linter.unusedSimpArgs false

theorem sl_len {v : Value} {al : Option Addr} {n m c : Nat} (h : v = .slice al n c) (e : m = n) : v = .slice al m c := by rw [e]; exact h
theorem bxGrown2 {w w' : World} {b : Nat} {vs : List Value} {row : Option Nat} (h : Sg.BxN w b vs) (g : w.grownBy w' row) (hne : some b ≠ row) : Sg.BxN w' b vs :=
  ⟨Nat.lt_of_lt_of_le h.lt g.size, fun i v hv => g.cell (h.cells i v hv) hne, fun i => (World.frozen?_of_block (a := ⟨b, i, none⟩) (g.block b h.lt hne)).trans (h.free i)⟩
theorem infoHead5 : (Tryz.prog.info? 107).map (fun i => (i.zero, i.size, i.bytes)) = some (some (.agg #[.string ByteArray.empty, .int .i64 0, .int .i64 0, .int .i64 0, .int .i64 0]), 5, 48) := by kernel_rfl
set_option maxRecDepth 100000 in
set_option maxHeartbeats 4000000 in
theorem specPut (a : Option Addr) (cap : Nat) (l : List DHead) (e : DEntry) (w : World) (hl : l.length ≤ 1000) (hcap : l.length ≤ cap) (hw0 : Enc.wf e) {fr : Bool} {lo : Nat} (hc : Rows fr lo w a l) :
    Calls Tryz.prog 71 #[.slice a l.length cap, .agg #[.int .i64 e.ver.epoch, .int .i64 e.ver.seq, .int .i64 e.prior.epoch, .int .i64 e.prior.seq, .string e.name, .bool e.gone, .int .i64 e.size, .int .i64 e.sum, .int .i64 e.req.client, .int .i64 e.req.no]] w (AnsL (putH l e) w) := by
  have LY := lay w (.cells #[.int .i64 e.ver.epoch, .int .i64 e.ver.seq, .int .i64 e.prior.epoch, .int .i64 e.prior.seq, .string e.name, .bool e.gone, .int .i64 e.size, .int .i64 e.sum, .int .i64 e.req.client, .int .i64 e.req.no] 114)
  have LW := Lib.hid LY
  have YN := BxN.new w #[.int .i64 e.ver.epoch, .int .i64 e.ver.seq, .int .i64 e.prior.epoch, .int .i64 e.prior.seq, .string e.name, .bool e.gone, .int .i64 e.size, .int .i64 e.sum, .int .i64 e.req.client, .int .i64 e.req.no] 114
  have EH := Lib.hid YN
  have E_0 := YN.cells 0 _ rfl
  have E_1 := YN.cells 1 _ rfl
  have E_2 := YN.cells 2 _ rfl
  have E_3 := YN.cells 3 _ rfl
  have E_4 := YN.cells 4 _ rfl
  have E_5 := YN.cells 5 _ rfl
  have E_6 := YN.cells 6 _ rfl
  have E_7 := YN.cells 7 _ rfl
  have E_8 := YN.cells 8 _ rfl
  have E_9 := YN.cells 9 _ rfl
  have RH := Lib.hid (hc.below LY)
  have GET := Lib.hid (fun k (h : k < l.length) => get_lt h)
  have LEN := Lib.hid (fun k x (h : l[k]? = some x) => (List.getElem?_eq_some_iff.1 h).1)
  have WF := Lib.hid (show Enc.wf (mkH e) from ⟨hw0.2.2.2.2.1, hw0.1, hw0.2.1, hw0.2.2.2.2.2.1, hw0.2.2.2.2.2.2.1⟩)
  have PUT := Lib.hid (fun k => putH_at (e := e) (l := l) (k := k))
  obtain ⟨n, hn⟩ : ∃ n, l.length = n := ⟨_, rfl⟩
  have HN := Lib.hid hn
  rw [hn] at hl hcap GET LEN ⊢
  clear hn hc LY YN hw0
  go_enter Tryz.func71, Tryz.ntmps71
  go_wp2
  go_loopw [5] (fun i wr => ∃ k : Nat, k ≤ n ∧ i = .int .i64 k ∧ (∀ (i : Nat) (h : DHead), i < k → l[i]? = some h → sLt h.name e.name = true) ∧ Below (w.alloc (.cells #[.int .i64 e.ver.epoch, .int .i64 e.ver.seq, .int .i64 e.prior.epoch, .int .i64 e.prior.seq, .string e.name, .bool e.gone, .int .i64 e.size, .int .i64 e.sum, .int .i64 e.req.client, .int .i64 e.req.no] 114)).heap.size (w.alloc (.cells #[.int .i64 e.ver.epoch, .int .i64 e.ver.seq, .int .i64 e.prior.epoch, .int .i64 e.prior.seq, .string e.name, .bool e.gone, .int .i64 e.size, .int .i64 e.sum, .int .i64 e.req.client, .int .i64 e.req.no] 114)) wr) (fun i _ => n - (intOf i).toNat)
  case atStart => exact ⟨0, by omega, rfl, fun i h hi => absurd hi (Nat.not_lt_zero _), Below.refl _ _⟩
  case round =>
    obtain ⟨k, hk, rfl, H1, hw⟩ := hrel
    have H1 := Lib.hid H1
    have EH := Lib.hid (EH.out.later hw)
    have BW := Lib.hid (chainX w LW.out hw)
    have BF := Lib.hid hw
    have E_0 := EH.out.cells 0 _ rfl
    have E_1 := EH.out.cells 1 _ rfl
    have E_2 := EH.out.cells 2 _ rfl
    have E_3 := EH.out.cells 3 _ rfl
    have E_4 := EH.out.cells 4 _ rfl
    have E_5 := EH.out.cells 5 _ rfl
    have E_6 := EH.out.cells 6 _ rfl
    have E_7 := EH.out.cells 7 _ rfl
    have E_8 := EH.out.cells 8 _ rfl
    have E_9 := EH.out.cells 9 _ rfl
    have kz : (0 : Int) ≤ (k : Int) := by omega
    have kc : (k : Int) ≤ (cap : Int) := by omega
    have kn : (k : Int) ≤ (n : Int) := by omega
    have wk : IntKind.i64.wrap (k : Int) = (k : Int) := by rw [IntKind.wrap_i64]; omega
    have LT := Lib.hid (show (l.take k).length = k from by rw [List.length_take]; have := HN.out; omega)
    by_cases hlt : k < n
    · obtain ⟨h, hx⟩ := GET.out k hlt
      obtain ⟨b, off, cs, ea, -, hB, hr, hcc⟩ := RH.out.at' hx
      obtain ⟨rfl, f0_0, f0_1, f0_2, f0_3, f0_4⟩ := shape_Head hr
      have ZC := Lib.hid (fun w' (q : Below (w.alloc (.cells #[.int .i64 e.ver.epoch, .int .i64 e.ver.seq, .int .i64 e.prior.epoch, .int .i64 e.prior.seq, .string e.name, .bool e.gone, .int .i64 e.size, .int .i64 e.sum, .int .i64 e.req.client, .int .i64 e.req.no] 114)).heap.size (w.alloc (.cells #[.int .i64 e.ver.epoch, .int .i64 e.ver.seq, .int .i64 e.prior.epoch, .int .i64 e.prior.seq, .string e.name, .bool e.gone, .int .i64 e.size, .int .i64 e.sum, .int .i64 e.req.client, .int .i64 e.req.no] 114)) w') => (q.cell (p := ⟨b, off + k * 5, none⟩) hB).trans (show (w.alloc (.cells #[.int .i64 e.ver.epoch, .int .i64 e.ver.seq, .int .i64 e.prior.epoch, .int .i64 e.prior.seq, .string e.name, .bool e.gone, .int .i64 e.size, .int .i64 e.sum, .int .i64 e.req.client, .int .i64 e.req.no] 114)).cell? ⟨b, off + k * 5, none⟩ = some (.string h.name) from hcc 0 _ rfl))
      have z0 := ZC.out _ hw
      have HX := Lib.hid hx
      subst ea
      clear hcc hr hx hw
      cases hs : sLt h.name e.name
      · have HS := Lib.hid hs
        unfold sLt at hs
        have PH := PUT.out k H1.out (by rw [HN.out]; exact hk) (fun x hxk => by rw [HX.out] at hxk; cases hxk; exact HS.out)
        have TL : tailH l k e.name = if sameS h.name e.name then l.drop (k + 1) else l.drop k := by unfold tailH; rw [HX.out]
        rw [TL] at PH
        clear TL
        obtain ⟨E_0, E_1, E_2, E_3, E_4, E_5, E_6, E_7, E_8, E_9⟩ := c10 EH.out
        have z0 := ZC.out _ BF.out
        go_wp2
        refine wp_region_noPanic ?_
        refine wp_region_held_drew (S := (fun w' => w'.cell? ⟨w.heap.size, 0, none⟩ = some (.int .i64 e.ver.epoch) ∧ w'.cell? ⟨w.heap.size, 1, none⟩ = some (.int .i64 e.ver.seq) ∧ w'.cell? ⟨w.heap.size, 2, none⟩ = some (.int .i64 e.prior.epoch) ∧ w'.cell? ⟨w.heap.size, 3, none⟩ = some (.int .i64 e.prior.seq) ∧ w'.cell? ⟨w.heap.size, 4, none⟩ = some (.string e.name) ∧ w'.cell? ⟨w.heap.size, 5, none⟩ = some (.bool e.gone) ∧ w'.cell? ⟨w.heap.size, 6, none⟩ = some (.int .i64 e.size) ∧ w'.cell? ⟨w.heap.size, 7, none⟩ = some (.int .i64 e.sum) ∧ w'.cell? ⟨w.heap.size, 8, none⟩ = some (.int .i64 e.req.client) ∧ w'.cell? ⟨w.heap.size, 9, none⟩ = some (.int .i64 e.req.no) ∧ w'.cell? ⟨b, off + k * 5, none⟩ = some (.string h.name))) (by kernel_rfl) ?_ (fun hHeld => ?_)
        · go_keep
        refine tj 0 rfl ?_
        try simp only [Act.put, ya, yb, yc, yd, ye, yf]
        refine tj 1 rfl ?_
        try simp only [Act.put, ya, yb, yc, yd, ye, yf]
        refine tj 2 rfl ?_
        try simp only [Act.put, ya, yb, yc, yd, ye, yf]
        refine tj 3 rfl ?_
        try simp only [Act.put, ya, yb, yc, yd, ye, yf]
        refine tj 4 rfl ?_
        try simp only [Act.put, ya, yb, yc, yd, ye, yf]
        refine tj 5 rfl ?_
        try simp only [Act.put, ya, yb, yc, yd, ye, yf]
        refine tj 6 rfl ?_
        try simp only [Act.put, ya, yb, yc, yd, ye, yf]
        refine tj 7 rfl ?_
        try simp only [Act.put, ya, yb, yc, yd, ye, yf]
        refine tj 8 rfl ?_
        try simp only [Act.put, ya, yb, yc, yd, ye, yf]
        refine tj 9 rfl ?_
        try simp only [Act.put, ya, yb, yc, yd, ye, yf]
        refine tj 10 rfl ?_
        try simp only [Act.put, ya, yb, yc, yd, ye, yf]
        refine tj 11 rfl ?_
        try simp only [Act.put, ya, yb, yc, yd, ye, yf]
        refine tj 12 rfl ?_
        try simp only [Act.put, ya, yb, yc, yd, ye, yf]
        refine tj 13 rfl ?_
        try simp only [Act.put, ya, yb, yc, yd, ye, yf]
        refine wpAnyH_done (by kernel_rfl) ?_ _
        refine NoPanic.normal ?_
        have BF := Lib.hid BF.out.drew
        have BW := Lib.hid BW.out.drew
        have EH := Lib.hid EH.out.drew
        generalize wr.drew = wr at *
        have E_0 := EH.out.cells 0 _ rfl
        have E_1 := EH.out.cells 1 _ rfl
        have E_2 := EH.out.cells 2 _ rfl
        have E_3 := EH.out.cells 3 _ rfl
        have E_4 := EH.out.cells 4 _ rfl
        have E_5 := EH.out.cells 5 _ rfl
        have E_6 := EH.out.cells 6 _ rfl
        have E_7 := EH.out.cells 7 _ rfl
        have E_8 := EH.out.cells 8 _ rfl
        have E_9 := EH.out.cells 9 _ rfl
        cases hq : sameS h.name e.name
        · rw [hq] at PH
          simp only [if_true, if_false, Bool.false_eq_true] at PH
          unfold sameS at hq
          cases hg : e.gone
          · rw [hg] at E_5 EH
            have NW : newH e = [mkH e] := by unfold newH; rw [hg]; rfl
            rw [NW] at PH
            clear NW
            have PH := Lib.hid PH
            go_wp2_with (first | (at_builtin; refine wpList_append_F (α := DHead) rfl (.tmp 23) (.tmp 26) 36 107 (.agg #[.string ByteArray.empty, .int .i64 0, .int .i64 0, .int .i64 0, .int .i64 0]) 48 rfl Tryz.underlying36 infoHead5 rfl (by omega) (w.alloc (.cells #[.int .i64 e.ver.epoch, .int .i64 e.ver.seq, .int .i64 e.prior.epoch, .int .i64 e.prior.seq, .string e.name, .bool e.gone, .int .i64 e.size, .int .i64 e.sum, .int .i64 e.req.client, .int .i64 e.req.no] 114)).heap.size (.slice (some ⟨wr.heap.size, 0, none⟩) 0 0) [] (l.take k) rfl (OwnL.made _ _ _ BF.out.size) _ _ (fr := fr) (lo := lo) (sl_len rfl LT.out) ?_ ?_ ?_ ?_; (· exact ((RH.out.below BF.out).take k).below (lay wr _)); (· simp only [List.length_append, List.length_take, List.length_drop, List.length_cons, List.length_nil]; have := HN.out; omega); (· first | exact Nat.le_trans BF.out.size (by simp) | exact BF.out.size); (intro v1 w1 O1 g1; have G1 := (World.grownBy_alloc wr (.cells #[] 107) (some wr.heap.size)).trans g1; rw [List.nil_append] at O1; have EH := Lib.hid (bxGrown2 EH.out G1 (fun h => (by have h2 := Option.some.inj h; have h3 := BF.out.size; rw [World.size_alloc] at h3; omega))); have BF := Lib.hid (BF.out.grown G1 BF.out.size (fun j hj => (by cases hj; exact BF.out.size))); obtain ⟨E_0, E_1, E_2, E_3, E_4, E_5, E_6, E_7, E_8, E_9⟩ := c10 EH.out; have OH := Lib.hid O1; clear O1 G1 g1)) | (at_builtin; refine wpList_append_F1 (α := DHead) (w := w1) rfl (.tmp 31) (.tmp 41) 36 107 (.agg #[.string ByteArray.empty, .int .i64 0, .int .i64 0, .int .i64 0, .int .i64 0]) 48 ?_ ?_ ?_ ?_ ?_ (w.alloc (.cells #[.int .i64 e.ver.epoch, .int .i64 e.ver.seq, .int .i64 e.prior.epoch, .int .i64 e.prior.seq, .string e.name, .bool e.gone, .int .i64 e.size, .int .i64 e.sum, .int .i64 e.req.client, .int .i64 e.req.no] 114)).heap.size v1 (l.take k) (mkH e) ?_ ?_ ?_ ?_ ?_ ?_ ?_; (· rfl); (· exact Tryz.underlying36); (· exact infoHead5); (· rfl); (· omega); (· rfl); (· exact OH.out); (· exact WF.out); (· rfl); (· rw [LT.out]; omega); (· exact BF.out.size); (intro v2 w2 O2 g2; have G2 := (World.grownBy_alloc w1 (.cells (Enc.enc (mkH e)).toArray 107) v1.ownBlock).trans g2; have EH := Lib.hid (bxGrown2 EH.out G2 (fun h => (by have h2 := (OH.out.blk h.symm).1; rw [World.size_alloc] at h2; omega))); have BF := Lib.hid (BF.out.grown G2 BF.out.size (fun j hj => (OH.out.blk hj).1)); obtain ⟨E_0, E_1, E_2, E_3, E_4, E_5, E_6, E_7, E_8, E_9⟩ := c10 EH.out; have OH2 := Lib.hid O2; clear O2 G2 g2 OH)))
            have OH := OH2
            clear OH2
            by_cases hck : cap = k
            · exact absurd hck (by omega)
            · skip
              obtain ⟨E_0, E_1, E_2, E_3, E_4, E_5, E_6, E_7, E_8, E_9⟩ := c10 EH.out
              have z0 := ZC.out _ BF.out
              go_wp2
              refine wp_region_noPanic ?_
              refine wp_region_held_drew (S := (fun w' => w'.cell? ⟨w.heap.size, 0, none⟩ = some (.int .i64 e.ver.epoch) ∧ w'.cell? ⟨w.heap.size, 1, none⟩ = some (.int .i64 e.ver.seq) ∧ w'.cell? ⟨w.heap.size, 2, none⟩ = some (.int .i64 e.prior.epoch) ∧ w'.cell? ⟨w.heap.size, 3, none⟩ = some (.int .i64 e.prior.seq) ∧ w'.cell? ⟨w.heap.size, 4, none⟩ = some (.string e.name) ∧ w'.cell? ⟨w.heap.size, 5, none⟩ = some (.bool e.gone) ∧ w'.cell? ⟨w.heap.size, 6, none⟩ = some (.int .i64 e.size) ∧ w'.cell? ⟨w.heap.size, 7, none⟩ = some (.int .i64 e.sum) ∧ w'.cell? ⟨w.heap.size, 8, none⟩ = some (.int .i64 e.req.client) ∧ w'.cell? ⟨w.heap.size, 9, none⟩ = some (.int .i64 e.req.no) ∧ w'.cell? ⟨b, off + k * 5, none⟩ = some (.string h.name))) (by kernel_rfl) ?_ (fun hHeld => ?_)
              · go_keep
              refine tj 0 rfl ?_
              try simp only [Act.put, ya, yb, yc, yd, ye, yf]
              refine tj 1 rfl ?_
              try simp only [Act.put, ya, yb, yc, yd, ye, yf]
              refine tj 2 rfl ?_
              try simp only [Act.put, ya, yb, yc, yd, ye, yf]
              refine tj 3 rfl ?_
              try simp only [Act.put, ya, yb, yc, yd, ye, yf]
              refine tj 4 rfl ?_
              try simp only [Act.put, ya, yb, yc, yd, ye, yf]
              refine tj 5 rfl ?_
              try simp only [Act.put, ya, yb, yc, yd, ye, yf]
              refine tj 6 rfl ?_
              try simp only [Act.put, ya, yb, yc, yd, ye, yf]
              refine tj 7 rfl ?_
              try simp only [Act.put, ya, yb, yc, yd, ye, yf]
              refine tj 8 rfl ?_
              try simp only [Act.put, ya, yb, yc, yd, ye, yf]
              refine tj 9 rfl ?_
              try simp only [Act.put, ya, yb, yc, yd, ye, yf]
              refine tj 10 rfl ?_
              try simp only [Act.put, ya, yb, yc, yd, ye, yf]
              refine tj 11 rfl ?_
              try simp only [Act.put, ya, yb, yc, yd, ye, yf]
              refine tj 12 rfl ?_
              try simp only [Act.put, ya, yb, yc, yd, ye, yf]
              refine tj 13 rfl ?_
              try simp only [Act.put, ya, yb, yc, yd, ye, yf]
              refine wpAnyH_done (by kernel_rfl) ?_ _
              refine NoPanic.normal ?_
              have BF := Lib.hid BF.out.drew
              have OH := Lib.hid (show OwnL 107 (w.alloc (.cells #[.int .i64 e.ver.epoch, .int .i64 e.ver.seq, .int .i64 e.prior.epoch, .int .i64 e.prior.seq, .string e.name, .bool e.gone, .int .i64 e.size, .int .i64 e.sum, .int .i64 e.req.client, .int .i64 e.req.no] 114)).heap.size w2.drew _ _ from OH.out.later (Below.refl _ _).drew)
              generalize w2.drew = wz at *
              go_wp2_with (at_builtin; refine wpList_append_F (α := DHead) rfl (.tmp 59) (.tmp 62) 36 107 (.agg #[.string ByteArray.empty, .int .i64 0, .int .i64 0, .int .i64 0, .int .i64 0]) 48 rfl Tryz.underlying36 infoHead5 rfl (by omega) (w.alloc (.cells #[.int .i64 e.ver.epoch, .int .i64 e.ver.seq, .int .i64 e.prior.epoch, .int .i64 e.prior.seq, .string e.name, .bool e.gone, .int .i64 e.size, .int .i64 e.sum, .int .i64 e.req.client, .int .i64 e.req.no] 114)).heap.size v2 (l.take k ++ [mkH e]) (l.drop (k)) rfl OH.out _ _ (fr := fr) (lo := lo) (sl_len rfl (by have h1 := HN.out; have h2 := List.length_drop (i := k) (l := l); omega)) ?_ ?_ ?_ ?_; (· first | exact .inl (List.drop_eq_nil_of_le (by have := HN.out; omega)) | exact (RH.out.below BF.out).drop (k)); (· simp only [List.length_append, List.length_take, List.length_drop, List.length_cons, List.length_nil]; have := HN.out; omega); (· first | exact Nat.le_trans BF.out.size (by simp) | exact BF.out.size); (intro v3 w3 O3 g3))
              have F3 := Lib.hid (AnsL.of O3 LW.out.size (chainX w LW.out (BF.out.grown g3 BF.out.size (fun j hj => (OH.out.blk hj).1))))
              rw [PH.out]
              clear O3 g3
              go_wp2
              go_ret
              have F4 := F3.out
              simp only [List.append_assoc, List.nil_append, List.singleton_append, List.cons_append] at F4 ⊢
              exact F4
          · rw [hg] at E_5 EH
            have NW : newH e = [] := by unfold newH; rw [hg]; rfl
            rw [NW] at PH
            clear NW
            have PH := Lib.hid PH
            go_wp2_with (at_builtin; refine wpList_append_F (α := DHead) rfl (.tmp 23) (.tmp 26) 36 107 (.agg #[.string ByteArray.empty, .int .i64 0, .int .i64 0, .int .i64 0, .int .i64 0]) 48 rfl Tryz.underlying36 infoHead5 rfl (by omega) (w.alloc (.cells #[.int .i64 e.ver.epoch, .int .i64 e.ver.seq, .int .i64 e.prior.epoch, .int .i64 e.prior.seq, .string e.name, .bool e.gone, .int .i64 e.size, .int .i64 e.sum, .int .i64 e.req.client, .int .i64 e.req.no] 114)).heap.size (.slice (some ⟨wr.heap.size, 0, none⟩) 0 0) [] (l.take k) rfl (OwnL.made _ _ _ BF.out.size) _ _ (fr := fr) (lo := lo) (sl_len rfl LT.out) ?_ ?_ ?_ ?_; (· exact ((RH.out.below BF.out).take k).below (lay wr _)); (· simp only [List.length_append, List.length_take, List.length_drop, List.length_cons, List.length_nil]; have := HN.out; omega); (· first | exact Nat.le_trans BF.out.size (by simp) | exact BF.out.size); (intro v1 w1 O1 g1; have G1 := (World.grownBy_alloc wr (.cells #[] 107) (some wr.heap.size)).trans g1; rw [List.nil_append] at O1; have EH := Lib.hid (bxGrown2 EH.out G1 (fun h => (by have h2 := Option.some.inj h; have h3 := BF.out.size; rw [World.size_alloc] at h3; omega))); have BF := Lib.hid (BF.out.grown G1 BF.out.size (fun j hj => (by cases hj; exact BF.out.size))); obtain ⟨E_0, E_1, E_2, E_3, E_4, E_5, E_6, E_7, E_8, E_9⟩ := c10 EH.out; have OH := Lib.hid O1; clear O1 G1 g1))
            by_cases hck : cap = k
            · exact absurd hck (by omega)
            · skip
              obtain ⟨E_0, E_1, E_2, E_3, E_4, E_5, E_6, E_7, E_8, E_9⟩ := c10 EH.out
              have z0 := ZC.out _ BF.out
              go_wp2
              refine wp_region_noPanic ?_
              refine wp_region_held_drew (S := (fun w' => w'.cell? ⟨w.heap.size, 0, none⟩ = some (.int .i64 e.ver.epoch) ∧ w'.cell? ⟨w.heap.size, 1, none⟩ = some (.int .i64 e.ver.seq) ∧ w'.cell? ⟨w.heap.size, 2, none⟩ = some (.int .i64 e.prior.epoch) ∧ w'.cell? ⟨w.heap.size, 3, none⟩ = some (.int .i64 e.prior.seq) ∧ w'.cell? ⟨w.heap.size, 4, none⟩ = some (.string e.name) ∧ w'.cell? ⟨w.heap.size, 5, none⟩ = some (.bool e.gone) ∧ w'.cell? ⟨w.heap.size, 6, none⟩ = some (.int .i64 e.size) ∧ w'.cell? ⟨w.heap.size, 7, none⟩ = some (.int .i64 e.sum) ∧ w'.cell? ⟨w.heap.size, 8, none⟩ = some (.int .i64 e.req.client) ∧ w'.cell? ⟨w.heap.size, 9, none⟩ = some (.int .i64 e.req.no) ∧ w'.cell? ⟨b, off + k * 5, none⟩ = some (.string h.name))) (by kernel_rfl) ?_ (fun hHeld => ?_)
              · go_keep
              refine tj 0 rfl ?_
              try simp only [Act.put, ya, yb, yc, yd, ye, yf]
              refine tj 1 rfl ?_
              try simp only [Act.put, ya, yb, yc, yd, ye, yf]
              refine tj 2 rfl ?_
              try simp only [Act.put, ya, yb, yc, yd, ye, yf]
              refine tj 3 rfl ?_
              try simp only [Act.put, ya, yb, yc, yd, ye, yf]
              refine tj 4 rfl ?_
              try simp only [Act.put, ya, yb, yc, yd, ye, yf]
              refine tj 5 rfl ?_
              try simp only [Act.put, ya, yb, yc, yd, ye, yf]
              refine tj 6 rfl ?_
              try simp only [Act.put, ya, yb, yc, yd, ye, yf]
              refine tj 7 rfl ?_
              try simp only [Act.put, ya, yb, yc, yd, ye, yf]
              refine tj 8 rfl ?_
              try simp only [Act.put, ya, yb, yc, yd, ye, yf]
              refine tj 9 rfl ?_
              try simp only [Act.put, ya, yb, yc, yd, ye, yf]
              refine tj 10 rfl ?_
              try simp only [Act.put, ya, yb, yc, yd, ye, yf]
              refine tj 11 rfl ?_
              try simp only [Act.put, ya, yb, yc, yd, ye, yf]
              refine tj 12 rfl ?_
              try simp only [Act.put, ya, yb, yc, yd, ye, yf]
              refine tj 13 rfl ?_
              try simp only [Act.put, ya, yb, yc, yd, ye, yf]
              refine wpAnyH_done (by kernel_rfl) ?_ _
              refine NoPanic.normal ?_
              have BF := Lib.hid BF.out.drew
              have OH := Lib.hid (show OwnL 107 (w.alloc (.cells #[.int .i64 e.ver.epoch, .int .i64 e.ver.seq, .int .i64 e.prior.epoch, .int .i64 e.prior.seq, .string e.name, .bool e.gone, .int .i64 e.size, .int .i64 e.sum, .int .i64 e.req.client, .int .i64 e.req.no] 114)).heap.size w1.drew _ _ from OH.out.later (Below.refl _ _).drew)
              generalize w1.drew = wz at *
              go_wp2_with (at_builtin; refine wpList_append_F (α := DHead) rfl (.tmp 59) (.tmp 62) 36 107 (.agg #[.string ByteArray.empty, .int .i64 0, .int .i64 0, .int .i64 0, .int .i64 0]) 48 rfl Tryz.underlying36 infoHead5 rfl (by omega) (w.alloc (.cells #[.int .i64 e.ver.epoch, .int .i64 e.ver.seq, .int .i64 e.prior.epoch, .int .i64 e.prior.seq, .string e.name, .bool e.gone, .int .i64 e.size, .int .i64 e.sum, .int .i64 e.req.client, .int .i64 e.req.no] 114)).heap.size v1 (l.take k) (l.drop (k)) rfl OH.out _ _ (fr := fr) (lo := lo) (sl_len rfl (by have h1 := HN.out; have h2 := List.length_drop (i := k) (l := l); omega)) ?_ ?_ ?_ ?_; (· first | exact .inl (List.drop_eq_nil_of_le (by have := HN.out; omega)) | exact (RH.out.below BF.out).drop (k)); (· simp only [List.length_append, List.length_take, List.length_drop, List.length_cons, List.length_nil]; have := HN.out; omega); (· first | exact Nat.le_trans BF.out.size (by simp) | exact BF.out.size); (intro v3 w3 O3 g3))
              have F3 := Lib.hid (AnsL.of O3 LW.out.size (chainX w LW.out (BF.out.grown g3 BF.out.size (fun j hj => (OH.out.blk hj).1))))
              rw [PH.out]
              clear O3 g3
              go_wp2
              go_ret
              have F4 := F3.out
              simp only [List.append_assoc, List.nil_append, List.singleton_append, List.cons_append] at F4 ⊢
              exact F4
        · rw [hq] at PH
          simp only [if_true, if_false, Bool.false_eq_true] at PH
          unfold sameS at hq
          have m0 : (0 : Int) ≤ (k : Int) + 1 := by omega
          have m1 : (k : Int) + 1 ≤ (n : Int) := by omega
          have m2 : IntKind.i64.wrap ((k : Int) + 1) = (k : Int) + 1 := by rw [IntKind.wrap_i64]; omega
          have m3 : ((k : Int) + 1).toNat = k + 1 := by omega
          have m4 : (k : Int) + 1 ≤ (cap : Int) := by omega
          cases hg : e.gone
          · rw [hg] at E_5 EH
            have NW : newH e = [mkH e] := by unfold newH; rw [hg]; rfl
            rw [NW] at PH
            clear NW
            have PH := Lib.hid PH
            go_wp2_with (first | (at_builtin; refine wpList_append_F (α := DHead) rfl (.tmp 23) (.tmp 26) 36 107 (.agg #[.string ByteArray.empty, .int .i64 0, .int .i64 0, .int .i64 0, .int .i64 0]) 48 rfl Tryz.underlying36 infoHead5 rfl (by omega) (w.alloc (.cells #[.int .i64 e.ver.epoch, .int .i64 e.ver.seq, .int .i64 e.prior.epoch, .int .i64 e.prior.seq, .string e.name, .bool e.gone, .int .i64 e.size, .int .i64 e.sum, .int .i64 e.req.client, .int .i64 e.req.no] 114)).heap.size (.slice (some ⟨wr.heap.size, 0, none⟩) 0 0) [] (l.take k) rfl (OwnL.made _ _ _ BF.out.size) _ _ (fr := fr) (lo := lo) (sl_len rfl LT.out) ?_ ?_ ?_ ?_; (· exact ((RH.out.below BF.out).take k).below (lay wr _)); (· simp only [List.length_append, List.length_take, List.length_drop, List.length_cons, List.length_nil]; have := HN.out; omega); (· first | exact Nat.le_trans BF.out.size (by simp) | exact BF.out.size); (intro v1 w1 O1 g1; have G1 := (World.grownBy_alloc wr (.cells #[] 107) (some wr.heap.size)).trans g1; rw [List.nil_append] at O1; have EH := Lib.hid (bxGrown2 EH.out G1 (fun h => (by have h2 := Option.some.inj h; have h3 := BF.out.size; rw [World.size_alloc] at h3; omega))); have BF := Lib.hid (BF.out.grown G1 BF.out.size (fun j hj => (by cases hj; exact BF.out.size))); obtain ⟨E_0, E_1, E_2, E_3, E_4, E_5, E_6, E_7, E_8, E_9⟩ := c10 EH.out; have OH := Lib.hid O1; clear O1 G1 g1)) | (at_builtin; refine wpList_append_F1 (α := DHead) (w := w1) rfl (.tmp 31) (.tmp 41) 36 107 (.agg #[.string ByteArray.empty, .int .i64 0, .int .i64 0, .int .i64 0, .int .i64 0]) 48 ?_ ?_ ?_ ?_ ?_ (w.alloc (.cells #[.int .i64 e.ver.epoch, .int .i64 e.ver.seq, .int .i64 e.prior.epoch, .int .i64 e.prior.seq, .string e.name, .bool e.gone, .int .i64 e.size, .int .i64 e.sum, .int .i64 e.req.client, .int .i64 e.req.no] 114)).heap.size v1 (l.take k) (mkH e) ?_ ?_ ?_ ?_ ?_ ?_ ?_; (· rfl); (· exact Tryz.underlying36); (· exact infoHead5); (· rfl); (· omega); (· rfl); (· exact OH.out); (· exact WF.out); (· rfl); (· rw [LT.out]; omega); (· exact BF.out.size); (intro v2 w2 O2 g2; have G2 := (World.grownBy_alloc w1 (.cells (Enc.enc (mkH e)).toArray 107) v1.ownBlock).trans g2; have EH := Lib.hid (bxGrown2 EH.out G2 (fun h => (by have h2 := (OH.out.blk h.symm).1; rw [World.size_alloc] at h2; omega))); have BF := Lib.hid (BF.out.grown G2 BF.out.size (fun j hj => (OH.out.blk hj).1)); obtain ⟨E_0, E_1, E_2, E_3, E_4, E_5, E_6, E_7, E_8, E_9⟩ := c10 EH.out; have OH2 := Lib.hid O2; clear O2 G2 g2 OH)))
            have OH := OH2
            clear OH2
            by_cases hck : cap = k + 1
            · skip
              obtain ⟨E_0, E_1, E_2, E_3, E_4, E_5, E_6, E_7, E_8, E_9⟩ := c10 EH.out
              have z0 := ZC.out _ BF.out
              go_wp2
              refine wp_region_noPanic ?_
              refine wp_region_held_drew (S := (fun w' => w'.cell? ⟨w.heap.size, 0, none⟩ = some (.int .i64 e.ver.epoch) ∧ w'.cell? ⟨w.heap.size, 1, none⟩ = some (.int .i64 e.ver.seq) ∧ w'.cell? ⟨w.heap.size, 2, none⟩ = some (.int .i64 e.prior.epoch) ∧ w'.cell? ⟨w.heap.size, 3, none⟩ = some (.int .i64 e.prior.seq) ∧ w'.cell? ⟨w.heap.size, 4, none⟩ = some (.string e.name) ∧ w'.cell? ⟨w.heap.size, 5, none⟩ = some (.bool e.gone) ∧ w'.cell? ⟨w.heap.size, 6, none⟩ = some (.int .i64 e.size) ∧ w'.cell? ⟨w.heap.size, 7, none⟩ = some (.int .i64 e.sum) ∧ w'.cell? ⟨w.heap.size, 8, none⟩ = some (.int .i64 e.req.client) ∧ w'.cell? ⟨w.heap.size, 9, none⟩ = some (.int .i64 e.req.no) ∧ w'.cell? ⟨b, off + k * 5, none⟩ = some (.string h.name))) (by kernel_rfl) ?_ (fun hHeld => ?_)
              · go_keep
              refine tj 0 rfl ?_
              try simp only [Act.put, ya, yb, yc, yd, ye, yf]
              refine tj 1 rfl ?_
              try simp only [Act.put, ya, yb, yc, yd, ye, yf]
              refine tj 2 rfl ?_
              try simp only [Act.put, ya, yb, yc, yd, ye, yf]
              refine tj 3 rfl ?_
              try simp only [Act.put, ya, yb, yc, yd, ye, yf]
              refine tj 4 rfl ?_
              try simp only [Act.put, ya, yb, yc, yd, ye, yf]
              refine tj 5 rfl ?_
              try simp only [Act.put, ya, yb, yc, yd, ye, yf]
              refine tj 6 rfl ?_
              try simp only [Act.put, ya, yb, yc, yd, ye, yf]
              refine tj 7 rfl ?_
              try simp only [Act.put, ya, yb, yc, yd, ye, yf]
              refine tj 8 rfl ?_
              try simp only [Act.put, ya, yb, yc, yd, ye, yf]
              refine tj 9 rfl ?_
              try simp only [Act.put, ya, yb, yc, yd, ye, yf]
              refine tj 10 rfl ?_
              try simp only [Act.put, ya, yb, yc, yd, ye, yf]
              refine tj 11 rfl ?_
              try simp only [Act.put, ya, yb, yc, yd, ye, yf]
              refine tj 12 rfl ?_
              try simp only [Act.put, ya, yb, yc, yd, ye, yf]
              refine tj 13 rfl ?_
              try simp only [Act.put, ya, yb, yc, yd, ye, yf]
              refine wpAnyH_done (by kernel_rfl) ?_ _
              refine NoPanic.normal ?_
              have BF := Lib.hid BF.out.drew
              have OH := Lib.hid (show OwnL 107 (w.alloc (.cells #[.int .i64 e.ver.epoch, .int .i64 e.ver.seq, .int .i64 e.prior.epoch, .int .i64 e.prior.seq, .string e.name, .bool e.gone, .int .i64 e.size, .int .i64 e.sum, .int .i64 e.req.client, .int .i64 e.req.no] 114)).heap.size w2.drew _ _ from OH.out.later (Below.refl _ _).drew)
              generalize w2.drew = wz at *
              go_wp2_with (at_builtin; refine wpList_append_F (α := DHead) rfl (.tmp 59) (.tmp 62) 36 107 (.agg #[.string ByteArray.empty, .int .i64 0, .int .i64 0, .int .i64 0, .int .i64 0]) 48 rfl Tryz.underlying36 infoHead5 rfl (by omega) (w.alloc (.cells #[.int .i64 e.ver.epoch, .int .i64 e.ver.seq, .int .i64 e.prior.epoch, .int .i64 e.prior.seq, .string e.name, .bool e.gone, .int .i64 e.size, .int .i64 e.sum, .int .i64 e.req.client, .int .i64 e.req.no] 114)).heap.size v2 (l.take k ++ [mkH e]) (l.drop (k + 1)) rfl OH.out _ _ (fr := fr) (lo := lo) (sl_len rfl (by have h1 := HN.out; have h2 := List.length_drop (i := k + 1) (l := l); omega)) ?_ ?_ ?_ ?_; (· first | exact .inl (List.drop_eq_nil_of_le (by have := HN.out; omega)) | exact (RH.out.below BF.out).drop (k + 1)); (· simp only [List.length_append, List.length_take, List.length_drop, List.length_cons, List.length_nil]; have := HN.out; omega); (· first | exact Nat.le_trans BF.out.size (by simp) | exact BF.out.size); (intro v3 w3 O3 g3))
              have F3 := Lib.hid (AnsL.of O3 LW.out.size (chainX w LW.out (BF.out.grown g3 BF.out.size (fun j hj => (OH.out.blk hj).1))))
              rw [PH.out]
              clear O3 g3
              go_wp2
              go_ret
              have F4 := F3.out
              simp only [List.append_assoc, List.nil_append, List.singleton_append, List.cons_append] at F4 ⊢
              exact F4
            · skip
              obtain ⟨E_0, E_1, E_2, E_3, E_4, E_5, E_6, E_7, E_8, E_9⟩ := c10 EH.out
              have z0 := ZC.out _ BF.out
              go_wp2
              refine wp_region_noPanic ?_
              refine wp_region_held_drew (S := (fun w' => w'.cell? ⟨w.heap.size, 0, none⟩ = some (.int .i64 e.ver.epoch) ∧ w'.cell? ⟨w.heap.size, 1, none⟩ = some (.int .i64 e.ver.seq) ∧ w'.cell? ⟨w.heap.size, 2, none⟩ = some (.int .i64 e.prior.epoch) ∧ w'.cell? ⟨w.heap.size, 3, none⟩ = some (.int .i64 e.prior.seq) ∧ w'.cell? ⟨w.heap.size, 4, none⟩ = some (.string e.name) ∧ w'.cell? ⟨w.heap.size, 5, none⟩ = some (.bool e.gone) ∧ w'.cell? ⟨w.heap.size, 6, none⟩ = some (.int .i64 e.size) ∧ w'.cell? ⟨w.heap.size, 7, none⟩ = some (.int .i64 e.sum) ∧ w'.cell? ⟨w.heap.size, 8, none⟩ = some (.int .i64 e.req.client) ∧ w'.cell? ⟨w.heap.size, 9, none⟩ = some (.int .i64 e.req.no) ∧ w'.cell? ⟨b, off + k * 5, none⟩ = some (.string h.name))) (by kernel_rfl) ?_ (fun hHeld => ?_)
              · go_keep
              refine tj 0 rfl ?_
              try simp only [Act.put, ya, yb, yc, yd, ye, yf]
              refine tj 1 rfl ?_
              try simp only [Act.put, ya, yb, yc, yd, ye, yf]
              refine tj 2 rfl ?_
              try simp only [Act.put, ya, yb, yc, yd, ye, yf]
              refine tj 3 rfl ?_
              try simp only [Act.put, ya, yb, yc, yd, ye, yf]
              refine tj 4 rfl ?_
              try simp only [Act.put, ya, yb, yc, yd, ye, yf]
              refine tj 5 rfl ?_
              try simp only [Act.put, ya, yb, yc, yd, ye, yf]
              refine tj 6 rfl ?_
              try simp only [Act.put, ya, yb, yc, yd, ye, yf]
              refine tj 7 rfl ?_
              try simp only [Act.put, ya, yb, yc, yd, ye, yf]
              refine tj 8 rfl ?_
              try simp only [Act.put, ya, yb, yc, yd, ye, yf]
              refine tj 9 rfl ?_
              try simp only [Act.put, ya, yb, yc, yd, ye, yf]
              refine tj 10 rfl ?_
              try simp only [Act.put, ya, yb, yc, yd, ye, yf]
              refine tj 11 rfl ?_
              try simp only [Act.put, ya, yb, yc, yd, ye, yf]
              refine tj 12 rfl ?_
              try simp only [Act.put, ya, yb, yc, yd, ye, yf]
              refine tj 13 rfl ?_
              try simp only [Act.put, ya, yb, yc, yd, ye, yf]
              refine wpAnyH_done (by kernel_rfl) ?_ _
              refine NoPanic.normal ?_
              have BF := Lib.hid BF.out.drew
              have OH := Lib.hid (show OwnL 107 (w.alloc (.cells #[.int .i64 e.ver.epoch, .int .i64 e.ver.seq, .int .i64 e.prior.epoch, .int .i64 e.prior.seq, .string e.name, .bool e.gone, .int .i64 e.size, .int .i64 e.sum, .int .i64 e.req.client, .int .i64 e.req.no] 114)).heap.size w2.drew _ _ from OH.out.later (Below.refl _ _).drew)
              generalize w2.drew = wz at *
              go_wp2_with (at_builtin; refine wpList_append_F (α := DHead) rfl (.tmp 59) (.tmp 62) 36 107 (.agg #[.string ByteArray.empty, .int .i64 0, .int .i64 0, .int .i64 0, .int .i64 0]) 48 rfl Tryz.underlying36 infoHead5 rfl (by omega) (w.alloc (.cells #[.int .i64 e.ver.epoch, .int .i64 e.ver.seq, .int .i64 e.prior.epoch, .int .i64 e.prior.seq, .string e.name, .bool e.gone, .int .i64 e.size, .int .i64 e.sum, .int .i64 e.req.client, .int .i64 e.req.no] 114)).heap.size v2 (l.take k ++ [mkH e]) (l.drop (k + 1)) rfl OH.out _ _ (fr := fr) (lo := lo) (sl_len rfl (by have h1 := HN.out; have h2 := List.length_drop (i := k + 1) (l := l); omega)) ?_ ?_ ?_ ?_; (· first | exact .inl (List.drop_eq_nil_of_le (by have := HN.out; omega)) | exact (RH.out.below BF.out).drop (k + 1)); (· simp only [List.length_append, List.length_take, List.length_drop, List.length_cons, List.length_nil]; have := HN.out; omega); (· first | exact Nat.le_trans BF.out.size (by simp) | exact BF.out.size); (intro v3 w3 O3 g3))
              have F3 := Lib.hid (AnsL.of O3 LW.out.size (chainX w LW.out (BF.out.grown g3 BF.out.size (fun j hj => (OH.out.blk hj).1))))
              rw [PH.out]
              clear O3 g3
              go_wp2
              go_ret
              have F4 := F3.out
              simp only [List.append_assoc, List.nil_append, List.singleton_append, List.cons_append] at F4 ⊢
              exact F4
          · rw [hg] at E_5 EH
            have NW : newH e = [] := by unfold newH; rw [hg]; rfl
            rw [NW] at PH
            clear NW
            have PH := Lib.hid PH
            go_wp2_with (at_builtin; refine wpList_append_F (α := DHead) rfl (.tmp 23) (.tmp 26) 36 107 (.agg #[.string ByteArray.empty, .int .i64 0, .int .i64 0, .int .i64 0, .int .i64 0]) 48 rfl Tryz.underlying36 infoHead5 rfl (by omega) (w.alloc (.cells #[.int .i64 e.ver.epoch, .int .i64 e.ver.seq, .int .i64 e.prior.epoch, .int .i64 e.prior.seq, .string e.name, .bool e.gone, .int .i64 e.size, .int .i64 e.sum, .int .i64 e.req.client, .int .i64 e.req.no] 114)).heap.size (.slice (some ⟨wr.heap.size, 0, none⟩) 0 0) [] (l.take k) rfl (OwnL.made _ _ _ BF.out.size) _ _ (fr := fr) (lo := lo) (sl_len rfl LT.out) ?_ ?_ ?_ ?_; (· exact ((RH.out.below BF.out).take k).below (lay wr _)); (· simp only [List.length_append, List.length_take, List.length_drop, List.length_cons, List.length_nil]; have := HN.out; omega); (· first | exact Nat.le_trans BF.out.size (by simp) | exact BF.out.size); (intro v1 w1 O1 g1; have G1 := (World.grownBy_alloc wr (.cells #[] 107) (some wr.heap.size)).trans g1; rw [List.nil_append] at O1; have EH := Lib.hid (bxGrown2 EH.out G1 (fun h => (by have h2 := Option.some.inj h; have h3 := BF.out.size; rw [World.size_alloc] at h3; omega))); have BF := Lib.hid (BF.out.grown G1 BF.out.size (fun j hj => (by cases hj; exact BF.out.size))); obtain ⟨E_0, E_1, E_2, E_3, E_4, E_5, E_6, E_7, E_8, E_9⟩ := c10 EH.out; have OH := Lib.hid O1; clear O1 G1 g1))
            by_cases hck : cap = k + 1
            · skip
              obtain ⟨E_0, E_1, E_2, E_3, E_4, E_5, E_6, E_7, E_8, E_9⟩ := c10 EH.out
              have z0 := ZC.out _ BF.out
              go_wp2
              refine wp_region_noPanic ?_
              refine wp_region_held_drew (S := (fun w' => w'.cell? ⟨w.heap.size, 0, none⟩ = some (.int .i64 e.ver.epoch) ∧ w'.cell? ⟨w.heap.size, 1, none⟩ = some (.int .i64 e.ver.seq) ∧ w'.cell? ⟨w.heap.size, 2, none⟩ = some (.int .i64 e.prior.epoch) ∧ w'.cell? ⟨w.heap.size, 3, none⟩ = some (.int .i64 e.prior.seq) ∧ w'.cell? ⟨w.heap.size, 4, none⟩ = some (.string e.name) ∧ w'.cell? ⟨w.heap.size, 5, none⟩ = some (.bool e.gone) ∧ w'.cell? ⟨w.heap.size, 6, none⟩ = some (.int .i64 e.size) ∧ w'.cell? ⟨w.heap.size, 7, none⟩ = some (.int .i64 e.sum) ∧ w'.cell? ⟨w.heap.size, 8, none⟩ = some (.int .i64 e.req.client) ∧ w'.cell? ⟨w.heap.size, 9, none⟩ = some (.int .i64 e.req.no) ∧ w'.cell? ⟨b, off + k * 5, none⟩ = some (.string h.name))) (by kernel_rfl) ?_ (fun hHeld => ?_)
              · go_keep
              refine tj 0 rfl ?_
              try simp only [Act.put, ya, yb, yc, yd, ye, yf]
              refine tj 1 rfl ?_
              try simp only [Act.put, ya, yb, yc, yd, ye, yf]
              refine tj 2 rfl ?_
              try simp only [Act.put, ya, yb, yc, yd, ye, yf]
              refine tj 3 rfl ?_
              try simp only [Act.put, ya, yb, yc, yd, ye, yf]
              refine tj 4 rfl ?_
              try simp only [Act.put, ya, yb, yc, yd, ye, yf]
              refine tj 5 rfl ?_
              try simp only [Act.put, ya, yb, yc, yd, ye, yf]
              refine tj 6 rfl ?_
              try simp only [Act.put, ya, yb, yc, yd, ye, yf]
              refine tj 7 rfl ?_
              try simp only [Act.put, ya, yb, yc, yd, ye, yf]
              refine tj 8 rfl ?_
              try simp only [Act.put, ya, yb, yc, yd, ye, yf]
              refine tj 9 rfl ?_
              try simp only [Act.put, ya, yb, yc, yd, ye, yf]
              refine tj 10 rfl ?_
              try simp only [Act.put, ya, yb, yc, yd, ye, yf]
              refine tj 11 rfl ?_
              try simp only [Act.put, ya, yb, yc, yd, ye, yf]
              refine tj 12 rfl ?_
              try simp only [Act.put, ya, yb, yc, yd, ye, yf]
              refine tj 13 rfl ?_
              try simp only [Act.put, ya, yb, yc, yd, ye, yf]
              refine wpAnyH_done (by kernel_rfl) ?_ _
              refine NoPanic.normal ?_
              have BF := Lib.hid BF.out.drew
              have OH := Lib.hid (show OwnL 107 (w.alloc (.cells #[.int .i64 e.ver.epoch, .int .i64 e.ver.seq, .int .i64 e.prior.epoch, .int .i64 e.prior.seq, .string e.name, .bool e.gone, .int .i64 e.size, .int .i64 e.sum, .int .i64 e.req.client, .int .i64 e.req.no] 114)).heap.size w1.drew _ _ from OH.out.later (Below.refl _ _).drew)
              generalize w1.drew = wz at *
              go_wp2_with (at_builtin; refine wpList_append_F (α := DHead) rfl (.tmp 59) (.tmp 62) 36 107 (.agg #[.string ByteArray.empty, .int .i64 0, .int .i64 0, .int .i64 0, .int .i64 0]) 48 rfl Tryz.underlying36 infoHead5 rfl (by omega) (w.alloc (.cells #[.int .i64 e.ver.epoch, .int .i64 e.ver.seq, .int .i64 e.prior.epoch, .int .i64 e.prior.seq, .string e.name, .bool e.gone, .int .i64 e.size, .int .i64 e.sum, .int .i64 e.req.client, .int .i64 e.req.no] 114)).heap.size v1 (l.take k) (l.drop (k + 1)) rfl OH.out _ _ (fr := fr) (lo := lo) (sl_len rfl (by have h1 := HN.out; have h2 := List.length_drop (i := k + 1) (l := l); omega)) ?_ ?_ ?_ ?_; (· first | exact .inl (List.drop_eq_nil_of_le (by have := HN.out; omega)) | exact (RH.out.below BF.out).drop (k + 1)); (· simp only [List.length_append, List.length_take, List.length_drop, List.length_cons, List.length_nil]; have := HN.out; omega); (· first | exact Nat.le_trans BF.out.size (by simp) | exact BF.out.size); (intro v3 w3 O3 g3))
              have F3 := Lib.hid (AnsL.of O3 LW.out.size (chainX w LW.out (BF.out.grown g3 BF.out.size (fun j hj => (OH.out.blk hj).1))))
              rw [PH.out]
              clear O3 g3
              go_wp2
              go_ret
              have F4 := F3.out
              simp only [List.append_assoc, List.nil_append, List.singleton_append, List.cons_append] at F4 ⊢
              exact F4
            · skip
              obtain ⟨E_0, E_1, E_2, E_3, E_4, E_5, E_6, E_7, E_8, E_9⟩ := c10 EH.out
              have z0 := ZC.out _ BF.out
              go_wp2
              refine wp_region_noPanic ?_
              refine wp_region_held_drew (S := (fun w' => w'.cell? ⟨w.heap.size, 0, none⟩ = some (.int .i64 e.ver.epoch) ∧ w'.cell? ⟨w.heap.size, 1, none⟩ = some (.int .i64 e.ver.seq) ∧ w'.cell? ⟨w.heap.size, 2, none⟩ = some (.int .i64 e.prior.epoch) ∧ w'.cell? ⟨w.heap.size, 3, none⟩ = some (.int .i64 e.prior.seq) ∧ w'.cell? ⟨w.heap.size, 4, none⟩ = some (.string e.name) ∧ w'.cell? ⟨w.heap.size, 5, none⟩ = some (.bool e.gone) ∧ w'.cell? ⟨w.heap.size, 6, none⟩ = some (.int .i64 e.size) ∧ w'.cell? ⟨w.heap.size, 7, none⟩ = some (.int .i64 e.sum) ∧ w'.cell? ⟨w.heap.size, 8, none⟩ = some (.int .i64 e.req.client) ∧ w'.cell? ⟨w.heap.size, 9, none⟩ = some (.int .i64 e.req.no) ∧ w'.cell? ⟨b, off + k * 5, none⟩ = some (.string h.name))) (by kernel_rfl) ?_ (fun hHeld => ?_)
              · go_keep
              refine tj 0 rfl ?_
              try simp only [Act.put, ya, yb, yc, yd, ye, yf]
              refine tj 1 rfl ?_
              try simp only [Act.put, ya, yb, yc, yd, ye, yf]
              refine tj 2 rfl ?_
              try simp only [Act.put, ya, yb, yc, yd, ye, yf]
              refine tj 3 rfl ?_
              try simp only [Act.put, ya, yb, yc, yd, ye, yf]
              refine tj 4 rfl ?_
              try simp only [Act.put, ya, yb, yc, yd, ye, yf]
              refine tj 5 rfl ?_
              try simp only [Act.put, ya, yb, yc, yd, ye, yf]
              refine tj 6 rfl ?_
              try simp only [Act.put, ya, yb, yc, yd, ye, yf]
              refine tj 7 rfl ?_
              try simp only [Act.put, ya, yb, yc, yd, ye, yf]
              refine tj 8 rfl ?_
              try simp only [Act.put, ya, yb, yc, yd, ye, yf]
              refine tj 9 rfl ?_
              try simp only [Act.put, ya, yb, yc, yd, ye, yf]
              refine tj 10 rfl ?_
              try simp only [Act.put, ya, yb, yc, yd, ye, yf]
              refine tj 11 rfl ?_
              try simp only [Act.put, ya, yb, yc, yd, ye, yf]
              refine tj 12 rfl ?_
              try simp only [Act.put, ya, yb, yc, yd, ye, yf]
              refine tj 13 rfl ?_
              try simp only [Act.put, ya, yb, yc, yd, ye, yf]
              refine wpAnyH_done (by kernel_rfl) ?_ _
              refine NoPanic.normal ?_
              have BF := Lib.hid BF.out.drew
              have OH := Lib.hid (show OwnL 107 (w.alloc (.cells #[.int .i64 e.ver.epoch, .int .i64 e.ver.seq, .int .i64 e.prior.epoch, .int .i64 e.prior.seq, .string e.name, .bool e.gone, .int .i64 e.size, .int .i64 e.sum, .int .i64 e.req.client, .int .i64 e.req.no] 114)).heap.size w1.drew _ _ from OH.out.later (Below.refl _ _).drew)
              generalize w1.drew = wz at *
              go_wp2_with (at_builtin; refine wpList_append_F (α := DHead) rfl (.tmp 59) (.tmp 62) 36 107 (.agg #[.string ByteArray.empty, .int .i64 0, .int .i64 0, .int .i64 0, .int .i64 0]) 48 rfl Tryz.underlying36 infoHead5 rfl (by omega) (w.alloc (.cells #[.int .i64 e.ver.epoch, .int .i64 e.ver.seq, .int .i64 e.prior.epoch, .int .i64 e.prior.seq, .string e.name, .bool e.gone, .int .i64 e.size, .int .i64 e.sum, .int .i64 e.req.client, .int .i64 e.req.no] 114)).heap.size v1 (l.take k) (l.drop (k + 1)) rfl OH.out _ _ (fr := fr) (lo := lo) (sl_len rfl (by have h1 := HN.out; have h2 := List.length_drop (i := k + 1) (l := l); omega)) ?_ ?_ ?_ ?_; (· first | exact .inl (List.drop_eq_nil_of_le (by have := HN.out; omega)) | exact (RH.out.below BF.out).drop (k + 1)); (· simp only [List.length_append, List.length_take, List.length_drop, List.length_cons, List.length_nil]; have := HN.out; omega); (· first | exact Nat.le_trans BF.out.size (by simp) | exact BF.out.size); (intro v3 w3 O3 g3))
              have F3 := Lib.hid (AnsL.of O3 LW.out.size (chainX w LW.out (BF.out.grown g3 BF.out.size (fun j hj => (OH.out.blk hj).1))))
              rw [PH.out]
              clear O3 g3
              go_wp2
              go_ret
              have F4 := F3.out
              simp only [List.append_assoc, List.nil_append, List.singleton_append, List.cons_append] at F4 ⊢
              exact F4
      · have HS := Lib.hid hs
        unfold sLt at hs
        obtain ⟨E_0, E_1, E_2, E_3, E_4, E_5, E_6, E_7, E_8, E_9⟩ := c10 EH.out
        go_wp2
        refine wp_region_noPanic ?_
        refine wp_region_held_drew (S := (fun w' => w'.cell? ⟨w.heap.size, 0, none⟩ = some (.int .i64 e.ver.epoch) ∧ w'.cell? ⟨w.heap.size, 1, none⟩ = some (.int .i64 e.ver.seq) ∧ w'.cell? ⟨w.heap.size, 2, none⟩ = some (.int .i64 e.prior.epoch) ∧ w'.cell? ⟨w.heap.size, 3, none⟩ = some (.int .i64 e.prior.seq) ∧ w'.cell? ⟨w.heap.size, 4, none⟩ = some (.string e.name) ∧ w'.cell? ⟨w.heap.size, 5, none⟩ = some (.bool e.gone) ∧ w'.cell? ⟨w.heap.size, 6, none⟩ = some (.int .i64 e.size) ∧ w'.cell? ⟨w.heap.size, 7, none⟩ = some (.int .i64 e.sum) ∧ w'.cell? ⟨w.heap.size, 8, none⟩ = some (.int .i64 e.req.client) ∧ w'.cell? ⟨w.heap.size, 9, none⟩ = some (.int .i64 e.req.no) ∧ w'.cell? ⟨b, off + k * 5, none⟩ = some (.string h.name))) (by kernel_rfl) ?_ (fun hHeld => ?_)
        · go_keep
        refine tj 0 rfl ?_
        try simp only [Act.put, ya, yb, yc, yd, ye, yf]
        refine tj 1 rfl ?_
        try simp only [Act.put, ya, yb, yc, yd, ye, yf]
        refine tj 2 rfl ?_
        try simp only [Act.put, ya, yb, yc, yd, ye, yf]
        refine tj 3 rfl ?_
        try simp only [Act.put, ya, yb, yc, yd, ye, yf]
        refine tj 4 rfl ?_
        try simp only [Act.put, ya, yb, yc, yd, ye, yf]
        refine tj 5 rfl ?_
        try simp only [Act.put, ya, yb, yc, yd, ye, yf]
        refine tj 6 rfl ?_
        try simp only [Act.put, ya, yb, yc, yd, ye, yf]
        refine tj 7 rfl ?_
        try simp only [Act.put, ya, yb, yc, yd, ye, yf]
        refine tj 8 rfl ?_
        try simp only [Act.put, ya, yb, yc, yd, ye, yf]
        refine tj 9 rfl ?_
        try simp only [Act.put, ya, yb, yc, yd, ye, yf]
        refine tj 10 rfl ?_
        try simp only [Act.put, ya, yb, yc, yd, ye, yf]
        refine tj 11 rfl ?_
        try simp only [Act.put, ya, yb, yc, yd, ye, yf]
        refine tj 12 rfl ?_
        try simp only [Act.put, ya, yb, yc, yd, ye, yf]
        refine tj 13 rfl ?_
        try simp only [Act.put, ya, yb, yc, yd, ye, yf]
        refine wpAnyH_done (by kernel_rfl) ?_ _
        refine NoPanic.normal ?_
        have H2 := Lib.hid (show ∀ (i : Nat) (x : DHead), i < k + 1 → l[i]? = some x → sLt x.name e.name = true from fun i x hi hxi => by
          by_cases ei : i = k
          · subst ei; rw [HX.out] at hxi; cases hxi; exact HS.out
          · exact H1.out i x (by omega) hxi)
        go_wp2
        go_roundw
        case rel => exact ⟨k + 1, by omega, by go_num, H2.out, BF.out.drew⟩
        case measure => simp [intOf]; omega
    · obtain rfl : k = n := by omega
      have TL : tailH l k e.name = [] := by unfold tailH; rw [List.getElem?_eq_none (by rw [HN.out]; exact Nat.le_refl _)]
      have PH := PUT.out k H1.out (by rw [HN.out]; exact Nat.le_refl _) (fun x hxk => absurd (LEN.out _ _ hxk) (Nat.lt_irrefl _))
      rw [TL] at PH
      clear hw
      have DN : l.drop k = [] := List.drop_eq_nil_of_le (by rw [HN.out]; exact Nat.le_refl _)
      rw [show ([] : List DHead) = l.drop k from DN.symm] at PH
      clear DN TL
      rcases a with _ | p
      · skip
        have k0 : k = 0 := by
          rcases RH.out with h | ⟨_, _, e, _⟩
          · have := HN.out; rw [h] at this; exact this.symm
          · cases e
        subst k0
        obtain ⟨E_0, E_1, E_2, E_3, E_4, E_5, E_6, E_7, E_8, E_9⟩ := c10 EH.out
        go_wp2
        refine wp_region_noPanic ?_
        refine wp_region_held_drew (S := (fun w' => w'.cell? ⟨w.heap.size, 0, none⟩ = some (.int .i64 e.ver.epoch) ∧ w'.cell? ⟨w.heap.size, 1, none⟩ = some (.int .i64 e.ver.seq) ∧ w'.cell? ⟨w.heap.size, 2, none⟩ = some (.int .i64 e.prior.epoch) ∧ w'.cell? ⟨w.heap.size, 3, none⟩ = some (.int .i64 e.prior.seq) ∧ w'.cell? ⟨w.heap.size, 4, none⟩ = some (.string e.name) ∧ w'.cell? ⟨w.heap.size, 5, none⟩ = some (.bool e.gone) ∧ w'.cell? ⟨w.heap.size, 6, none⟩ = some (.int .i64 e.size) ∧ w'.cell? ⟨w.heap.size, 7, none⟩ = some (.int .i64 e.sum) ∧ w'.cell? ⟨w.heap.size, 8, none⟩ = some (.int .i64 e.req.client) ∧ w'.cell? ⟨w.heap.size, 9, none⟩ = some (.int .i64 e.req.no))) (by kernel_rfl) ?_ (fun hHeld => ?_)
        · go_keep
        refine tj 0 rfl ?_
        try simp only [Act.put, ya, yb, yc, yd, ye, yf]
        refine tj 1 rfl ?_
        try simp only [Act.put, ya, yb, yc, yd, ye, yf]
        refine tj 2 rfl ?_
        try simp only [Act.put, ya, yb, yc, yd, ye, yf]
        refine tj 3 rfl ?_
        try simp only [Act.put, ya, yb, yc, yd, ye, yf]
        refine tj 4 rfl ?_
        try simp only [Act.put, ya, yb, yc, yd, ye, yf]
        refine tk 5 (v := undef) rfl (Or.inr ⟨by kernel_rfl, rfl⟩) (by assumption) ?_
        try simp only [Act.put, ya, yb, yc, yd, ye, yf]
        refine tk 6 (v := undef) rfl (Or.inr ⟨by kernel_rfl, rfl⟩) (by assumption) ?_
        try simp only [Act.put, ya, yb, yc, yd, ye, yf]
        refine tk 7 (v := undef) rfl (Or.inr ⟨by kernel_rfl, rfl⟩) (by assumption) ?_
        try simp only [Act.put, ya, yb, yc, yd, ye, yf]
        refine tk 8 (v := undef) rfl (Or.inr ⟨by kernel_rfl, rfl⟩) (by assumption) ?_
        try simp only [Act.put, ya, yb, yc, yd, ye, yf]
        refine tk 9 (v := undef) rfl (Or.inr ⟨by kernel_rfl, rfl⟩) (by assumption) ?_
        try simp only [Act.put, ya, yb, yc, yd, ye, yf]
        refine tk 10 (v := undef) rfl (Or.inr ⟨by kernel_rfl, rfl⟩) (by assumption) ?_
        try simp only [Act.put, ya, yb, yc, yd, ye, yf]
        refine tk 11 (v := undef) rfl (Or.inr ⟨by kernel_rfl, rfl⟩) (by assumption) ?_
        try simp only [Act.put, ya, yb, yc, yd, ye, yf]
        refine tk 12 (v := undef) rfl (Or.inr ⟨by kernel_rfl, rfl⟩) (by assumption) ?_
        try simp only [Act.put, ya, yb, yc, yd, ye, yf]
        refine tj 13 rfl ?_
        try simp only [Act.put, ya, yb, yc, yd, ye, yf]
        refine wpAnyH_done (by kernel_rfl) ?_ _
        refine NoPanic.normal ?_
        have BF := Lib.hid BF.out.drew
        have BW := Lib.hid BW.out.drew
        have EH := Lib.hid EH.out.drew
        generalize wr.drew = wr at *
        have E_0 := EH.out.cells 0 _ rfl
        have E_1 := EH.out.cells 1 _ rfl
        have E_2 := EH.out.cells 2 _ rfl
        have E_3 := EH.out.cells 3 _ rfl
        have E_4 := EH.out.cells 4 _ rfl
        have E_5 := EH.out.cells 5 _ rfl
        have E_6 := EH.out.cells 6 _ rfl
        have E_7 := EH.out.cells 7 _ rfl
        have E_8 := EH.out.cells 8 _ rfl
        have E_9 := EH.out.cells 9 _ rfl
        cases hg : e.gone
        · rw [hg] at E_5 EH
          have NW : newH e = [mkH e] := by unfold newH; rw [hg]; rfl
          rw [NW] at PH
          clear NW
          have PH := Lib.hid PH
          go_wp2_with (first | (at_builtin; refine wpList_append_F (α := DHead) rfl (.tmp 23) (.tmp 26) 36 107 (.agg #[.string ByteArray.empty, .int .i64 0, .int .i64 0, .int .i64 0, .int .i64 0]) 48 rfl Tryz.underlying36 infoHead5 rfl (by omega) (w.alloc (.cells #[.int .i64 e.ver.epoch, .int .i64 e.ver.seq, .int .i64 e.prior.epoch, .int .i64 e.prior.seq, .string e.name, .bool e.gone, .int .i64 e.size, .int .i64 e.sum, .int .i64 e.req.client, .int .i64 e.req.no] 114)).heap.size (.slice (some ⟨wr.heap.size, 0, none⟩) 0 0) [] (l.take 0) rfl (OwnL.made _ _ _ BF.out.size) _ _ (fr := fr) (lo := lo) (sl_len rfl LT.out) ?_ ?_ ?_ ?_; (· exact ((RH.out.below BF.out).take 0).below (lay wr _)); (· simp only [List.length_append, List.length_take, List.length_drop, List.length_cons, List.length_nil]; have := HN.out; omega); (· first | exact Nat.le_trans BF.out.size (by simp) | exact BF.out.size); (intro v1 w1 O1 g1; have G1 := (World.grownBy_alloc wr (.cells #[] 107) (some wr.heap.size)).trans g1; rw [List.nil_append] at O1; have EH := Lib.hid (bxGrown2 EH.out G1 (fun h => (by have h2 := Option.some.inj h; have h3 := BF.out.size; rw [World.size_alloc] at h3; omega))); have BF := Lib.hid (BF.out.grown G1 BF.out.size (fun j hj => (by cases hj; exact BF.out.size))); obtain ⟨E_0, E_1, E_2, E_3, E_4, E_5, E_6, E_7, E_8, E_9⟩ := c10 EH.out; have OH := Lib.hid O1; clear O1 G1 g1)) | (at_builtin; refine wpList_append_F1 (α := DHead) (w := w1) rfl (.tmp 31) (.tmp 41) 36 107 (.agg #[.string ByteArray.empty, .int .i64 0, .int .i64 0, .int .i64 0, .int .i64 0]) 48 ?_ ?_ ?_ ?_ ?_ (w.alloc (.cells #[.int .i64 e.ver.epoch, .int .i64 e.ver.seq, .int .i64 e.prior.epoch, .int .i64 e.prior.seq, .string e.name, .bool e.gone, .int .i64 e.size, .int .i64 e.sum, .int .i64 e.req.client, .int .i64 e.req.no] 114)).heap.size v1 (l.take 0) (mkH e) ?_ ?_ ?_ ?_ ?_ ?_ ?_; (· rfl); (· exact Tryz.underlying36); (· exact infoHead5); (· rfl); (· omega); (· rfl); (· exact OH.out); (· exact WF.out); (· rfl); (· rw [LT.out]; omega); (· exact BF.out.size); (intro v2 w2 O2 g2; have G2 := (World.grownBy_alloc w1 (.cells (Enc.enc (mkH e)).toArray 107) v1.ownBlock).trans g2; have EH := Lib.hid (bxGrown2 EH.out G2 (fun h => (by have h2 := (OH.out.blk h.symm).1; rw [World.size_alloc] at h2; omega))); have BF := Lib.hid (BF.out.grown G2 BF.out.size (fun j hj => (OH.out.blk hj).1)); obtain ⟨E_0, E_1, E_2, E_3, E_4, E_5, E_6, E_7, E_8, E_9⟩ := c10 EH.out; have OH2 := Lib.hid O2; clear O2 G2 g2 OH)))
          have OH := OH2
          clear OH2
          by_cases hck : cap = 0
          · skip
            obtain ⟨E_0, E_1, E_2, E_3, E_4, E_5, E_6, E_7, E_8, E_9⟩ := c10 EH.out
            go_wp2
            refine wp_region_noPanic ?_
            refine wp_region_held_drew (S := (fun w' => w'.cell? ⟨w.heap.size, 0, none⟩ = some (.int .i64 e.ver.epoch) ∧ w'.cell? ⟨w.heap.size, 1, none⟩ = some (.int .i64 e.ver.seq) ∧ w'.cell? ⟨w.heap.size, 2, none⟩ = some (.int .i64 e.prior.epoch) ∧ w'.cell? ⟨w.heap.size, 3, none⟩ = some (.int .i64 e.prior.seq) ∧ w'.cell? ⟨w.heap.size, 4, none⟩ = some (.string e.name) ∧ w'.cell? ⟨w.heap.size, 5, none⟩ = some (.bool e.gone) ∧ w'.cell? ⟨w.heap.size, 6, none⟩ = some (.int .i64 e.size) ∧ w'.cell? ⟨w.heap.size, 7, none⟩ = some (.int .i64 e.sum) ∧ w'.cell? ⟨w.heap.size, 8, none⟩ = some (.int .i64 e.req.client) ∧ w'.cell? ⟨w.heap.size, 9, none⟩ = some (.int .i64 e.req.no))) (by kernel_rfl) ?_ (fun hHeld => ?_)
            · go_keep
            refine tj 0 rfl ?_
            try simp only [Act.put, ya, yb, yc, yd, ye, yf]
            refine tj 1 rfl ?_
            try simp only [Act.put, ya, yb, yc, yd, ye, yf]
            refine tj 2 rfl ?_
            try simp only [Act.put, ya, yb, yc, yd, ye, yf]
            refine tj 3 rfl ?_
            try simp only [Act.put, ya, yb, yc, yd, ye, yf]
            refine tj 4 rfl ?_
            try simp only [Act.put, ya, yb, yc, yd, ye, yf]
            refine tk 5 (v := undef) rfl (Or.inr ⟨by kernel_rfl, rfl⟩) (by assumption) ?_
            try simp only [Act.put, ya, yb, yc, yd, ye, yf]
            refine tk 6 (v := undef) rfl (Or.inr ⟨by kernel_rfl, rfl⟩) (by assumption) ?_
            try simp only [Act.put, ya, yb, yc, yd, ye, yf]
            refine tk 7 (v := undef) rfl (Or.inr ⟨by kernel_rfl, rfl⟩) (by assumption) ?_
            try simp only [Act.put, ya, yb, yc, yd, ye, yf]
            refine tk 8 (v := undef) rfl (Or.inr ⟨by kernel_rfl, rfl⟩) (by assumption) ?_
            try simp only [Act.put, ya, yb, yc, yd, ye, yf]
            refine tk 9 (v := undef) rfl (Or.inr ⟨by kernel_rfl, rfl⟩) (by assumption) ?_
            try simp only [Act.put, ya, yb, yc, yd, ye, yf]
            refine tk 10 (v := undef) rfl (Or.inr ⟨by kernel_rfl, rfl⟩) (by assumption) ?_
            try simp only [Act.put, ya, yb, yc, yd, ye, yf]
            refine tk 11 (v := undef) rfl (Or.inr ⟨by kernel_rfl, rfl⟩) (by assumption) ?_
            try simp only [Act.put, ya, yb, yc, yd, ye, yf]
            refine tk 12 (v := undef) rfl (Or.inr ⟨by kernel_rfl, rfl⟩) (by assumption) ?_
            try simp only [Act.put, ya, yb, yc, yd, ye, yf]
            refine tj 13 rfl ?_
            try simp only [Act.put, ya, yb, yc, yd, ye, yf]
            refine wpAnyH_done (by kernel_rfl) ?_ _
            refine NoPanic.normal ?_
            have BF := Lib.hid BF.out.drew
            have OH := Lib.hid (show OwnL 107 (w.alloc (.cells #[.int .i64 e.ver.epoch, .int .i64 e.ver.seq, .int .i64 e.prior.epoch, .int .i64 e.prior.seq, .string e.name, .bool e.gone, .int .i64 e.size, .int .i64 e.sum, .int .i64 e.req.client, .int .i64 e.req.no] 114)).heap.size w2.drew _ _ from OH.out.later (Below.refl _ _).drew)
            generalize w2.drew = wz at *
            go_wp2_with (at_builtin; refine wpList_append_F (α := DHead) rfl (.tmp 59) (.tmp 62) 36 107 (.agg #[.string ByteArray.empty, .int .i64 0, .int .i64 0, .int .i64 0, .int .i64 0]) 48 rfl Tryz.underlying36 infoHead5 rfl (by omega) (w.alloc (.cells #[.int .i64 e.ver.epoch, .int .i64 e.ver.seq, .int .i64 e.prior.epoch, .int .i64 e.prior.seq, .string e.name, .bool e.gone, .int .i64 e.size, .int .i64 e.sum, .int .i64 e.req.client, .int .i64 e.req.no] 114)).heap.size v2 (l.take 0 ++ [mkH e]) (l.drop (0)) rfl OH.out _ _ (fr := fr) (lo := lo) (sl_len rfl (by have h1 := HN.out; have h2 := List.length_drop (i := 0) (l := l); omega)) ?_ ?_ ?_ ?_; (· first | exact .inl (List.drop_eq_nil_of_le (by have := HN.out; omega)) | exact (RH.out.below BF.out).drop (0)); (· simp only [List.length_append, List.length_take, List.length_drop, List.length_cons, List.length_nil]; have := HN.out; omega); (· first | exact Nat.le_trans BF.out.size (by simp) | exact BF.out.size); (intro v3 w3 O3 g3))
            have F3 := Lib.hid (AnsL.of O3 LW.out.size (chainX w LW.out (BF.out.grown g3 BF.out.size (fun j hj => (OH.out.blk hj).1))))
            rw [PH.out]
            clear O3 g3
            go_wp2
            go_ret
            have F4 := F3.out
            simp only [List.append_assoc, List.nil_append, List.singleton_append, List.cons_append] at F4 ⊢
            exact F4
          · skip
            obtain ⟨E_0, E_1, E_2, E_3, E_4, E_5, E_6, E_7, E_8, E_9⟩ := c10 EH.out
            go_wp2
            refine wp_region_noPanic ?_
            refine wp_region_held_drew (S := (fun w' => w'.cell? ⟨w.heap.size, 0, none⟩ = some (.int .i64 e.ver.epoch) ∧ w'.cell? ⟨w.heap.size, 1, none⟩ = some (.int .i64 e.ver.seq) ∧ w'.cell? ⟨w.heap.size, 2, none⟩ = some (.int .i64 e.prior.epoch) ∧ w'.cell? ⟨w.heap.size, 3, none⟩ = some (.int .i64 e.prior.seq) ∧ w'.cell? ⟨w.heap.size, 4, none⟩ = some (.string e.name) ∧ w'.cell? ⟨w.heap.size, 5, none⟩ = some (.bool e.gone) ∧ w'.cell? ⟨w.heap.size, 6, none⟩ = some (.int .i64 e.size) ∧ w'.cell? ⟨w.heap.size, 7, none⟩ = some (.int .i64 e.sum) ∧ w'.cell? ⟨w.heap.size, 8, none⟩ = some (.int .i64 e.req.client) ∧ w'.cell? ⟨w.heap.size, 9, none⟩ = some (.int .i64 e.req.no))) (by kernel_rfl) ?_ (fun hHeld => ?_)
            · go_keep
            refine tj 0 rfl ?_
            try simp only [Act.put, ya, yb, yc, yd, ye, yf]
            refine tj 1 rfl ?_
            try simp only [Act.put, ya, yb, yc, yd, ye, yf]
            refine tj 2 rfl ?_
            try simp only [Act.put, ya, yb, yc, yd, ye, yf]
            refine tj 3 rfl ?_
            try simp only [Act.put, ya, yb, yc, yd, ye, yf]
            refine tj 4 rfl ?_
            try simp only [Act.put, ya, yb, yc, yd, ye, yf]
            refine tk 5 (v := undef) rfl (Or.inr ⟨by kernel_rfl, rfl⟩) (by assumption) ?_
            try simp only [Act.put, ya, yb, yc, yd, ye, yf]
            refine tk 6 (v := undef) rfl (Or.inr ⟨by kernel_rfl, rfl⟩) (by assumption) ?_
            try simp only [Act.put, ya, yb, yc, yd, ye, yf]
            refine tk 7 (v := undef) rfl (Or.inr ⟨by kernel_rfl, rfl⟩) (by assumption) ?_
            try simp only [Act.put, ya, yb, yc, yd, ye, yf]
            refine tk 8 (v := undef) rfl (Or.inr ⟨by kernel_rfl, rfl⟩) (by assumption) ?_
            try simp only [Act.put, ya, yb, yc, yd, ye, yf]
            refine tk 9 (v := undef) rfl (Or.inr ⟨by kernel_rfl, rfl⟩) (by assumption) ?_
            try simp only [Act.put, ya, yb, yc, yd, ye, yf]
            refine tk 10 (v := undef) rfl (Or.inr ⟨by kernel_rfl, rfl⟩) (by assumption) ?_
            try simp only [Act.put, ya, yb, yc, yd, ye, yf]
            refine tk 11 (v := undef) rfl (Or.inr ⟨by kernel_rfl, rfl⟩) (by assumption) ?_
            try simp only [Act.put, ya, yb, yc, yd, ye, yf]
            refine tk 12 (v := undef) rfl (Or.inr ⟨by kernel_rfl, rfl⟩) (by assumption) ?_
            try simp only [Act.put, ya, yb, yc, yd, ye, yf]
            refine tj 13 rfl ?_
            try simp only [Act.put, ya, yb, yc, yd, ye, yf]
            refine wpAnyH_done (by kernel_rfl) ?_ _
            refine NoPanic.normal ?_
            have BF := Lib.hid BF.out.drew
            have OH := Lib.hid (show OwnL 107 (w.alloc (.cells #[.int .i64 e.ver.epoch, .int .i64 e.ver.seq, .int .i64 e.prior.epoch, .int .i64 e.prior.seq, .string e.name, .bool e.gone, .int .i64 e.size, .int .i64 e.sum, .int .i64 e.req.client, .int .i64 e.req.no] 114)).heap.size w2.drew _ _ from OH.out.later (Below.refl _ _).drew)
            generalize w2.drew = wz at *
            go_wp2_with (at_builtin; refine wpList_append_F (α := DHead) rfl (.tmp 59) (.tmp 62) 36 107 (.agg #[.string ByteArray.empty, .int .i64 0, .int .i64 0, .int .i64 0, .int .i64 0]) 48 rfl Tryz.underlying36 infoHead5 rfl (by omega) (w.alloc (.cells #[.int .i64 e.ver.epoch, .int .i64 e.ver.seq, .int .i64 e.prior.epoch, .int .i64 e.prior.seq, .string e.name, .bool e.gone, .int .i64 e.size, .int .i64 e.sum, .int .i64 e.req.client, .int .i64 e.req.no] 114)).heap.size v2 (l.take 0 ++ [mkH e]) (l.drop (0)) rfl OH.out _ _ (fr := fr) (lo := lo) (sl_len rfl (by have h1 := HN.out; have h2 := List.length_drop (i := 0) (l := l); omega)) ?_ ?_ ?_ ?_; (· first | exact .inl (List.drop_eq_nil_of_le (by have := HN.out; omega)) | exact (RH.out.below BF.out).drop (0)); (· simp only [List.length_append, List.length_take, List.length_drop, List.length_cons, List.length_nil]; have := HN.out; omega); (· first | exact Nat.le_trans BF.out.size (by simp) | exact BF.out.size); (intro v3 w3 O3 g3))
            have F3 := Lib.hid (AnsL.of O3 LW.out.size (chainX w LW.out (BF.out.grown g3 BF.out.size (fun j hj => (OH.out.blk hj).1))))
            rw [PH.out]
            clear O3 g3
            go_wp2
            go_ret
            have F4 := F3.out
            simp only [List.append_assoc, List.nil_append, List.singleton_append, List.cons_append] at F4 ⊢
            exact F4
        · rw [hg] at E_5 EH
          have NW : newH e = [] := by unfold newH; rw [hg]; rfl
          rw [NW] at PH
          clear NW
          have PH := Lib.hid PH
          go_wp2_with (at_builtin; refine wpList_append_F (α := DHead) rfl (.tmp 23) (.tmp 26) 36 107 (.agg #[.string ByteArray.empty, .int .i64 0, .int .i64 0, .int .i64 0, .int .i64 0]) 48 rfl Tryz.underlying36 infoHead5 rfl (by omega) (w.alloc (.cells #[.int .i64 e.ver.epoch, .int .i64 e.ver.seq, .int .i64 e.prior.epoch, .int .i64 e.prior.seq, .string e.name, .bool e.gone, .int .i64 e.size, .int .i64 e.sum, .int .i64 e.req.client, .int .i64 e.req.no] 114)).heap.size (.slice (some ⟨wr.heap.size, 0, none⟩) 0 0) [] (l.take 0) rfl (OwnL.made _ _ _ BF.out.size) _ _ (fr := fr) (lo := lo) (sl_len rfl LT.out) ?_ ?_ ?_ ?_; (· exact ((RH.out.below BF.out).take 0).below (lay wr _)); (· simp only [List.length_append, List.length_take, List.length_drop, List.length_cons, List.length_nil]; have := HN.out; omega); (· first | exact Nat.le_trans BF.out.size (by simp) | exact BF.out.size); (intro v1 w1 O1 g1; have G1 := (World.grownBy_alloc wr (.cells #[] 107) (some wr.heap.size)).trans g1; rw [List.nil_append] at O1; have EH := Lib.hid (bxGrown2 EH.out G1 (fun h => (by have h2 := Option.some.inj h; have h3 := BF.out.size; rw [World.size_alloc] at h3; omega))); have BF := Lib.hid (BF.out.grown G1 BF.out.size (fun j hj => (by cases hj; exact BF.out.size))); obtain ⟨E_0, E_1, E_2, E_3, E_4, E_5, E_6, E_7, E_8, E_9⟩ := c10 EH.out; have OH := Lib.hid O1; clear O1 G1 g1))
          by_cases hck : cap = 0
          · skip
            obtain ⟨E_0, E_1, E_2, E_3, E_4, E_5, E_6, E_7, E_8, E_9⟩ := c10 EH.out
            go_wp2
            refine wp_region_noPanic ?_
            refine wp_region_held_drew (S := (fun w' => w'.cell? ⟨w.heap.size, 0, none⟩ = some (.int .i64 e.ver.epoch) ∧ w'.cell? ⟨w.heap.size, 1, none⟩ = some (.int .i64 e.ver.seq) ∧ w'.cell? ⟨w.heap.size, 2, none⟩ = some (.int .i64 e.prior.epoch) ∧ w'.cell? ⟨w.heap.size, 3, none⟩ = some (.int .i64 e.prior.seq) ∧ w'.cell? ⟨w.heap.size, 4, none⟩ = some (.string e.name) ∧ w'.cell? ⟨w.heap.size, 5, none⟩ = some (.bool e.gone) ∧ w'.cell? ⟨w.heap.size, 6, none⟩ = some (.int .i64 e.size) ∧ w'.cell? ⟨w.heap.size, 7, none⟩ = some (.int .i64 e.sum) ∧ w'.cell? ⟨w.heap.size, 8, none⟩ = some (.int .i64 e.req.client) ∧ w'.cell? ⟨w.heap.size, 9, none⟩ = some (.int .i64 e.req.no))) (by kernel_rfl) ?_ (fun hHeld => ?_)
            · go_keep
            refine tj 0 rfl ?_
            try simp only [Act.put, ya, yb, yc, yd, ye, yf]
            refine tj 1 rfl ?_
            try simp only [Act.put, ya, yb, yc, yd, ye, yf]
            refine tj 2 rfl ?_
            try simp only [Act.put, ya, yb, yc, yd, ye, yf]
            refine tj 3 rfl ?_
            try simp only [Act.put, ya, yb, yc, yd, ye, yf]
            refine tj 4 rfl ?_
            try simp only [Act.put, ya, yb, yc, yd, ye, yf]
            refine tk 5 (v := undef) rfl (Or.inr ⟨by kernel_rfl, rfl⟩) (by assumption) ?_
            try simp only [Act.put, ya, yb, yc, yd, ye, yf]
            refine tk 6 (v := undef) rfl (Or.inr ⟨by kernel_rfl, rfl⟩) (by assumption) ?_
            try simp only [Act.put, ya, yb, yc, yd, ye, yf]
            refine tk 7 (v := undef) rfl (Or.inr ⟨by kernel_rfl, rfl⟩) (by assumption) ?_
            try simp only [Act.put, ya, yb, yc, yd, ye, yf]
            refine tk 8 (v := undef) rfl (Or.inr ⟨by kernel_rfl, rfl⟩) (by assumption) ?_
            try simp only [Act.put, ya, yb, yc, yd, ye, yf]
            refine tk 9 (v := undef) rfl (Or.inr ⟨by kernel_rfl, rfl⟩) (by assumption) ?_
            try simp only [Act.put, ya, yb, yc, yd, ye, yf]
            refine tk 10 (v := undef) rfl (Or.inr ⟨by kernel_rfl, rfl⟩) (by assumption) ?_
            try simp only [Act.put, ya, yb, yc, yd, ye, yf]
            refine tk 11 (v := undef) rfl (Or.inr ⟨by kernel_rfl, rfl⟩) (by assumption) ?_
            try simp only [Act.put, ya, yb, yc, yd, ye, yf]
            refine tk 12 (v := undef) rfl (Or.inr ⟨by kernel_rfl, rfl⟩) (by assumption) ?_
            try simp only [Act.put, ya, yb, yc, yd, ye, yf]
            refine tj 13 rfl ?_
            try simp only [Act.put, ya, yb, yc, yd, ye, yf]
            refine wpAnyH_done (by kernel_rfl) ?_ _
            refine NoPanic.normal ?_
            have BF := Lib.hid BF.out.drew
            have OH := Lib.hid (show OwnL 107 (w.alloc (.cells #[.int .i64 e.ver.epoch, .int .i64 e.ver.seq, .int .i64 e.prior.epoch, .int .i64 e.prior.seq, .string e.name, .bool e.gone, .int .i64 e.size, .int .i64 e.sum, .int .i64 e.req.client, .int .i64 e.req.no] 114)).heap.size w1.drew _ _ from OH.out.later (Below.refl _ _).drew)
            generalize w1.drew = wz at *
            go_wp2_with (at_builtin; refine wpList_append_F (α := DHead) rfl (.tmp 59) (.tmp 62) 36 107 (.agg #[.string ByteArray.empty, .int .i64 0, .int .i64 0, .int .i64 0, .int .i64 0]) 48 rfl Tryz.underlying36 infoHead5 rfl (by omega) (w.alloc (.cells #[.int .i64 e.ver.epoch, .int .i64 e.ver.seq, .int .i64 e.prior.epoch, .int .i64 e.prior.seq, .string e.name, .bool e.gone, .int .i64 e.size, .int .i64 e.sum, .int .i64 e.req.client, .int .i64 e.req.no] 114)).heap.size v1 (l.take 0) (l.drop (0)) rfl OH.out _ _ (fr := fr) (lo := lo) (sl_len rfl (by have h1 := HN.out; have h2 := List.length_drop (i := 0) (l := l); omega)) ?_ ?_ ?_ ?_; (· first | exact .inl (List.drop_eq_nil_of_le (by have := HN.out; omega)) | exact (RH.out.below BF.out).drop (0)); (· simp only [List.length_append, List.length_take, List.length_drop, List.length_cons, List.length_nil]; have := HN.out; omega); (· first | exact Nat.le_trans BF.out.size (by simp) | exact BF.out.size); (intro v3 w3 O3 g3))
            have F3 := Lib.hid (AnsL.of O3 LW.out.size (chainX w LW.out (BF.out.grown g3 BF.out.size (fun j hj => (OH.out.blk hj).1))))
            rw [PH.out]
            clear O3 g3
            go_wp2
            go_ret
            have F4 := F3.out
            simp only [List.append_assoc, List.nil_append, List.singleton_append, List.cons_append] at F4 ⊢
            exact F4
          · skip
            obtain ⟨E_0, E_1, E_2, E_3, E_4, E_5, E_6, E_7, E_8, E_9⟩ := c10 EH.out
            go_wp2
            refine wp_region_noPanic ?_
            refine wp_region_held_drew (S := (fun w' => w'.cell? ⟨w.heap.size, 0, none⟩ = some (.int .i64 e.ver.epoch) ∧ w'.cell? ⟨w.heap.size, 1, none⟩ = some (.int .i64 e.ver.seq) ∧ w'.cell? ⟨w.heap.size, 2, none⟩ = some (.int .i64 e.prior.epoch) ∧ w'.cell? ⟨w.heap.size, 3, none⟩ = some (.int .i64 e.prior.seq) ∧ w'.cell? ⟨w.heap.size, 4, none⟩ = some (.string e.name) ∧ w'.cell? ⟨w.heap.size, 5, none⟩ = some (.bool e.gone) ∧ w'.cell? ⟨w.heap.size, 6, none⟩ = some (.int .i64 e.size) ∧ w'.cell? ⟨w.heap.size, 7, none⟩ = some (.int .i64 e.sum) ∧ w'.cell? ⟨w.heap.size, 8, none⟩ = some (.int .i64 e.req.client) ∧ w'.cell? ⟨w.heap.size, 9, none⟩ = some (.int .i64 e.req.no))) (by kernel_rfl) ?_ (fun hHeld => ?_)
            · go_keep
            refine tj 0 rfl ?_
            try simp only [Act.put, ya, yb, yc, yd, ye, yf]
            refine tj 1 rfl ?_
            try simp only [Act.put, ya, yb, yc, yd, ye, yf]
            refine tj 2 rfl ?_
            try simp only [Act.put, ya, yb, yc, yd, ye, yf]
            refine tj 3 rfl ?_
            try simp only [Act.put, ya, yb, yc, yd, ye, yf]
            refine tj 4 rfl ?_
            try simp only [Act.put, ya, yb, yc, yd, ye, yf]
            refine tk 5 (v := undef) rfl (Or.inr ⟨by kernel_rfl, rfl⟩) (by assumption) ?_
            try simp only [Act.put, ya, yb, yc, yd, ye, yf]
            refine tk 6 (v := undef) rfl (Or.inr ⟨by kernel_rfl, rfl⟩) (by assumption) ?_
            try simp only [Act.put, ya, yb, yc, yd, ye, yf]
            refine tk 7 (v := undef) rfl (Or.inr ⟨by kernel_rfl, rfl⟩) (by assumption) ?_
            try simp only [Act.put, ya, yb, yc, yd, ye, yf]
            refine tk 8 (v := undef) rfl (Or.inr ⟨by kernel_rfl, rfl⟩) (by assumption) ?_
            try simp only [Act.put, ya, yb, yc, yd, ye, yf]
            refine tk 9 (v := undef) rfl (Or.inr ⟨by kernel_rfl, rfl⟩) (by assumption) ?_
            try simp only [Act.put, ya, yb, yc, yd, ye, yf]
            refine tk 10 (v := undef) rfl (Or.inr ⟨by kernel_rfl, rfl⟩) (by assumption) ?_
            try simp only [Act.put, ya, yb, yc, yd, ye, yf]
            refine tk 11 (v := undef) rfl (Or.inr ⟨by kernel_rfl, rfl⟩) (by assumption) ?_
            try simp only [Act.put, ya, yb, yc, yd, ye, yf]
            refine tk 12 (v := undef) rfl (Or.inr ⟨by kernel_rfl, rfl⟩) (by assumption) ?_
            try simp only [Act.put, ya, yb, yc, yd, ye, yf]
            refine tj 13 rfl ?_
            try simp only [Act.put, ya, yb, yc, yd, ye, yf]
            refine wpAnyH_done (by kernel_rfl) ?_ _
            refine NoPanic.normal ?_
            have BF := Lib.hid BF.out.drew
            have OH := Lib.hid (show OwnL 107 (w.alloc (.cells #[.int .i64 e.ver.epoch, .int .i64 e.ver.seq, .int .i64 e.prior.epoch, .int .i64 e.prior.seq, .string e.name, .bool e.gone, .int .i64 e.size, .int .i64 e.sum, .int .i64 e.req.client, .int .i64 e.req.no] 114)).heap.size w1.drew _ _ from OH.out.later (Below.refl _ _).drew)
            generalize w1.drew = wz at *
            go_wp2_with (at_builtin; refine wpList_append_F (α := DHead) rfl (.tmp 59) (.tmp 62) 36 107 (.agg #[.string ByteArray.empty, .int .i64 0, .int .i64 0, .int .i64 0, .int .i64 0]) 48 rfl Tryz.underlying36 infoHead5 rfl (by omega) (w.alloc (.cells #[.int .i64 e.ver.epoch, .int .i64 e.ver.seq, .int .i64 e.prior.epoch, .int .i64 e.prior.seq, .string e.name, .bool e.gone, .int .i64 e.size, .int .i64 e.sum, .int .i64 e.req.client, .int .i64 e.req.no] 114)).heap.size v1 (l.take 0) (l.drop (0)) rfl OH.out _ _ (fr := fr) (lo := lo) (sl_len rfl (by have h1 := HN.out; have h2 := List.length_drop (i := 0) (l := l); omega)) ?_ ?_ ?_ ?_; (· first | exact .inl (List.drop_eq_nil_of_le (by have := HN.out; omega)) | exact (RH.out.below BF.out).drop (0)); (· simp only [List.length_append, List.length_take, List.length_drop, List.length_cons, List.length_nil]; have := HN.out; omega); (· first | exact Nat.le_trans BF.out.size (by simp) | exact BF.out.size); (intro v3 w3 O3 g3))
            have F3 := Lib.hid (AnsL.of O3 LW.out.size (chainX w LW.out (BF.out.grown g3 BF.out.size (fun j hj => (OH.out.blk hj).1))))
            rw [PH.out]
            clear O3 g3
            go_wp2
            go_ret
            have F4 := F3.out
            simp only [List.append_assoc, List.nil_append, List.singleton_append, List.cons_append] at F4 ⊢
            exact F4
      · skip
        obtain ⟨E_0, E_1, E_2, E_3, E_4, E_5, E_6, E_7, E_8, E_9⟩ := c10 EH.out
        go_wp2
        refine wp_region_noPanic ?_
        refine wp_region_held_drew (S := (fun w' => w'.cell? ⟨w.heap.size, 0, none⟩ = some (.int .i64 e.ver.epoch) ∧ w'.cell? ⟨w.heap.size, 1, none⟩ = some (.int .i64 e.ver.seq) ∧ w'.cell? ⟨w.heap.size, 2, none⟩ = some (.int .i64 e.prior.epoch) ∧ w'.cell? ⟨w.heap.size, 3, none⟩ = some (.int .i64 e.prior.seq) ∧ w'.cell? ⟨w.heap.size, 4, none⟩ = some (.string e.name) ∧ w'.cell? ⟨w.heap.size, 5, none⟩ = some (.bool e.gone) ∧ w'.cell? ⟨w.heap.size, 6, none⟩ = some (.int .i64 e.size) ∧ w'.cell? ⟨w.heap.size, 7, none⟩ = some (.int .i64 e.sum) ∧ w'.cell? ⟨w.heap.size, 8, none⟩ = some (.int .i64 e.req.client) ∧ w'.cell? ⟨w.heap.size, 9, none⟩ = some (.int .i64 e.req.no))) (by kernel_rfl) ?_ (fun hHeld => ?_)
        · go_keep
        refine tj 0 rfl ?_
        try simp only [Act.put, ya, yb, yc, yd, ye, yf]
        refine tj 1 rfl ?_
        try simp only [Act.put, ya, yb, yc, yd, ye, yf]
        refine tj 2 rfl ?_
        try simp only [Act.put, ya, yb, yc, yd, ye, yf]
        refine tj 3 rfl ?_
        try simp only [Act.put, ya, yb, yc, yd, ye, yf]
        refine tj 4 rfl ?_
        try simp only [Act.put, ya, yb, yc, yd, ye, yf]
        refine tk 5 (v := undef) rfl (Or.inr ⟨by kernel_rfl, rfl⟩) (by assumption) ?_
        try simp only [Act.put, ya, yb, yc, yd, ye, yf]
        refine tk 6 (v := undef) rfl (Or.inr ⟨by kernel_rfl, rfl⟩) (by assumption) ?_
        try simp only [Act.put, ya, yb, yc, yd, ye, yf]
        refine tk 7 (v := undef) rfl (Or.inr ⟨by kernel_rfl, rfl⟩) (by assumption) ?_
        try simp only [Act.put, ya, yb, yc, yd, ye, yf]
        refine tk 8 (v := undef) rfl (Or.inr ⟨by kernel_rfl, rfl⟩) (by assumption) ?_
        try simp only [Act.put, ya, yb, yc, yd, ye, yf]
        refine tk 9 (v := undef) rfl (Or.inr ⟨by kernel_rfl, rfl⟩) (by assumption) ?_
        try simp only [Act.put, ya, yb, yc, yd, ye, yf]
        refine tk 10 (v := undef) rfl (Or.inr ⟨by kernel_rfl, rfl⟩) (by assumption) ?_
        try simp only [Act.put, ya, yb, yc, yd, ye, yf]
        refine tk 11 (v := undef) rfl (Or.inr ⟨by kernel_rfl, rfl⟩) (by assumption) ?_
        try simp only [Act.put, ya, yb, yc, yd, ye, yf]
        refine tk 12 (v := undef) rfl (Or.inr ⟨by kernel_rfl, rfl⟩) (by assumption) ?_
        try simp only [Act.put, ya, yb, yc, yd, ye, yf]
        refine tj 13 rfl ?_
        try simp only [Act.put, ya, yb, yc, yd, ye, yf]
        refine wpAnyH_done (by kernel_rfl) ?_ _
        refine NoPanic.normal ?_
        have BF := Lib.hid BF.out.drew
        have BW := Lib.hid BW.out.drew
        have EH := Lib.hid EH.out.drew
        generalize wr.drew = wr at *
        have E_0 := EH.out.cells 0 _ rfl
        have E_1 := EH.out.cells 1 _ rfl
        have E_2 := EH.out.cells 2 _ rfl
        have E_3 := EH.out.cells 3 _ rfl
        have E_4 := EH.out.cells 4 _ rfl
        have E_5 := EH.out.cells 5 _ rfl
        have E_6 := EH.out.cells 6 _ rfl
        have E_7 := EH.out.cells 7 _ rfl
        have E_8 := EH.out.cells 8 _ rfl
        have E_9 := EH.out.cells 9 _ rfl
        cases hg : e.gone
        · rw [hg] at E_5 EH
          have NW : newH e = [mkH e] := by unfold newH; rw [hg]; rfl
          rw [NW] at PH
          clear NW
          have PH := Lib.hid PH
          go_wp2_with (first | (at_builtin; refine wpList_append_F (α := DHead) rfl (.tmp 23) (.tmp 26) 36 107 (.agg #[.string ByteArray.empty, .int .i64 0, .int .i64 0, .int .i64 0, .int .i64 0]) 48 rfl Tryz.underlying36 infoHead5 rfl (by omega) (w.alloc (.cells #[.int .i64 e.ver.epoch, .int .i64 e.ver.seq, .int .i64 e.prior.epoch, .int .i64 e.prior.seq, .string e.name, .bool e.gone, .int .i64 e.size, .int .i64 e.sum, .int .i64 e.req.client, .int .i64 e.req.no] 114)).heap.size (.slice (some ⟨wr.heap.size, 0, none⟩) 0 0) [] (l.take k) rfl (OwnL.made _ _ _ BF.out.size) _ _ (fr := fr) (lo := lo) (sl_len rfl LT.out) ?_ ?_ ?_ ?_; (· exact ((RH.out.below BF.out).take k).below (lay wr _)); (· simp only [List.length_append, List.length_take, List.length_drop, List.length_cons, List.length_nil]; have := HN.out; omega); (· first | exact Nat.le_trans BF.out.size (by simp) | exact BF.out.size); (intro v1 w1 O1 g1; have G1 := (World.grownBy_alloc wr (.cells #[] 107) (some wr.heap.size)).trans g1; rw [List.nil_append] at O1; have EH := Lib.hid (bxGrown2 EH.out G1 (fun h => (by have h2 := Option.some.inj h; have h3 := BF.out.size; rw [World.size_alloc] at h3; omega))); have BF := Lib.hid (BF.out.grown G1 BF.out.size (fun j hj => (by cases hj; exact BF.out.size))); obtain ⟨E_0, E_1, E_2, E_3, E_4, E_5, E_6, E_7, E_8, E_9⟩ := c10 EH.out; have OH := Lib.hid O1; clear O1 G1 g1)) | (at_builtin; refine wpList_append_F1 (α := DHead) (w := w1) rfl (.tmp 31) (.tmp 41) 36 107 (.agg #[.string ByteArray.empty, .int .i64 0, .int .i64 0, .int .i64 0, .int .i64 0]) 48 ?_ ?_ ?_ ?_ ?_ (w.alloc (.cells #[.int .i64 e.ver.epoch, .int .i64 e.ver.seq, .int .i64 e.prior.epoch, .int .i64 e.prior.seq, .string e.name, .bool e.gone, .int .i64 e.size, .int .i64 e.sum, .int .i64 e.req.client, .int .i64 e.req.no] 114)).heap.size v1 (l.take k) (mkH e) ?_ ?_ ?_ ?_ ?_ ?_ ?_; (· rfl); (· exact Tryz.underlying36); (· exact infoHead5); (· rfl); (· omega); (· rfl); (· exact OH.out); (· exact WF.out); (· rfl); (· rw [LT.out]; omega); (· exact BF.out.size); (intro v2 w2 O2 g2; have G2 := (World.grownBy_alloc w1 (.cells (Enc.enc (mkH e)).toArray 107) v1.ownBlock).trans g2; have EH := Lib.hid (bxGrown2 EH.out G2 (fun h => (by have h2 := (OH.out.blk h.symm).1; rw [World.size_alloc] at h2; omega))); have BF := Lib.hid (BF.out.grown G2 BF.out.size (fun j hj => (OH.out.blk hj).1)); obtain ⟨E_0, E_1, E_2, E_3, E_4, E_5, E_6, E_7, E_8, E_9⟩ := c10 EH.out; have OH2 := Lib.hid O2; clear O2 G2 g2 OH)))
          have OH := OH2
          clear OH2
          by_cases hck : cap = k
          · skip
            obtain ⟨E_0, E_1, E_2, E_3, E_4, E_5, E_6, E_7, E_8, E_9⟩ := c10 EH.out
            go_wp2
            refine wp_region_noPanic ?_
            refine wp_region_held_drew (S := (fun w' => w'.cell? ⟨w.heap.size, 0, none⟩ = some (.int .i64 e.ver.epoch) ∧ w'.cell? ⟨w.heap.size, 1, none⟩ = some (.int .i64 e.ver.seq) ∧ w'.cell? ⟨w.heap.size, 2, none⟩ = some (.int .i64 e.prior.epoch) ∧ w'.cell? ⟨w.heap.size, 3, none⟩ = some (.int .i64 e.prior.seq) ∧ w'.cell? ⟨w.heap.size, 4, none⟩ = some (.string e.name) ∧ w'.cell? ⟨w.heap.size, 5, none⟩ = some (.bool e.gone) ∧ w'.cell? ⟨w.heap.size, 6, none⟩ = some (.int .i64 e.size) ∧ w'.cell? ⟨w.heap.size, 7, none⟩ = some (.int .i64 e.sum) ∧ w'.cell? ⟨w.heap.size, 8, none⟩ = some (.int .i64 e.req.client) ∧ w'.cell? ⟨w.heap.size, 9, none⟩ = some (.int .i64 e.req.no))) (by kernel_rfl) ?_ (fun hHeld => ?_)
            · go_keep
            refine tj 0 rfl ?_
            try simp only [Act.put, ya, yb, yc, yd, ye, yf]
            refine tj 1 rfl ?_
            try simp only [Act.put, ya, yb, yc, yd, ye, yf]
            refine tj 2 rfl ?_
            try simp only [Act.put, ya, yb, yc, yd, ye, yf]
            refine tj 3 rfl ?_
            try simp only [Act.put, ya, yb, yc, yd, ye, yf]
            refine tj 4 rfl ?_
            try simp only [Act.put, ya, yb, yc, yd, ye, yf]
            refine tk 5 (v := undef) rfl (Or.inr ⟨by kernel_rfl, rfl⟩) (by assumption) ?_
            try simp only [Act.put, ya, yb, yc, yd, ye, yf]
            refine tk 6 (v := undef) rfl (Or.inr ⟨by kernel_rfl, rfl⟩) (by assumption) ?_
            try simp only [Act.put, ya, yb, yc, yd, ye, yf]
            refine tk 7 (v := undef) rfl (Or.inr ⟨by kernel_rfl, rfl⟩) (by assumption) ?_
            try simp only [Act.put, ya, yb, yc, yd, ye, yf]
            refine tk 8 (v := undef) rfl (Or.inr ⟨by kernel_rfl, rfl⟩) (by assumption) ?_
            try simp only [Act.put, ya, yb, yc, yd, ye, yf]
            refine tk 9 (v := undef) rfl (Or.inr ⟨by kernel_rfl, rfl⟩) (by assumption) ?_
            try simp only [Act.put, ya, yb, yc, yd, ye, yf]
            refine tk 10 (v := undef) rfl (Or.inr ⟨by kernel_rfl, rfl⟩) (by assumption) ?_
            try simp only [Act.put, ya, yb, yc, yd, ye, yf]
            refine tk 11 (v := undef) rfl (Or.inr ⟨by kernel_rfl, rfl⟩) (by assumption) ?_
            try simp only [Act.put, ya, yb, yc, yd, ye, yf]
            refine tk 12 (v := undef) rfl (Or.inr ⟨by kernel_rfl, rfl⟩) (by assumption) ?_
            try simp only [Act.put, ya, yb, yc, yd, ye, yf]
            refine tj 13 rfl ?_
            try simp only [Act.put, ya, yb, yc, yd, ye, yf]
            refine wpAnyH_done (by kernel_rfl) ?_ _
            refine NoPanic.normal ?_
            have BF := Lib.hid BF.out.drew
            have OH := Lib.hid (show OwnL 107 (w.alloc (.cells #[.int .i64 e.ver.epoch, .int .i64 e.ver.seq, .int .i64 e.prior.epoch, .int .i64 e.prior.seq, .string e.name, .bool e.gone, .int .i64 e.size, .int .i64 e.sum, .int .i64 e.req.client, .int .i64 e.req.no] 114)).heap.size w2.drew _ _ from OH.out.later (Below.refl _ _).drew)
            generalize w2.drew = wz at *
            go_wp2_with (at_builtin; refine wpList_append_F (α := DHead) rfl (.tmp 59) (.tmp 62) 36 107 (.agg #[.string ByteArray.empty, .int .i64 0, .int .i64 0, .int .i64 0, .int .i64 0]) 48 rfl Tryz.underlying36 infoHead5 rfl (by omega) (w.alloc (.cells #[.int .i64 e.ver.epoch, .int .i64 e.ver.seq, .int .i64 e.prior.epoch, .int .i64 e.prior.seq, .string e.name, .bool e.gone, .int .i64 e.size, .int .i64 e.sum, .int .i64 e.req.client, .int .i64 e.req.no] 114)).heap.size v2 (l.take k ++ [mkH e]) (l.drop (k)) rfl OH.out _ _ (fr := fr) (lo := lo) (sl_len rfl (by have h1 := HN.out; have h2 := List.length_drop (i := k) (l := l); omega)) ?_ ?_ ?_ ?_; (· first | exact .inl (List.drop_eq_nil_of_le (by have := HN.out; omega)) | exact (RH.out.below BF.out).drop (k)); (· simp only [List.length_append, List.length_take, List.length_drop, List.length_cons, List.length_nil]; have := HN.out; omega); (· first | exact Nat.le_trans BF.out.size (by simp) | exact BF.out.size); (intro v3 w3 O3 g3))
            have F3 := Lib.hid (AnsL.of O3 LW.out.size (chainX w LW.out (BF.out.grown g3 BF.out.size (fun j hj => (OH.out.blk hj).1))))
            rw [PH.out]
            clear O3 g3
            go_wp2
            go_ret
            have F4 := F3.out
            simp only [List.append_assoc, List.nil_append, List.singleton_append, List.cons_append] at F4 ⊢
            exact F4
          · skip
            obtain ⟨E_0, E_1, E_2, E_3, E_4, E_5, E_6, E_7, E_8, E_9⟩ := c10 EH.out
            go_wp2
            refine wp_region_noPanic ?_
            refine wp_region_held_drew (S := (fun w' => w'.cell? ⟨w.heap.size, 0, none⟩ = some (.int .i64 e.ver.epoch) ∧ w'.cell? ⟨w.heap.size, 1, none⟩ = some (.int .i64 e.ver.seq) ∧ w'.cell? ⟨w.heap.size, 2, none⟩ = some (.int .i64 e.prior.epoch) ∧ w'.cell? ⟨w.heap.size, 3, none⟩ = some (.int .i64 e.prior.seq) ∧ w'.cell? ⟨w.heap.size, 4, none⟩ = some (.string e.name) ∧ w'.cell? ⟨w.heap.size, 5, none⟩ = some (.bool e.gone) ∧ w'.cell? ⟨w.heap.size, 6, none⟩ = some (.int .i64 e.size) ∧ w'.cell? ⟨w.heap.size, 7, none⟩ = some (.int .i64 e.sum) ∧ w'.cell? ⟨w.heap.size, 8, none⟩ = some (.int .i64 e.req.client) ∧ w'.cell? ⟨w.heap.size, 9, none⟩ = some (.int .i64 e.req.no))) (by kernel_rfl) ?_ (fun hHeld => ?_)
            · go_keep
            refine tj 0 rfl ?_
            try simp only [Act.put, ya, yb, yc, yd, ye, yf]
            refine tj 1 rfl ?_
            try simp only [Act.put, ya, yb, yc, yd, ye, yf]
            refine tj 2 rfl ?_
            try simp only [Act.put, ya, yb, yc, yd, ye, yf]
            refine tj 3 rfl ?_
            try simp only [Act.put, ya, yb, yc, yd, ye, yf]
            refine tj 4 rfl ?_
            try simp only [Act.put, ya, yb, yc, yd, ye, yf]
            refine tk 5 (v := undef) rfl (Or.inr ⟨by kernel_rfl, rfl⟩) (by assumption) ?_
            try simp only [Act.put, ya, yb, yc, yd, ye, yf]
            refine tk 6 (v := undef) rfl (Or.inr ⟨by kernel_rfl, rfl⟩) (by assumption) ?_
            try simp only [Act.put, ya, yb, yc, yd, ye, yf]
            refine tk 7 (v := undef) rfl (Or.inr ⟨by kernel_rfl, rfl⟩) (by assumption) ?_
            try simp only [Act.put, ya, yb, yc, yd, ye, yf]
            refine tk 8 (v := undef) rfl (Or.inr ⟨by kernel_rfl, rfl⟩) (by assumption) ?_
            try simp only [Act.put, ya, yb, yc, yd, ye, yf]
            refine tk 9 (v := undef) rfl (Or.inr ⟨by kernel_rfl, rfl⟩) (by assumption) ?_
            try simp only [Act.put, ya, yb, yc, yd, ye, yf]
            refine tk 10 (v := undef) rfl (Or.inr ⟨by kernel_rfl, rfl⟩) (by assumption) ?_
            try simp only [Act.put, ya, yb, yc, yd, ye, yf]
            refine tk 11 (v := undef) rfl (Or.inr ⟨by kernel_rfl, rfl⟩) (by assumption) ?_
            try simp only [Act.put, ya, yb, yc, yd, ye, yf]
            refine tk 12 (v := undef) rfl (Or.inr ⟨by kernel_rfl, rfl⟩) (by assumption) ?_
            try simp only [Act.put, ya, yb, yc, yd, ye, yf]
            refine tj 13 rfl ?_
            try simp only [Act.put, ya, yb, yc, yd, ye, yf]
            refine wpAnyH_done (by kernel_rfl) ?_ _
            refine NoPanic.normal ?_
            have BF := Lib.hid BF.out.drew
            have OH := Lib.hid (show OwnL 107 (w.alloc (.cells #[.int .i64 e.ver.epoch, .int .i64 e.ver.seq, .int .i64 e.prior.epoch, .int .i64 e.prior.seq, .string e.name, .bool e.gone, .int .i64 e.size, .int .i64 e.sum, .int .i64 e.req.client, .int .i64 e.req.no] 114)).heap.size w2.drew _ _ from OH.out.later (Below.refl _ _).drew)
            generalize w2.drew = wz at *
            go_wp2_with (at_builtin; refine wpList_append_F (α := DHead) rfl (.tmp 59) (.tmp 62) 36 107 (.agg #[.string ByteArray.empty, .int .i64 0, .int .i64 0, .int .i64 0, .int .i64 0]) 48 rfl Tryz.underlying36 infoHead5 rfl (by omega) (w.alloc (.cells #[.int .i64 e.ver.epoch, .int .i64 e.ver.seq, .int .i64 e.prior.epoch, .int .i64 e.prior.seq, .string e.name, .bool e.gone, .int .i64 e.size, .int .i64 e.sum, .int .i64 e.req.client, .int .i64 e.req.no] 114)).heap.size v2 (l.take k ++ [mkH e]) (l.drop (k)) rfl OH.out _ _ (fr := fr) (lo := lo) (sl_len rfl (by have h1 := HN.out; have h2 := List.length_drop (i := k) (l := l); omega)) ?_ ?_ ?_ ?_; (· first | exact .inl (List.drop_eq_nil_of_le (by have := HN.out; omega)) | exact (RH.out.below BF.out).drop (k)); (· simp only [List.length_append, List.length_take, List.length_drop, List.length_cons, List.length_nil]; have := HN.out; omega); (· first | exact Nat.le_trans BF.out.size (by simp) | exact BF.out.size); (intro v3 w3 O3 g3))
            have F3 := Lib.hid (AnsL.of O3 LW.out.size (chainX w LW.out (BF.out.grown g3 BF.out.size (fun j hj => (OH.out.blk hj).1))))
            rw [PH.out]
            clear O3 g3
            go_wp2
            go_ret
            have F4 := F3.out
            simp only [List.append_assoc, List.nil_append, List.singleton_append, List.cons_append] at F4 ⊢
            exact F4
        · rw [hg] at E_5 EH
          have NW : newH e = [] := by unfold newH; rw [hg]; rfl
          rw [NW] at PH
          clear NW
          have PH := Lib.hid PH
          go_wp2_with (at_builtin; refine wpList_append_F (α := DHead) rfl (.tmp 23) (.tmp 26) 36 107 (.agg #[.string ByteArray.empty, .int .i64 0, .int .i64 0, .int .i64 0, .int .i64 0]) 48 rfl Tryz.underlying36 infoHead5 rfl (by omega) (w.alloc (.cells #[.int .i64 e.ver.epoch, .int .i64 e.ver.seq, .int .i64 e.prior.epoch, .int .i64 e.prior.seq, .string e.name, .bool e.gone, .int .i64 e.size, .int .i64 e.sum, .int .i64 e.req.client, .int .i64 e.req.no] 114)).heap.size (.slice (some ⟨wr.heap.size, 0, none⟩) 0 0) [] (l.take k) rfl (OwnL.made _ _ _ BF.out.size) _ _ (fr := fr) (lo := lo) (sl_len rfl LT.out) ?_ ?_ ?_ ?_; (· exact ((RH.out.below BF.out).take k).below (lay wr _)); (· simp only [List.length_append, List.length_take, List.length_drop, List.length_cons, List.length_nil]; have := HN.out; omega); (· first | exact Nat.le_trans BF.out.size (by simp) | exact BF.out.size); (intro v1 w1 O1 g1; have G1 := (World.grownBy_alloc wr (.cells #[] 107) (some wr.heap.size)).trans g1; rw [List.nil_append] at O1; have EH := Lib.hid (bxGrown2 EH.out G1 (fun h => (by have h2 := Option.some.inj h; have h3 := BF.out.size; rw [World.size_alloc] at h3; omega))); have BF := Lib.hid (BF.out.grown G1 BF.out.size (fun j hj => (by cases hj; exact BF.out.size))); obtain ⟨E_0, E_1, E_2, E_3, E_4, E_5, E_6, E_7, E_8, E_9⟩ := c10 EH.out; have OH := Lib.hid O1; clear O1 G1 g1))
          by_cases hck : cap = k
          · skip
            obtain ⟨E_0, E_1, E_2, E_3, E_4, E_5, E_6, E_7, E_8, E_9⟩ := c10 EH.out
            go_wp2
            refine wp_region_noPanic ?_
            refine wp_region_held_drew (S := (fun w' => w'.cell? ⟨w.heap.size, 0, none⟩ = some (.int .i64 e.ver.epoch) ∧ w'.cell? ⟨w.heap.size, 1, none⟩ = some (.int .i64 e.ver.seq) ∧ w'.cell? ⟨w.heap.size, 2, none⟩ = some (.int .i64 e.prior.epoch) ∧ w'.cell? ⟨w.heap.size, 3, none⟩ = some (.int .i64 e.prior.seq) ∧ w'.cell? ⟨w.heap.size, 4, none⟩ = some (.string e.name) ∧ w'.cell? ⟨w.heap.size, 5, none⟩ = some (.bool e.gone) ∧ w'.cell? ⟨w.heap.size, 6, none⟩ = some (.int .i64 e.size) ∧ w'.cell? ⟨w.heap.size, 7, none⟩ = some (.int .i64 e.sum) ∧ w'.cell? ⟨w.heap.size, 8, none⟩ = some (.int .i64 e.req.client) ∧ w'.cell? ⟨w.heap.size, 9, none⟩ = some (.int .i64 e.req.no))) (by kernel_rfl) ?_ (fun hHeld => ?_)
            · go_keep
            refine tj 0 rfl ?_
            try simp only [Act.put, ya, yb, yc, yd, ye, yf]
            refine tj 1 rfl ?_
            try simp only [Act.put, ya, yb, yc, yd, ye, yf]
            refine tj 2 rfl ?_
            try simp only [Act.put, ya, yb, yc, yd, ye, yf]
            refine tj 3 rfl ?_
            try simp only [Act.put, ya, yb, yc, yd, ye, yf]
            refine tj 4 rfl ?_
            try simp only [Act.put, ya, yb, yc, yd, ye, yf]
            refine tk 5 (v := undef) rfl (Or.inr ⟨by kernel_rfl, rfl⟩) (by assumption) ?_
            try simp only [Act.put, ya, yb, yc, yd, ye, yf]
            refine tk 6 (v := undef) rfl (Or.inr ⟨by kernel_rfl, rfl⟩) (by assumption) ?_
            try simp only [Act.put, ya, yb, yc, yd, ye, yf]
            refine tk 7 (v := undef) rfl (Or.inr ⟨by kernel_rfl, rfl⟩) (by assumption) ?_
            try simp only [Act.put, ya, yb, yc, yd, ye, yf]
            refine tk 8 (v := undef) rfl (Or.inr ⟨by kernel_rfl, rfl⟩) (by assumption) ?_
            try simp only [Act.put, ya, yb, yc, yd, ye, yf]
            refine tk 9 (v := undef) rfl (Or.inr ⟨by kernel_rfl, rfl⟩) (by assumption) ?_
            try simp only [Act.put, ya, yb, yc, yd, ye, yf]
            refine tk 10 (v := undef) rfl (Or.inr ⟨by kernel_rfl, rfl⟩) (by assumption) ?_
            try simp only [Act.put, ya, yb, yc, yd, ye, yf]
            refine tk 11 (v := undef) rfl (Or.inr ⟨by kernel_rfl, rfl⟩) (by assumption) ?_
            try simp only [Act.put, ya, yb, yc, yd, ye, yf]
            refine tk 12 (v := undef) rfl (Or.inr ⟨by kernel_rfl, rfl⟩) (by assumption) ?_
            try simp only [Act.put, ya, yb, yc, yd, ye, yf]
            refine tj 13 rfl ?_
            try simp only [Act.put, ya, yb, yc, yd, ye, yf]
            refine wpAnyH_done (by kernel_rfl) ?_ _
            refine NoPanic.normal ?_
            have BF := Lib.hid BF.out.drew
            have OH := Lib.hid (show OwnL 107 (w.alloc (.cells #[.int .i64 e.ver.epoch, .int .i64 e.ver.seq, .int .i64 e.prior.epoch, .int .i64 e.prior.seq, .string e.name, .bool e.gone, .int .i64 e.size, .int .i64 e.sum, .int .i64 e.req.client, .int .i64 e.req.no] 114)).heap.size w1.drew _ _ from OH.out.later (Below.refl _ _).drew)
            generalize w1.drew = wz at *
            go_wp2_with (at_builtin; refine wpList_append_F (α := DHead) rfl (.tmp 59) (.tmp 62) 36 107 (.agg #[.string ByteArray.empty, .int .i64 0, .int .i64 0, .int .i64 0, .int .i64 0]) 48 rfl Tryz.underlying36 infoHead5 rfl (by omega) (w.alloc (.cells #[.int .i64 e.ver.epoch, .int .i64 e.ver.seq, .int .i64 e.prior.epoch, .int .i64 e.prior.seq, .string e.name, .bool e.gone, .int .i64 e.size, .int .i64 e.sum, .int .i64 e.req.client, .int .i64 e.req.no] 114)).heap.size v1 (l.take k) (l.drop (k)) rfl OH.out _ _ (fr := fr) (lo := lo) (sl_len rfl (by have h1 := HN.out; have h2 := List.length_drop (i := k) (l := l); omega)) ?_ ?_ ?_ ?_; (· first | exact .inl (List.drop_eq_nil_of_le (by have := HN.out; omega)) | exact (RH.out.below BF.out).drop (k)); (· simp only [List.length_append, List.length_take, List.length_drop, List.length_cons, List.length_nil]; have := HN.out; omega); (· first | exact Nat.le_trans BF.out.size (by simp) | exact BF.out.size); (intro v3 w3 O3 g3))
            have F3 := Lib.hid (AnsL.of O3 LW.out.size (chainX w LW.out (BF.out.grown g3 BF.out.size (fun j hj => (OH.out.blk hj).1))))
            rw [PH.out]
            clear O3 g3
            go_wp2
            go_ret
            have F4 := F3.out
            simp only [List.append_assoc, List.nil_append, List.singleton_append, List.cons_append] at F4 ⊢
            exact F4
          · skip
            obtain ⟨E_0, E_1, E_2, E_3, E_4, E_5, E_6, E_7, E_8, E_9⟩ := c10 EH.out
            go_wp2
            refine wp_region_noPanic ?_
            refine wp_region_held_drew (S := (fun w' => w'.cell? ⟨w.heap.size, 0, none⟩ = some (.int .i64 e.ver.epoch) ∧ w'.cell? ⟨w.heap.size, 1, none⟩ = some (.int .i64 e.ver.seq) ∧ w'.cell? ⟨w.heap.size, 2, none⟩ = some (.int .i64 e.prior.epoch) ∧ w'.cell? ⟨w.heap.size, 3, none⟩ = some (.int .i64 e.prior.seq) ∧ w'.cell? ⟨w.heap.size, 4, none⟩ = some (.string e.name) ∧ w'.cell? ⟨w.heap.size, 5, none⟩ = some (.bool e.gone) ∧ w'.cell? ⟨w.heap.size, 6, none⟩ = some (.int .i64 e.size) ∧ w'.cell? ⟨w.heap.size, 7, none⟩ = some (.int .i64 e.sum) ∧ w'.cell? ⟨w.heap.size, 8, none⟩ = some (.int .i64 e.req.client) ∧ w'.cell? ⟨w.heap.size, 9, none⟩ = some (.int .i64 e.req.no))) (by kernel_rfl) ?_ (fun hHeld => ?_)
            · go_keep
            refine tj 0 rfl ?_
            try simp only [Act.put, ya, yb, yc, yd, ye, yf]
            refine tj 1 rfl ?_
            try simp only [Act.put, ya, yb, yc, yd, ye, yf]
            refine tj 2 rfl ?_
            try simp only [Act.put, ya, yb, yc, yd, ye, yf]
            refine tj 3 rfl ?_
            try simp only [Act.put, ya, yb, yc, yd, ye, yf]
            refine tj 4 rfl ?_
            try simp only [Act.put, ya, yb, yc, yd, ye, yf]
            refine tk 5 (v := undef) rfl (Or.inr ⟨by kernel_rfl, rfl⟩) (by assumption) ?_
            try simp only [Act.put, ya, yb, yc, yd, ye, yf]
            refine tk 6 (v := undef) rfl (Or.inr ⟨by kernel_rfl, rfl⟩) (by assumption) ?_
            try simp only [Act.put, ya, yb, yc, yd, ye, yf]
            refine tk 7 (v := undef) rfl (Or.inr ⟨by kernel_rfl, rfl⟩) (by assumption) ?_
            try simp only [Act.put, ya, yb, yc, yd, ye, yf]
            refine tk 8 (v := undef) rfl (Or.inr ⟨by kernel_rfl, rfl⟩) (by assumption) ?_
            try simp only [Act.put, ya, yb, yc, yd, ye, yf]
            refine tk 9 (v := undef) rfl (Or.inr ⟨by kernel_rfl, rfl⟩) (by assumption) ?_
            try simp only [Act.put, ya, yb, yc, yd, ye, yf]
            refine tk 10 (v := undef) rfl (Or.inr ⟨by kernel_rfl, rfl⟩) (by assumption) ?_
            try simp only [Act.put, ya, yb, yc, yd, ye, yf]
            refine tk 11 (v := undef) rfl (Or.inr ⟨by kernel_rfl, rfl⟩) (by assumption) ?_
            try simp only [Act.put, ya, yb, yc, yd, ye, yf]
            refine tk 12 (v := undef) rfl (Or.inr ⟨by kernel_rfl, rfl⟩) (by assumption) ?_
            try simp only [Act.put, ya, yb, yc, yd, ye, yf]
            refine tj 13 rfl ?_
            try simp only [Act.put, ya, yb, yc, yd, ye, yf]
            refine wpAnyH_done (by kernel_rfl) ?_ _
            refine NoPanic.normal ?_
            have BF := Lib.hid BF.out.drew
            have OH := Lib.hid (show OwnL 107 (w.alloc (.cells #[.int .i64 e.ver.epoch, .int .i64 e.ver.seq, .int .i64 e.prior.epoch, .int .i64 e.prior.seq, .string e.name, .bool e.gone, .int .i64 e.size, .int .i64 e.sum, .int .i64 e.req.client, .int .i64 e.req.no] 114)).heap.size w1.drew _ _ from OH.out.later (Below.refl _ _).drew)
            generalize w1.drew = wz at *
            go_wp2_with (at_builtin; refine wpList_append_F (α := DHead) rfl (.tmp 59) (.tmp 62) 36 107 (.agg #[.string ByteArray.empty, .int .i64 0, .int .i64 0, .int .i64 0, .int .i64 0]) 48 rfl Tryz.underlying36 infoHead5 rfl (by omega) (w.alloc (.cells #[.int .i64 e.ver.epoch, .int .i64 e.ver.seq, .int .i64 e.prior.epoch, .int .i64 e.prior.seq, .string e.name, .bool e.gone, .int .i64 e.size, .int .i64 e.sum, .int .i64 e.req.client, .int .i64 e.req.no] 114)).heap.size v1 (l.take k) (l.drop (k)) rfl OH.out _ _ (fr := fr) (lo := lo) (sl_len rfl (by have h1 := HN.out; have h2 := List.length_drop (i := k) (l := l); omega)) ?_ ?_ ?_ ?_; (· first | exact .inl (List.drop_eq_nil_of_le (by have := HN.out; omega)) | exact (RH.out.below BF.out).drop (k)); (· simp only [List.length_append, List.length_take, List.length_drop, List.length_cons, List.length_nil]; have := HN.out; omega); (· first | exact Nat.le_trans BF.out.size (by simp) | exact BF.out.size); (intro v3 w3 O3 g3))
            have F3 := Lib.hid (AnsL.of O3 LW.out.size (chainX w LW.out (BF.out.grown g3 BF.out.size (fun j hj => (OH.out.blk hj).1))))
            rw [PH.out]
            clear O3 g3
            go_wp2
            go_ret
            have F4 := F3.out
            simp only [List.append_assoc, List.nil_append, List.singleton_append, List.cons_append] at F4 ⊢
            exact F4
end Go.Proofs.YtbckdfoapmjilaaGreatDoor.Rd
