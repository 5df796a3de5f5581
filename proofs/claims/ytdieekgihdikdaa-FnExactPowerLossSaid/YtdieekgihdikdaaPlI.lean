/-
  PowerLoss in the program.
-/
import Derived.Test.YtdieekgihdikdaaPlN
import Derived.Test.YtdieekgihdikdaaDkU
import Derived.Deep.RegionWith
namespace Go.Proofs.Ytdieekgihdikdaa.Rd
open Go.RowKit Go.ChangeShapes Go.WideShapes Go.Proofs.Ytdieekgihdikdaa.GfI Go.Proofs.Ytdieekgihdikdaa.GfS
open Go.Proofs.Ytdieekgihdikdaa.Sg (BxN)
set_option linter.unusedVariables false
set_option linter.unusedSimpArgs false

theorem rows_head {α : Type} [Rdb α] {fr : Bool} {lo : Nat} {w : World} {a : Option Addr} {l l' : List α} (h : Rows fr lo w a (l ++ l')) : Rows fr lo w a l := by
  rcases h with h | ⟨b, off, e, h0, hB, hf, hc⟩
  · exact .inl (List.append_eq_nil_iff.1 h).1
  · exact .inr ⟨b, off, e, h0, hB, hf, fun i y hy => hc i y (by rw [List.getElem?_append_left (List.getElem?_eq_some_iff.1 hy).1]; exact hy)⟩
theorem kok_len {m : Nat} {z : List Int} (h : KOk m z) : z.length ≤ m := by
  have at_ : ∀ i (hi : i < z.length), Ac.zF z i = z[i] := fun i hi => by
    unfold Ac.zF; rw [List.getD_eq_getElem?_getD, List.getElem?_eq_getElem hi]; rfl
  have hz : ∀ i, i < z.length → (i : Int) ≤ Ac.zF z i := by
    intro i
    induction i with
    | zero =>
      intro hi
      have := (inD_yes (h.2 _ (List.getElem_mem hi))).1
      rw [at_ 0 hi]; exact this
    | succ i ih =>
      intro hi
      have h1 := h.1 i hi
      have h2 := ih (by omega)
      omega
  rcases Nat.eq_zero_or_pos z.length with e | e
  · omega
  · have hi : z.length - 1 < z.length := by omega
    have h1 := hz (z.length - 1) hi
    have h2 := (inD_yes (h.2 _ (List.getElem_mem hi))).2
    rw [at_ _ hi] at h1
    omega
set_option maxRecDepth 100000 in
set_option maxHeartbeats 4000000 in
theorem implPowerLoss {cs : List Value} {fr : Bool} {lo : Nat} (d : DDisk) (z : List Int) (t : Int) (R : DDisk) (rc : Int) (hp : LossP d z t R rc) (w : World) (hs : Rdb.sz d ≤ 2097152) (h : Rdb.rd fr lo w cs d) (az : Option Addr) (cz : Nat) (hzl : z.length ≤ 2097152) {fr2 : Bool} {lo2 : Nat} (hz : Rows fr2 lo2 w az z) :
    Calls Try.prog 15 #[.agg cs.toArray, .slice az z.length cz, .int .i64 t] w (AnsK R rc w) := by
  have RD := h
  obtain ⟨a0, c0, a1, c1, rfl, f0, g0, f1, g1⟩ := shape_Disk h
  have L := Lib.hid (chain (lay w (.cells #[.slice a0 d.sectors.length c0, .slice a1 d.waits.length c1] 36)) (lay _ (.cells #[.slice none 0 0, .slice none 0 0] 36)))
  have X := Lib.hid ((BxN.new w #[.slice a0 d.sectors.length c0, .slice a1 d.waits.length c1] 36).later (lay _ (.cells #[.slice none 0 0, .slice none 0 0] 36)))
  have Y0 := BxN.new (w.alloc (.cells #[.slice a0 d.sectors.length c0, .slice a1 d.waits.length c1] 36)) #[.slice none 0 0, .slice none 0 0] 36
  rw [World.size_alloc] at Y0
  have Y := Lib.hid Y0
  have x0 := X.out.cells 0 _ rfl
  have x1 := X.out.cells 1 _ rfl
  have SZ := Lib.hid (show ((w.alloc (.cells #[.slice a0 d.sectors.length c0, .slice a1 d.waits.length c1] 36)).alloc (.cells #[.slice none 0 0, .slice none 0 0] 36)).heap.size = w.heap.size + 1 + 1 from by simp)
  have RW := Lib.hid (rd_rw2 f0 f1)
  have C := Lib.hid (implDiskOk d _ hs (Rdb.below RD L.out))
  have CR := Lib.hid (fun w' (b : Below w.heap.size w w') => Ac.isRising az cz z w' hzl (rows_words (hz.below b)))
  have CC := Lib.hid (fun w' (b : Below w.heap.size w w') (x : BxN w' w.heap.size [.slice a0 d.sectors.length c0, .slice a1 d.waits.length c1]) => ctKeep d.sectors.length d.waits.length a0 a1 c0 c1 w.heap.size az cz z w' hzl (hz.below b) x)
  have HZ := Lib.hid (fun w' (b : Below w.heap.size w w') => hz.below b)
  have CT := Lib.hid (fun w' => Wi.isWithin t (-1) 64 (by omega) w')
  clear Y0 f0 f1 h RD hz
  rcases hp with ⟨hk, rfl, rfl⟩ | ⟨hk, hi, rfl, rfl⟩ | q
  · have HK := Lib.hid hk
    clear hk
    go_enter Try.func15, Try.ntmps15
    have B0 := Lib.hid L.out
    have X0 := Lib.hid X.out
    have Y00 := Lib.hid Y.out
    have Y0 := Y00
    clear Y00
    go_wp2_with fail
    refine (C.out).mono ?_
    rintro e w1 ⟨b, rfl, hb, bb⟩
    have B1 := Lib.hid (chainX w B0.out bb)
    have X1 := Lib.hid (X0.out.later bb)
    have Y1 := Lib.hid (Y0.out.later bb)
    clear bb x0 x1
    have x0 := X1.out.cells 0 _ rfl
    have x1 := X1.out.cells 1 _ rfl
    have HBB := Lib.hid hb
    clear hb
    cases b
    · clear HBB
      have y0 := Y1.out.cells 0 _ rfl
      have y1 := Y1.out.cells 1 _ rfl
      have z0 := Y1.out.free 0
      have z1 := Y1.out.free 1
      have F := Lib.hid (ansK_zero 1 (((B1.out.setCell (p := ⟨w.heap.size + 1, 0, none⟩) (by show _ ≤ w.heap.size + 1; omega) (.slice none 0 0)).setCell (p := ⟨w.heap.size + 1, 1, none⟩) (by show _ ≤ w.heap.size + 1; omega) (.slice none 0 0))))
      go_wp2
      exact bodyPost_ret (v := .tuple #[.agg #[.slice none 0 0, .slice none 0 0], .int .i64 1]) (by simp [results, Try.results15, go_sem, *]) rfl F.out
    · exact absurd (HBB.out.1 rfl) HK.out
  · have HK := Lib.hid hk
    have HI := Lib.hid hi
    clear hk hi
    generalize hu : inB t (-1) 64 = u at *
    clear hu
    go_enter Try.func15, Try.ntmps15
    have B0 := Lib.hid L.out
    have X0 := Lib.hid X.out
    have Y00 := Lib.hid Y.out
    have Y0 := Y00
    clear Y00
    go_wp2_with fail
    refine (C.out).mono ?_
    rintro e w1 ⟨b, rfl, hb, bb⟩
    have B1 := Lib.hid (chainX w B0.out bb)
    have X1 := Lib.hid (X0.out.later bb)
    have Y1 := Lib.hid (Y0.out.later bb)
    clear bb x0 x1
    have x0 := X1.out.cells 0 _ rfl
    have x1 := X1.out.cells 1 _ rfl
    have HBB := Lib.hid hb
    clear hb
    cases b
    · have := HBB.out.2 HK.out; cases this
    clear HBB
    go_wp2_with fail
    refine (CR.out _ B1.out).mono ?_
    rintro e w2 ⟨b, rfl, hb, bb⟩
    have B2 := Lib.hid (chainX w B1.out bb)
    have X2 := Lib.hid (X1.out.later bb)
    have Y2 := Lib.hid (Y1.out.later bb)
    clear bb x0 x1
    have x0 := X2.out.cells 0 _ rfl
    have x1 := X2.out.cells 1 _ rfl
    have HB2 := Lib.hid hb
    clear hb
    cases b
    · clear HB2
      have y0 := Y2.out.cells 0 _ rfl
      have y1 := Y2.out.cells 1 _ rfl
      have z0 := Y2.out.free 0
      have z1 := Y2.out.free 1
      have F := Lib.hid (ansK_zero 2 (((B2.out.setCell (p := ⟨w.heap.size + 1, 0, none⟩) (by show _ ≤ w.heap.size + 1; omega) (.slice none 0 0)).setCell (p := ⟨w.heap.size + 1, 1, none⟩) (by show _ ≤ w.heap.size + 1; omega) (.slice none 0 0))))
      go_wp2
      exact bodyPost_ret (v := .tuple #[.agg #[.slice none 0 0, .slice none 0 0], .int .i64 2]) (by simp [results, Try.results15, go_sem, *]) rfl F.out
    · have R2 := Lib.hid (HB2.out.1 rfl)
      clear HB2
      have CW := Lib.hid (CC.out _ B2.out X2.out)
      go_wp2_with fail
      refine (CW.out).mono ?_
      rintro e w3 ⟨b, rfl, hb, bb⟩
      have B3 := Lib.hid (chainX w B2.out bb)
      have X3 := Lib.hid (X2.out.later bb)
      have Y3 := Lib.hid (Y2.out.later bb)
      clear bb x0 x1
      have x0 := X3.out.cells 0 _ rfl
      have x1 := X3.out.cells 1 _ rfl
      have HB3 := Lib.hid hb
      clear hb
      cases b
      · have KK := Lib.hid (show KOk d.waits.length z from ⟨R2.out, fun x hx => by
          cases e : inD d.waits.length x
          · have := HB3.out.2 ⟨x, hx, by unfold nowr; rw [e]; rfl⟩; cases this
          · rfl⟩)
        clear HB3
        cases u
        · skip
          go_wp2_with fail
          refine (CT.out _).mono ?_
          rintro e w4 ⟨rfl, rfl⟩
          have y0 := Y3.out.cells 0 _ rfl
          have y1 := Y3.out.cells 1 _ rfl
          have z0 := Y3.out.free 0
          have z1 := Y3.out.free 1
          have F := Lib.hid (ansK_zero 2 (((B3.out.setCell (p := ⟨w.heap.size + 1, 0, none⟩) (by show _ ≤ w.heap.size + 1; omega) (.slice none 0 0)).setCell (p := ⟨w.heap.size + 1, 1, none⟩) (by show _ ≤ w.heap.size + 1; omega) (.slice none 0 0))))
          go_wp2
          exact bodyPost_ret (v := .tuple #[.agg #[.slice none 0 0, .slice none 0 0], .int .i64 2]) (by simp [results, Try.results15, go_sem, *]) rfl F.out
        · exact absurd ⟨KK.out, rfl⟩ HI.out
      · clear HB3
        have y0 := Y3.out.cells 0 _ rfl
        have y1 := Y3.out.cells 1 _ rfl
        have z0 := Y3.out.free 0
        have z1 := Y3.out.free 1
        have F := Lib.hid (ansK_zero 2 (((B3.out.setCell (p := ⟨w.heap.size + 1, 0, none⟩) (by show _ ≤ w.heap.size + 1; omega) (.slice none 0 0)).setCell (p := ⟨w.heap.size + 1, 1, none⟩) (by show _ ≤ w.heap.size + 1; omega) (.slice none 0 0))))
        go_wp2
        exact bodyPost_ret (v := .tuple #[.agg #[.slice none 0 0, .slice none 0 0], .int .i64 2]) (by simp [results, Try.results15, go_sem, *]) rfl F.out
  · have hq : DOk d ∧ KOk d.waits.length z ∧ inB t (-1) 64 = true := by
      rcases q with ⟨h, k, i, _⟩ | ⟨h, k, za, v, x, s, n, i, rfl, hx, hi, rfl, hn, hs, _⟩
      · exact ⟨h, k, i⟩
      · exact ⟨h, k, inB_yes (by omega) (by omega)⟩
    have HQ := Lib.hid q
    obtain ⟨hk, ko, hi⟩ := hq
    have HK := Lib.hid hk
    have KK := Lib.hid ko
    have hn : d.sectors.length ≤ 1000000 := (dok_lens hk).1
    have hm : d.waits.length ≤ 600 := hk.2.1
    have ht : -1 ≤ t ∧ t ≤ 64 := of_decide_eq_true hi
    rw [hi] at CT
    have CT := Lib.hid CT.out
    have GZ := Lib.hid (fun j (h : j < z.length) => get_lt h)
    have KL := Lib.hid (fun j => (show (keptL d (z.take j)).length = (z.take j).length from keptL_len (fun x hx => ko.2 x (List.mem_of_mem_take hx))))
    clear q hk ko hi
    go_enter Try.func15, Try.ntmps15
    have B0 := Lib.hid L.out
    have X0 := Lib.hid X.out
    have Y00 := Lib.hid Y.out
    have Y0 := Y00
    clear Y00
    go_wp2_with fail
    refine (C.out).mono ?_
    rintro e w1 ⟨b, rfl, hb, bb⟩
    have B1 := Lib.hid (chainX w B0.out bb)
    have X1 := Lib.hid (X0.out.later bb)
    have Y1 := Lib.hid (Y0.out.later bb)
    clear bb x0 x1
    have x0 := X1.out.cells 0 _ rfl
    have x1 := X1.out.cells 1 _ rfl
    have HBB := Lib.hid hb
    clear hb
    cases b
    · have := HBB.out.2 HK.out; cases this
    clear HBB
    go_wp2_with fail
    refine (CR.out _ B1.out).mono ?_
    rintro e w2 ⟨b, rfl, hb, bb⟩
    have B2 := Lib.hid (chainX w B1.out bb)
    have X2 := Lib.hid (X1.out.later bb)
    have Y2 := Lib.hid (Y1.out.later bb)
    clear bb x0 x1
    have x0 := X2.out.cells 0 _ rfl
    have x1 := X2.out.cells 1 _ rfl
    have HB2 := Lib.hid hb
    clear hb
    cases b
    · have := HB2.out.2 KK.out.1; cases this
    clear HB2
    have CW := Lib.hid (CC.out _ B2.out X2.out)
    go_wp2_with fail
    refine (CW.out).mono ?_
    rintro e w3 ⟨b, rfl, hb, bb⟩
    have B3 := Lib.hid (chainX w B2.out bb)
    have X3 := Lib.hid (X2.out.later bb)
    have Y3 := Lib.hid (Y2.out.later bb)
    clear bb x0 x1
    have x0 := X3.out.cells 0 _ rfl
    have x1 := X3.out.cells 1 _ rfl
    have HB3 := Lib.hid hb
    clear hb
    cases b
    rotate_left
    · obtain ⟨x, hx, e⟩ := HB3.out.1 rfl
      unfold nowr at e
      rw [KK.out.2 x hx] at e; cases e
    clear HB3 CW
    go_wp2_with fail
    refine (CT.out _).mono ?_
    rintro e w4 ⟨rfl, rfl⟩
    obtain ⟨N, hNN⟩ : ∃ N, N = z.length := ⟨_, rfl⟩
    have EZ := Lib.hid hNN
    rw [← hNN] at hzl GZ
    have L3 := Lib.hid (show w.heap.size + 1 < w3.heap.size from Y3.out.lt)
    clear x0 x1 CR CC CT C
    go_wp2
    rw [← hNN]
    clear hNN
    go_loopw [9, 36] (fun v9 i wr => ∃ (j : Nat) (q1 : Option Addr) (c : Nat), j ≤ N ∧ i = .int .i64 j ∧ v9 = .slice q1 j c ∧ OwnL 87 w3.heap.size wr (.slice q1 j c) (keptL d (z.take j)) ∧ Below w3.heap.size w3 wr) (fun v9 i _ => N - (intOf i).toNat)
    case atStart => exact ⟨0, none, 0, by omega, rfl, rfl, OwnL.nil _ _ _, Below.refl _ _⟩
    case round =>
      obtain ⟨j, q1, c, hj, rfl, rfl, hO, hB⟩ := hrel
      have hB0 := chainX w B3.out hB
      have hX := X3.out.later hB
      by_cases hlt : j < N
      · obtain ⟨v, hv⟩ := GZ.out j hlt
        obtain ⟨bz, oz, csz, rfl, -, hBz, ⟨rfl, -⟩, hccz⟩ := (HZ.out _ hB0).at' hv
        have kz : wr.cell? ⟨bz, oz + j, none⟩ = some (.int .i64 v) := by have := hccz 0 _ rfl; rwa [show oz + j * Rdb.size Int + 0 = oz + j from by show oz + j * 1 + 0 = _; omega] at this
        obtain ⟨i0, i1⟩ := inD_yes (KK.out.2 v (List.mem_of_getElem? hv))
        obtain ⟨vn, rfl⟩ : ∃ vn : Nat, v = (vn : Int) := ⟨v.toNat, by omega⟩
        obtain ⟨x, hx⟩ := get_lt (show vn < d.waits.length by omega)
        obtain ⟨b, off, cs, rfl, -, hBb, hr, hcc⟩ := (RW.out.2.below hB0).at' hx
        obtain ⟨rfl, f0, f1⟩ := shape_Pending hr
        have c0' : wr.cell? ⟨b, off + vn * 2, none⟩ = some (.int .i64 x.atF) := hcc 0 _ rfl
        have c1' : wr.cell? ⟨b, off + vn * 2 + 1, none⟩ = some (.string x.bytes) := hcc 1 _ rfl
        have AT2 := Lib.hid (show keptL d (z.take (j + 1)) = keptL d (z.take j) ++ [x] from keptL_succ hv (by rw [Int.toNat_natCast]; exact hx))
        have x1 := hX.cells 1 _ rfl
        have vv0 : (0 : Int) ≤ (vn : Int) := by omega
        have vv1 : (vn : Int) < (d.waits.length : Int) := by omega
        have j0 : (0 : Int) ≤ (j : Int) := by omega
        have j1 : (j : Int) < (N : Int) := by omega
        have LJ := Lib.hid (show (keptL d (z.take j)).length = j from by rw [KL.out, List.length_take]; have := EZ.out; omega)
        have LK := Lib.hid (show (keptL d (z.take (j + 1))).length = j + 1 from by rw [KL.out, List.length_take]; have := EZ.out; omega)
        have DR := lay wr (.cells #[.int .i64 x.atF, .string x.bytes] 87)
        have EN := BxN.new wr #[.int .i64 x.atF, .string x.bytes] 87
        have RY := Lib.hid (show Rows true 0 (wr.alloc (.cells #[.int .i64 x.atF, .string x.bytes] 87)) (some ⟨wr.heap.size, 0, none⟩) [x] from .inr ⟨wr.heap.size, 0, rfl, Nat.zero_le _, EN.lt, fun _ => EN.free, fun i q hq => by
          have hi : i < 1 := (List.getElem?_eq_some_iff.1 hq).1
          obtain rfl : i = 0 := by omega
          obtain rfl : x = q := by simpa using hq
          exact ⟨[.int .i64 x.atF, .string x.bytes], Enc.iff.2 ⟨rfl, ⟨f0, f1⟩⟩, fun cc u hu => by rw [Nat.zero_mul, Nat.zero_add]; exact EN.cells cc u (by simpa using hu)⟩⟩)
        have H1 := Lib.hid (show OwnL 87 w3.heap.size (wr.alloc (.cells #[.int .i64 x.atF, .string x.bytes] 87)) (.slice q1 j c) (keptL d (z.take j)) from hO.alloc _)
        have HB1 := Lib.hid (hB.trans (DR.mono hB.size))
        have SZ1 := Lib.hid (show w3.heap.size ≤ (wr.alloc (.cells #[.int .i64 x.atF, .string x.bytes] 87)).heap.size from by rw [World.size_alloc]; have := hB.size; omega)
        have NM := Lib.hid (show j + 1 ≤ 1000000 from by have h1 := kok_len KK.out; have := EZ.out; omega)
        clear hO hB hB0 hX DR EN hccz hcc hr hx hv i0 i1 f0 f1
        go_wp2_with (at_builtin; refine wpList_append_F (α := DPending) rfl (.tmp 40) (.tmp 46) 34 87 (.agg #[.int .i64 0, .string ByteArray.empty]) 24 ?_ ?_ ?_ ?_ ?_ w3.heap.size (.slice q1 j c) (keptL d (z.take j)) [x] ?_ ?_ (some ⟨wr.heap.size, 0, none⟩) 1 (fr := true) (lo := 0) ?_ ?_ ?_ ?_ ?_; (· rfl); (· exact Try.underlying34); (· exact infoPending); (· rfl); (· omega); (· rfl); (· exact H1.out); (· rfl); (· exact RY.out); (· rw [LJ.out]; exact NM.out); (· exact SZ1.out); intro v' w6 J6 g6; rw [← AT2.out] at J6; obtain ⟨q2, c2, e2⟩ := J6.val; rw [LK.out] at e2; subst e2; have J6H := Lib.hid J6; have B6 := Lib.hid (HB1.out.grown g6 SZ1.out (fun k hk => (H1.out.blk hk).1)); clear J6 g6)
        (try go_wp2)
        go_roundw
        case rel => exact ⟨j + 1, q2, c2, by omega, by go_num, rfl, J6H.out, B6.out⟩
        case measure => simp [intOf]; omega
      · obtain rfl : j = N := by omega
        have NZ : j = z.length := EZ.out
        have ET : z.take j = z := by rw [NZ, List.take_length]
        have hl : (keptL d z).length = j := by rw [keptL_len KK.out.2]; exact NZ.symm
        rw [ET] at hO
        rcases HQ.out with ⟨-, -, -, he, rfl, rfl⟩ | ⟨-, -, za, v, x, s, tn, i, e1, hx, hi, e2, htn, hs, rfl, rfl⟩
        · have YR := Y3.out.later hB
          have WRT := Lib.hid (show Calls Try.prog 55 #[.agg #[.slice a0 d.sectors.length c0, .slice a1 d.waits.length c1], .slice q1 j c] wr (AnsKD ⟨flushL d.sectors (keptL d z), []⟩ wr) from by
            obtain ⟨a', c', e', l', o', -⟩ := hO.shape
            rw [hl] at e'
            obtain ⟨rfl, rfl⟩ : q1 = a' ∧ c = c' := by simpa using e'
            have h := implWritten d (keptL d z) a0 c0 a1 c1 d.waits.length q1 c wr hn (by rw [hl]; have := kok_len KK.out; omega) (RW.out.1.below hB0) o'.rows (fun y hy => by
              have := HK.out.2.2.2 y (keptL_mem hy)
              unfold wait at this
              exact (Bool.and_eq_true_iff.1 this).1)
            rw [hl] at h
            exact h)
          have YH := Lib.hid YR
          have HB0 := Lib.hid hB0
          have LW := Lib.hid (show w.heap.size + 1 < wr.heap.size from YR.lt)
          have x0 := hX.cells 0 _ rfl
          have x1 := hX.cells 1 _ rfl
          clear hO hB hB0 hX YR HQ
          have hc : decide (t < 0) = true ∨ (decide (t < 0) = false ∧ j = 0) := by
            rcases he with e | e
            · exact .inl (decide_eq_true e)
            · by_cases e3 : t < 0
              · exact .inl (decide_eq_true e3)
              · exact .inr ⟨decide_eq_false e3, by rw [NZ, e]; rfl⟩
          clear he NZ ET
          rcases hc with dt | ⟨dt, j00⟩
          all_goals
            (try (have dj : ((j : Int) == 0) = true := by simp; exact j00))
            (try clear j00)
            go_wp2_with fail
            refine WRT.out.mono ?_
            rintro e w5 ⟨p0, k0, p1, k1, rfl, ⟨hh, m', m1, m2, o0, o1⟩, l, b5⟩
            have Y5 := YH.out.later b5
            have v0 := Y5.cells 0 _ rfl
            have v1 := Y5.cells 1 _ rfl
            have vf0 := Y5.free 0
            have vf1 := Y5.free 1
            have F := Lib.hid (show AnsK ⟨flushL d.sectors (keptL d z), []⟩ 0 w (.returned (.tuple #[.agg #[.slice p0 (DDisk.mk (flushL d.sectors (keptL d z)) []).sectors.length k0, .slice p1 (DDisk.mk (flushL d.sectors (keptL d z)) []).waits.length k1], .int .i64 0])) ((w5.setCell ⟨w.heap.size + 1, 0, none⟩ (.slice p0 (DDisk.mk (flushL d.sectors (keptL d z)) []).sectors.length k0)).setCell ⟨w.heap.size + 1, 1, none⟩ (.slice p1 (DDisk.mk (flushL d.sectors (keptL d z)) []).waits.length k1)) from by
              have lw := LW.out
              have z0 := (o0.set ⟨w.heap.size + 1, 0, none⟩ (.slice p0 (DDisk.mk (flushL d.sectors (keptL d z)) []).sectors.length k0) (.inl (by show w.heap.size + 1 < _; omega))).set ⟨w.heap.size + 1, 1, none⟩ (.slice p1 (DDisk.mk (flushL d.sectors (keptL d z)) []).waits.length k1) (.inl (by show w.heap.size + 1 < _; omega))
              have z1 := (o1.set ⟨w.heap.size + 1, 0, none⟩ (.slice p0 (DDisk.mk (flushL d.sectors (keptL d z)) []).sectors.length k0) (.inl (by show w.heap.size + 1 < _; omega))).set ⟨w.heap.size + 1, 1, none⟩ (.slice p1 (DDisk.mk (flushL d.sectors (keptL d z)) []).waits.length k1) (.inl (by show w.heap.size + 1 < _; omega))
              exact ⟨p0, k0, p1, k1, rfl, ⟨Nat.le_refl _, m', by omega, by simp only [World.size_setCell]; omega, z0.wide (by omega) (Nat.le_refl _), z1.wide (Nat.le_refl _) (by simp only [World.size_setCell]; exact hh)⟩, l, ((chainX w HB0.out b5).setCell (p := ⟨w.heap.size + 1, 0, none⟩) (by show _ ≤ w.heap.size + 1; omega) _).setCell (p := ⟨w.heap.size + 1, 1, none⟩) (by show _ ≤ w.heap.size + 1; omega) _⟩)
            clear o0 o1 hh m1 m2 l b5 Y5
            generalize (DDisk.mk (flushL d.sectors (keptL d z)) []).sectors.length = ln at *
            generalize (DDisk.mk (flushL d.sectors (keptL d z)) []).waits.length = lm at *
            go_wp2
            exact bodyPost_ret (v := .tuple #[.agg #[.slice p0 ln k0, .slice p1 lm k1], .int .i64 0]) (by simp [results, Try.results15, go_sem, *]) rfl F.out
        · subst e2
          have hKA : keptL d z = keptL d za ++ [x] := by rw [e1]; exact keptL_app hx
          obtain ⟨la, hla⟩ : ∃ la, la = (keptL d za).length := ⟨_, rfl⟩
          have hj1 : j = la + 1 := by rw [← hl, hKA, hla]; simp
          obtain ⟨a', c', e', lc, o', -⟩ := hO.shape
          rw [hl] at e' lc
          obtain ⟨rfl, rfl⟩ : q1 = a' ∧ c = c' := by simpa using e'
          have hat : (keptL d z)[la]? = some x := by rw [hKA, hla]; simp
          rcases o' with o' | ⟨gk, rfl, RK, gk1, gk2⟩
          · rw [o'] at hat; simp at hat
          obtain ⟨b, off, cs, eb, -, hBk, hrk, hck⟩ := RK.at' hat
          obtain ⟨rfl, rfl⟩ : gk = b ∧ 0 = off := by simpa using eb
          obtain ⟨rfl, f0, f1⟩ := shape_Pending hrk
          have k0 : wr.cell? ⟨gk, la * 2, none⟩ = some (.int .i64 x.atF) := by have := hck 0 _ rfl; rwa [show 0 + la * Rdb.size DPending + 0 = la * 2 from by show 0 + la * 2 + 0 = _; omega] at this
          have k1 : wr.cell? ⟨gk, la * 2 + 1, none⟩ = some (.string x.bytes) := by have := hck 1 _ rfl; rwa [show 0 + la * Rdb.size DPending + 1 = la * 2 + 1 from by show 0 + la * 2 + 1 = _; omega] at this
          rw [hi] at k0
          have hws : x.bytes.size = 64 := of_decide_eq_true (wait_sec (HK.out.2.2.2 x (List.mem_of_getElem? hx)))
          have hss : s.size = 64 := of_decide_eq_true (kept_sec HK.out za s (List.mem_of_getElem? hs))
          have hil : i < d.sectors.length := by have := (List.getElem?_eq_some_iff.1 hs).1; rwa [flushL_len] at this
          have hin : ∀ y, y ∈ keptL d za → inD d.sectors.length y.atF = true := fun y hy => by
            have := HK.out.2.2.2 y (keptL_mem hy)
            unfold wait at this
            exact (Bool.and_eq_true_iff.1 this).1
          have RKA : Rows true w3.heap.size wr (some ⟨gk, 0, none⟩) (keptL d za) := rows_head (l' := [x]) (by rw [← hKA]; exact RK)
          have WRT := Lib.hid (show ∀ W, Below wr.heap.size wr W → Calls Try.prog 55 #[.agg #[.slice a0 d.sectors.length c0, .slice a1 d.waits.length c1], .slice (some ⟨gk, 0, none⟩) la c] W (AnsKD ⟨flushL d.sectors (keptL d za), []⟩ W) from fun W b => by
            rw [hla]
            exact implWritten d (keptL d za) a0 c0 a1 c1 d.waits.length (some ⟨gk, 0, none⟩) c W hn (by rw [← hla]; have := kok_len KK.out; omega) (RW.out.1.below (chainX w hB0 b)) (RKA.below b) hin)
          have CB := Lib.hid (fun w' => implBlockOf s hss w')
          have CX := Lib.hid (show ∀ w', Calls Try.prog 58 #[.agg (NumA (tornL (nums s) x.bytes tn))] w' (RetW (.string (tornS s x.bytes tn)) w') from fun w' => implText _ (by rw [tornL_len (by rw [nums_len]; omega) (by omega)]; exact hws) w')
          have CO := Lib.hid (show ∀ w', Calls Try.prog 57 #[.agg (ByA s), .string x.bytes, .int .i64 tn] w' (RetW (.agg (NumA (tornL (nums s) x.bytes tn))) w') from fun w' => implTorn (nums s) (by rw [nums_len]; exact hss) x.bytes hws tn htn w')
          have TSZ := Lib.hid (show (tornS s x.bytes tn).size ≤ 9223372036854775807 from by rw [tornS_size (by omega) (by omega)]; omega)
          have HS := Lib.hid hs
          have FLN := Lib.hid (flushL_len (keptL d za) d.sectors)
          have HIL := Lib.hid hil
          have YR := Y3.out.later hB
          have YH := Lib.hid YR
          have HB0 := Lib.hid hB0
          have HX := Lib.hid hX
          have LW := Lib.hid (show w.heap.size + 1 < wr.heap.size from YR.lt)
          have DR := lay wr (.cells #[.int .i64 0, .string ⟨#[]⟩] 87)
          have PN := BxN.new wr #[.int .i64 0, .string ⟨#[]⟩] 87
          have k0' := (DR.cell (p := ⟨gk, la * 2, none⟩) hBk).trans k0
          have k1' := (DR.cell (p := ⟨gk, la * 2 + 1, none⟩) hBk).trans k1
          have w0 := PN.cells 0 _ rfl
          have w1' := PN.cells 1 _ rfl
          have wf0 := PN.free 0
          have wf1 := PN.free 1
          have HLA := Lib.hid hla
          have WL : IntKind.i64.wrap (la : Int) = (la : Int) := by rw [IntKind.wrap_i64]; have := kok_len KK.out; omega
          have la0 : (0 : Int) ≤ (la : Int) := by omega
          have la1 : (la : Int) ≤ (c : Int) := by omega
          clear hla
          clear DR PN hO hB hB0 hX YR HQ hck hrk hat RK RKA hKA hin e1 hx hi hs hws hss hil NZ ET hl
          subst hj1
          generalize NumA (tornL (nums s) x.bytes tn) = NB at *
          generalize ByA s = NA at *
          generalize tornS s x.bytes tn = ts at *
          generalize x.bytes = xb at *
          have dt : decide ((tn : Int) < 0) = false := decide_eq_false (by omega)
          have dj : (((la + 1 : Nat) : Int) == 0) = false := by simp; omega
          go_wp2
          go_region
          clear k0 k1 k0' k1' w0 w1' wf0 wf1 WL la0 la1 dj eb
          have DP := lay wr (.cells #[.int .i64 (i : Int), .string xb] 87)
          have P5 := Lib.hid (BxN.new wr #[.int .i64 (i : Int), .string xb] 87).drew
          have X5 := Lib.hid (HX.out.later DP).drew
          have Y5 := Lib.hid (YH.out.later DP).drew
          have B5 := Lib.hid (chainX w HB0.out DP).drew
          have W5 := Lib.hid (WRT.out _ DP.drew)
          have Z5 := Lib.hid (show wr.heap.size + 1 ≤ (wr.alloc (.cells #[.int .i64 (i : Int), .string xb] 87)).drew.heap.size from by show _ ≤ (wr.alloc _).heap.size; rw [World.size_alloc]; omega)
          clear DP WRT
          generalize (wr.alloc (.cells #[.int .i64 (i : Int), .string xb] 87)).drew = w5 at *
          have x0 := X5.out.cells 0 _ rfl
          have x1 := X5.out.cells 1 _ rfl
          go_wp2_with fail
          refine W5.out.mono ?_
          rintro e w6 ⟨p0, k0, p1, k1, rfl, ⟨hh, m', m1, m2, o0, o1⟩, l, b6⟩
          have l0 := l.1
          have l1 := l.2
          have o0 : One w5.heap.size m' w6 p0 (flushL d.sectors (keptL d za)) := o0
          have o1 : One m' w6.heap.size w6 p1 ([] : List DPending) := o1
          obtain ⟨g, rfl, gl, gh, gc0, gf0⟩ := o0.at_ HS.out
          have LK := Lib.hid (show d.sectors.length ≤ k0 from by rw [← FLN.out]; exact l0)
          have DV := lay w6 (.cells #[.slice (some ⟨g, 0, none⟩) d.sectors.length k0, .slice p1 0 k1] 36)
          have V7 := Lib.hid (BxN.new w6 #[.slice (some ⟨g, 0, none⟩) d.sectors.length k0, .slice p1 0 k1] 36)
          have P7 := Lib.hid ((P5.out.later b6).later DV)
          have X7 := Lib.hid ((X5.out.later b6).later DV)
          have Y7 := Lib.hid ((Y5.out.later b6).later DV)
          have B7 := Lib.hid (chainX w (chainX w B5.out b6) DV)
          have gc := (DV.cell (p := ⟨g, i, none⟩) (show g < w6.heap.size by omega)).trans gc0
          have gf := (DV.frozen (p := ⟨g, i, none⟩) (show g < w6.heap.size by omega)).trans gf0
          have O7 := Lib.hid (o0.later m2 DV)
          have Q7 := Lib.hid (o1.later (Nat.le_refl _) DV)
          have NE := Lib.hid (show w.heap.size + 1 < wr.heap.size ∧ wr.heap.size < g ∧ g < w6.heap.size ∧ w5.heap.size ≤ m' ∧ m' ≤ w6.heap.size ∧ g < m' ∧ wr.heap.size + 1 ≤ w5.heap.size from ⟨LW.out, by have := Z5.out; omega, by omega, m1, m2, gh, Z5.out⟩)
          have M7 := Lib.hid (show m' ≤ (w6.alloc (.cells #[.slice (some ⟨g, 0, none⟩) d.sectors.length k0, .slice p1 0 k1] 36)).heap.size from by rw [World.size_alloc]; omega)
          have N7 := Lib.hid (show w6.heap.size ≤ (w6.alloc (.cells #[.slice (some ⟨g, 0, none⟩) d.sectors.length k0, .slice p1 0 k1] 36)).heap.size from by rw [World.size_alloc]; omega)
          have GZL := Lib.hid (show g < (w6.alloc (.cells #[.slice (some ⟨g, 0, none⟩) d.sectors.length k0, .slice p1 0 k1] 36)).heap.size from by rw [World.size_alloc]; omega)
          have ln0 : (DDisk.mk (flushL d.sectors (keptL d za)) []).sectors.length = d.sectors.length := FLN.out
          have lm0 : (DDisk.mk (flushL d.sectors (keptL d za)) []).waits.length = 0 := rfl
          rw [ln0, lm0]
          clear ln0 lm0 gc0 gf0 o0 o1 gl gh m1 m2 hh l0 l1 l b6 DV W5 P5 X5 Y5 B5 Z5 x0 x1
          have i0 : (0 : Int) ≤ (i : Int) := by omega
          have i1 : (i : Int) < (d.sectors.length : Int) := by have := HIL.out; omega
          go_wp2_with fail
          generalize w6.alloc (.cells #[.slice (some ⟨g, 0, none⟩) d.sectors.length k0, .slice p1 0 k1] 36) = w7 at *
          have v0 := V7.out.cells 0 _ rfl
          have v1 := V7.out.cells 1 _ rfl
          have q0 := P7.out.cells 0 _ rfl
          have q1 := P7.out.cells 1 _ rfl
          have ne1 : w6.heap.size ≠ g := by have := NE.out; omega
          have ne2 : g ≠ w6.heap.size := fun e => ne1 e.symm
          have ne3 : wr.heap.size ≠ g := by have := NE.out; omega
          have ne4 : g ≠ wr.heap.size := fun e => ne3 e.symm
          refine wp_region_noPanic ?_
          refine wp_region_held_drew (S := (fun w' : World => w'.cell? ⟨w6.heap.size, 0, none⟩ = some (.slice (some ⟨g, 0, none⟩) d.sectors.length k0) ∧ w'.cell? ⟨wr.heap.size, 0, none⟩ = some (.int .i64 (i : Int)) ∧ w'.cell? ⟨wr.heap.size, 1, none⟩ = some (.string xb))) (by kernel_rfl) ?_ (fun hHeld => ?_)
          · exact ⟨v0, q0, q1⟩
          refine wpAnyH_take (i := 0) (v := ?_) rfl (by kernel_rfl) (by kernel_rfl) (by kernel_rfl) (fun _ _ _ h => h) (Or.inl ⟨by first | kernel_rfl | rfl, ?_⟩) (by assumption) ?_
          rotate_left
          · intro wx hSw; (try dsimp only at hSw); go_simp; first | done | with_reducible rfl
          try simp only [Act.put, List.getElem_toArray, List.getElem_cons_zero, List.getElem_cons_succ, List.setIfInBounds_toArray, List.set_cons_zero, List.set_cons_succ]
          refine wpAnyH_take (i := 1) (v := ?_) rfl (by kernel_rfl) (by kernel_rfl) (by kernel_rfl) (fun _ _ _ h => h) (Or.inl ⟨by first | kernel_rfl | rfl, ?_⟩) (by assumption) ?_
          rotate_left
          · intro wx hSw; (try dsimp only at hSw); go_simp; first | done | with_reducible rfl
          try simp only [Act.put, List.getElem_toArray, List.getElem_cons_zero, List.getElem_cons_succ, List.setIfInBounds_toArray, List.set_cons_zero, List.set_cons_succ]
          refine wpAnyH_take (i := 2) (v := ?_) rfl (by kernel_rfl) (by kernel_rfl) (by kernel_rfl) (fun _ _ _ h => h) (Or.inl ⟨by first | kernel_rfl | rfl, ?_⟩) (by assumption) ?_
          rotate_left
          · intro wx hSw; (try dsimp only at hSw); go_simp; first | done | with_reducible rfl
          try simp only [Act.put, List.getElem_toArray, List.getElem_cons_zero, List.getElem_cons_succ, List.setIfInBounds_toArray, List.set_cons_zero, List.set_cons_succ]
          refine wpAnyH_take (i := 3) (v := ?_) rfl (by kernel_rfl) (by kernel_rfl) (by kernel_rfl) (fun _ _ _ h => h) (Or.inl ⟨by first | kernel_rfl | rfl, ?_⟩) (by assumption) ?_
          rotate_left
          · intro wx hSw; (try dsimp only at hSw); go_simp; first | done | with_reducible rfl
          try simp only [Act.put, List.getElem_toArray, List.getElem_cons_zero, List.getElem_cons_succ, List.setIfInBounds_toArray, List.set_cons_zero, List.set_cons_succ]
          refine wpAnyH_take (i := 4) (v := ?_) rfl (by kernel_rfl) (by kernel_rfl) (by kernel_rfl) (fun _ _ _ h => h) (Or.inl ⟨by first | kernel_rfl | rfl, ?_⟩) (by assumption) ?_
          rotate_left
          · intro wx hSw; (try dsimp only at hSw); go_simp; first | done | with_reducible rfl
          try simp only [Act.put, List.getElem_toArray, List.getElem_cons_zero, List.getElem_cons_succ, List.setIfInBounds_toArray, List.set_cons_zero, List.set_cons_succ]
          refine wpAnyH_take (i := 5) (v := ?_) rfl (by kernel_rfl) (by kernel_rfl) (by kernel_rfl) (fun _ _ _ h => h) (Or.inl ⟨by first | kernel_rfl | rfl, ?_⟩) (by assumption) ?_
          rotate_left
          · intro wx hSw; (try dsimp only at hSw); go_simp; first | done | with_reducible rfl
          try simp only [Act.put, List.getElem_toArray, List.getElem_cons_zero, List.getElem_cons_succ, List.setIfInBounds_toArray, List.set_cons_zero, List.set_cons_succ]
          refine wpAnyH_take (i := 6) (v := ?_) rfl (by kernel_rfl) (by kernel_rfl) (by kernel_rfl) (fun _ _ _ h => h) (Or.inl ⟨by first | kernel_rfl | rfl, ?_⟩) (by assumption) ?_
          rotate_left
          · intro wx hSw; (try dsimp only at hSw); go_simp; first | done | with_reducible rfl
          try simp only [Act.put, List.getElem_toArray, List.getElem_cons_zero, List.getElem_cons_succ, List.setIfInBounds_toArray, List.set_cons_zero, List.set_cons_succ]
          refine wpAnyH_take (i := 7) (v := ?_) rfl (by kernel_rfl) (by kernel_rfl) (by kernel_rfl) (fun _ _ _ h => h) (Or.inl ⟨by first | kernel_rfl | rfl, ?_⟩) (by assumption) ?_
          rotate_left
          · intro wx hSw; (try dsimp only at hSw); go_simp; first | done | with_reducible rfl
          try simp only [Act.put, List.getElem_toArray, List.getElem_cons_zero, List.getElem_cons_succ, List.setIfInBounds_toArray, List.set_cons_zero, List.set_cons_succ]
          refine wpAnyH_take (i := 8) (v := ?_) rfl (by kernel_rfl) (by kernel_rfl) (by kernel_rfl) (fun _ _ _ h => h) (Or.inl ⟨by first | kernel_rfl | rfl, ?_⟩) (by assumption) ?_
          rotate_left
          · intro wx hSw; (try dsimp only at hSw); go_simp; first | done | with_reducible rfl
          try simp only [Act.put, List.getElem_toArray, List.getElem_cons_zero, List.getElem_cons_succ, List.setIfInBounds_toArray, List.set_cons_zero, List.set_cons_succ]
          refine wpAnyH_take (i := 11) (v := ?_) rfl (by kernel_rfl) (by kernel_rfl) (by kernel_rfl) (fun _ _ _ h => h) (Or.inl ⟨by first | kernel_rfl | rfl, ?_⟩) (by assumption) ?_
          rotate_left
          · intro wx hSw; (try dsimp only at hSw); go_simp; first | done | with_reducible rfl
          try simp only [Act.put, List.getElem_toArray, List.getElem_cons_zero, List.getElem_cons_succ, List.setIfInBounds_toArray, List.set_cons_zero, List.set_cons_succ]
          refine wpAnyH_take (i := 12) (v := ?_) rfl (by kernel_rfl) (by kernel_rfl) (by kernel_rfl) (fun _ _ _ h => h) (Or.inl ⟨by first | kernel_rfl | rfl, ?_⟩) (by assumption) ?_
          rotate_left
          · intro wx hSw; (try dsimp only at hSw); go_simp; first | done | with_reducible rfl
          try simp only [Act.put, List.getElem_toArray, List.getElem_cons_zero, List.getElem_cons_succ, List.setIfInBounds_toArray, List.set_cons_zero, List.set_cons_succ]
          refine wpAnyH_take (i := 13) (v := ?_) rfl (by kernel_rfl) (by kernel_rfl) (by kernel_rfl) (fun _ _ _ h => h) (Or.inl ⟨by first | kernel_rfl | rfl, ?_⟩) (by assumption) ?_
          rotate_left
          · intro wx hSw; (try dsimp only at hSw); go_simp; first | done | with_reducible rfl
          try simp only [Act.put, List.getElem_toArray, List.getElem_cons_zero, List.getElem_cons_succ, List.setIfInBounds_toArray, List.set_cons_zero, List.set_cons_succ]
          refine wpAnyH_ready (rs := [9]) (by kernel_rfl) (by simp) ?_
          refine AllReadyH.cons rfl (fun K hK => ?_) AllReadyH.nil
          go_simp
          (try go_wp2_with fail)
          refine hK.out _ _ ?_ (fun hHeld2 => ?_)
          · exact hHeld
          clear hK K hHeld
          have hHeld := hHeld2
          clear hHeld2
          try simp only [Act.put, List.getElem_toArray, List.getElem_cons_zero, List.getElem_cons_succ, List.setIfInBounds_toArray, List.set_cons_zero, List.set_cons_succ]
          refine wpAnyH_ready (rs := [10]) (by kernel_rfl) (by simp) ?_
          refine AllReadyH.cons rfl (fun K hK => ?_) AllReadyH.nil
          go_simp
          go_at_call 56
          refine (CB.out _).mono ?_
          rintro e w8 ⟨rfl, b2⟩
          have b9 := b2; (try replace b9 := undrewX b9); have gc := (b9.cell (p := ⟨g, i, none⟩) GZL.out).trans gc; have gf := (b9.frozen (p := ⟨g, i, none⟩) GZL.out).trans gf; have GZL := Lib.hid (Nat.lt_of_lt_of_le GZL.out b9.size); have X7 := Lib.hid (X7.out.later b9); have Y7 := Lib.hid (Y7.out.later b9); have V7 := Lib.hid (V7.out.later b9); have P7 := Lib.hid (P7.out.later b9); have O7 := Lib.hid (O7.out.later M7.out b9); have Q7 := Lib.hid (Q7.out.later N7.out b9); have M7 := Lib.hid (Nat.le_trans M7.out b9.size); have N7 := Lib.hid (Nat.le_trans N7.out b9.size); have B7 := Lib.hid (chainX w B7.out b9); clear b9 b2; have x0 := X7.out.cells 0 _ rfl; have v0 := V7.out.cells 0 _ rfl; have v1 := V7.out.cells 1 _ rfl; have q0 := P7.out.cells 0 _ rfl; have q1 := P7.out.cells 1 _ rfl
          (try go_wp2_with fail)
          refine hK.out _ _ ?_ (fun hHeld2 => ?_)
          · exact ⟨v0, q0, q1⟩
          clear hK K hHeld
          have hHeld := hHeld2
          clear hHeld2
          try simp only [Act.put, List.getElem_toArray, List.getElem_cons_zero, List.getElem_cons_succ, List.setIfInBounds_toArray, List.set_cons_zero, List.set_cons_succ]
          refine wpAnyH_ready (rs := [14]) (by kernel_rfl) (by simp) ?_
          refine AllReadyH.cons rfl (fun K hK => ?_) AllReadyH.nil
          go_simp
          go_at_call 57
          refine (CO.out _).mono ?_
          rintro e w8 ⟨rfl, b2⟩
          have b9 := b2; (try replace b9 := undrewX b9); have gc := (b9.cell (p := ⟨g, i, none⟩) GZL.out).trans gc; have gf := (b9.frozen (p := ⟨g, i, none⟩) GZL.out).trans gf; have GZL := Lib.hid (Nat.lt_of_lt_of_le GZL.out b9.size); have X7 := Lib.hid (X7.out.later b9); have Y7 := Lib.hid (Y7.out.later b9); have V7 := Lib.hid (V7.out.later b9); have P7 := Lib.hid (P7.out.later b9); have O7 := Lib.hid (O7.out.later M7.out b9); have Q7 := Lib.hid (Q7.out.later N7.out b9); have M7 := Lib.hid (Nat.le_trans M7.out b9.size); have N7 := Lib.hid (Nat.le_trans N7.out b9.size); have B7 := Lib.hid (chainX w B7.out b9); clear b9 b2; have x0 := X7.out.cells 0 _ rfl; have v0 := V7.out.cells 0 _ rfl; have v1 := V7.out.cells 1 _ rfl; have q0 := P7.out.cells 0 _ rfl; have q1 := P7.out.cells 1 _ rfl
          (try go_wp2_with fail)
          refine hK.out _ _ ?_ (fun hHeld2 => ?_)
          · exact ⟨v0, q0, q1⟩
          clear hK K hHeld
          have hHeld := hHeld2
          clear hHeld2
          try simp only [Act.put, List.getElem_toArray, List.getElem_cons_zero, List.getElem_cons_succ, List.setIfInBounds_toArray, List.set_cons_zero, List.set_cons_succ]
          refine wpAnyH_ready (rs := [15]) (by kernel_rfl) (by simp) ?_
          refine AllReadyH.cons rfl (fun K hK => ?_) AllReadyH.nil
          go_simp
          go_at_call 58
          refine (CX.out _).mono ?_
          rintro e w9 ⟨rfl, b2⟩
          have b9 := b2; (try replace b9 := undrewX b9); have gc := (b9.cell (p := ⟨g, i, none⟩) GZL.out).trans gc; have gf := (b9.frozen (p := ⟨g, i, none⟩) GZL.out).trans gf; have GZL := Lib.hid (Nat.lt_of_lt_of_le GZL.out b9.size); have X7 := Lib.hid (X7.out.later b9); have Y7 := Lib.hid (Y7.out.later b9); have V7 := Lib.hid (V7.out.later b9); have P7 := Lib.hid (P7.out.later b9); have O7 := Lib.hid (O7.out.later M7.out b9); have Q7 := Lib.hid (Q7.out.later N7.out b9); have M7 := Lib.hid (Nat.le_trans M7.out b9.size); have N7 := Lib.hid (Nat.le_trans N7.out b9.size); have B7 := Lib.hid (chainX w B7.out b9); clear b9 b2; have x0 := X7.out.cells 0 _ rfl; have v0 := V7.out.cells 0 _ rfl; have v1 := V7.out.cells 1 _ rfl; have q0 := P7.out.cells 0 _ rfl; have q1 := P7.out.cells 1 _ rfl
          (try go_wp2_with fail)
          refine hK.out _ _ ?_ (fun hHeld2 => ?_)
          · exact ⟨v0, q0, q1⟩
          clear hK K hHeld
          have hHeld := hHeld2
          clear hHeld2
          try simp only [Act.put, List.getElem_toArray, List.getElem_cons_zero, List.getElem_cons_succ, List.setIfInBounds_toArray, List.set_cons_zero, List.set_cons_succ]
          refine wpAnyH_take (i := 16) (v := ?_) rfl (by kernel_rfl) (by kernel_rfl) (by kernel_rfl) (fun _ _ _ h => h) (Or.inl ⟨by first | kernel_rfl | rfl, ?_⟩) (by assumption) ?_
          rotate_left
          · intro wx hSw; (try dsimp only at hSw); go_simp; first | done | with_reducible rfl
          try simp only [Act.put, List.getElem_toArray, List.getElem_cons_zero, List.getElem_cons_succ, List.setIfInBounds_toArray, List.set_cons_zero, List.set_cons_succ]
          refine wpAnyH_ready (rs := [17]) (by kernel_rfl) (by simp) ?_
          refine AllReadyH.cons rfl (fun K hK => ?_) AllReadyH.nil
          go_simp
          (try go_wp2_with fail)
          refine hK.out _ _ ?_ (fun hHeld2 => ?_)
          · refine ⟨?_, ?_, ?_⟩ <;> (rw [World.cell?_setCell_other _ _ _ _ (by simp [ne1, ne2, ne3, ne4])]; assumption)
          clear hK K hHeld
          have hHeld := hHeld2
          clear hHeld2
          try simp only [Act.put, List.getElem_toArray, List.getElem_cons_zero, List.getElem_cons_succ, List.setIfInBounds_toArray, List.set_cons_zero, List.set_cons_succ]
          refine wpAnyH_done (by kernel_rfl) ?_ _
          refine NoPanic.normal ?_
          all_goals
            have O9 := Lib.hid (O7.out.put (s := ts) (t := i) (by rw [FLN.out]; exact HIL.out) TSZ.out)
            have Q9 := Lib.hid (Q7.out.set ⟨g, i, none⟩ (.string ts) (.inl (by show g < m'; have := NE.out; omega)))
            have B9 := Lib.hid (B7.out.setCell (p := ⟨g, i, none⟩) (by show w.heap.size ≤ g; have := NE.out; omega) (.string ts))
            have V9 := Lib.hid (V7.out.far (p := ⟨g, i, none⟩) (by show g ≠ w6.heap.size; exact ne2) (.string ts))
            have Y9 := Lib.hid (Y7.out.far (p := ⟨g, i, none⟩) (by show g ≠ w.heap.size + 1; have := NE.out; omega) (.string ts))
            have M9 := Lib.hid (show m' ≤ (w9.setCell ⟨g, i, none⟩ (.string ts)).heap.size from by rw [World.size_setCell]; exact M7.out)
            have N9 := Lib.hid (show w6.heap.size ≤ (w9.setCell ⟨g, i, none⟩ (.string ts)).heap.size from by rw [World.size_setCell]; exact N7.out)
            clear gc gf v0 v1 q0 q1 x0
            have v0 := V9.out.cells 0 _ rfl
            have v1 := V9.out.cells 1 _ rfl
            have y0 := Y9.out.cells 0 _ rfl
            have y1 := Y9.out.cells 1 _ rfl
            have yf0 := Y9.out.free 0
            have yf1 := Y9.out.free 1
            have F := Lib.hid (show AnsK ⟨(flushL d.sectors (keptL d za)).set i ts, []⟩ 0 w (.returned (.tuple #[.agg #[.slice (some ⟨g, 0, none⟩) d.sectors.length k0, .slice p1 0 k1], .int .i64 0])) (((w9.setCell ⟨g, i, none⟩ (.string ts)).setCell ⟨w.heap.size + 1, 0, none⟩ (.slice (some ⟨g, 0, none⟩) d.sectors.length k0)).setCell ⟨w.heap.size + 1, 1, none⟩ (.slice p1 0 k1)) from by
              have ne := NE.out
              have z0 := (O9.out.set ⟨w.heap.size + 1, 0, none⟩ (.slice (some ⟨g, 0, none⟩) d.sectors.length k0) (.inl (by show w.heap.size + 1 < w5.heap.size; omega))).set ⟨w.heap.size + 1, 1, none⟩ (.slice p1 0 k1) (.inl (by show w.heap.size + 1 < w5.heap.size; omega))
              have z1 := (Q9.out.set ⟨w.heap.size + 1, 0, none⟩ (.slice (some ⟨g, 0, none⟩) d.sectors.length k0) (.inl (by show w.heap.size + 1 < m'; omega))).set ⟨w.heap.size + 1, 1, none⟩ (.slice p1 0 k1) (.inl (by show w.heap.size + 1 < m'; omega))
              have RL : ((flushL d.sectors (keptL d za)).set i ts).length = d.sectors.length := by rw [List.length_set]; exact FLN.out
              refine ⟨some ⟨g, 0, none⟩, k0, p1, k1, by rw [RL]; rfl, ⟨Nat.le_refl _, m', by omega, by simp only [World.size_setCell]; have := M9.out; rwa [World.size_setCell] at this, z0.wide (by omega) (Nat.le_refl _), z1.wide (Nat.le_refl _) (by simp only [World.size_setCell]; have := N9.out; rwa [World.size_setCell] at this)⟩, ⟨by rw [RL]; exact LK.out, Nat.zero_le _⟩, (B9.out.setCell (p := ⟨w.heap.size + 1, 0, none⟩) (by show _ ≤ w.heap.size + 1; omega) _).setCell (p := ⟨w.heap.size + 1, 1, none⟩) (by show _ ≤ w.heap.size + 1; omega) _⟩)
            clear O9 Q9 B9 O7 Q7 B7
            go_wp2
            exact bodyPost_ret (v := .tuple #[.agg #[.slice (some ⟨g, 0, none⟩) d.sectors.length k0, .slice p1 0 k1], .int .i64 0]) (by simp [results, Try.results15, go_sem, *]) rfl F.out
end Go.Proofs.Ytdieekgihdikdaa.Rd
