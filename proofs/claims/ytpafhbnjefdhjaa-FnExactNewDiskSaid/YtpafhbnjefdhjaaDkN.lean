/-
  NewDisk in the model.
-/
import Derived.Test.YtpafhbnjefdhjaaDkV
import Derived.Test.YtpafhbnjefdhjaaTurn
import Derived.Deep.OwnRows
import Derived.Deep.RegionWith
namespace Go.Proofs.Ytpafhbnjefdhjaa.Rd
open Go.RowKit Go.ChangeShapes Go.WideShapes Go.Proofs.Ytpafhbnjefdhjaa.GfI Go.Proofs.Ytpafhbnjefdhjaa.GfS
open Go.Proofs.Ytpafhbnjefdhjaa.Sg (BxN)
set_option linter.unusedVariables false
set_option linter.unusedSimpArgs false

/-- A sector of zeros. -/
def zeroB : ByteArray := strOfNums (List.replicate 64 0)
theorem zeroB_size : zeroB.size = 64 := by unfold zeroB; rw [strOfNums_size, List.length_replicate]
/-- A new disk. -/
def newD (n : Nat) : DDisk := ⟨List.replicate n zeroB, []⟩
/-- What NewDisk answers. -/
def NewP (n : Int) (r : DDisk) (c : Int) : Prop := (inB n 1 1200 = false ∧ r = zeroD ∧ c = 2) ∨ (∃ k : Nat, n = ((k : Nat) : Int) ∧ 1 ≤ k ∧ k ≤ 1200 ∧ r = newD k ∧ c = 0)
theorem newP_ex (n : Int) : ∃ r c, NewP n r c := by
  cases e : inB n 1 1200
  · exact ⟨_, _, .inl ⟨e, rfl, rfl⟩⟩
  · have e : 1 ≤ n ∧ n ≤ 1200 := of_decide_eq_true e
    exact ⟨_, _, .inr ⟨n.toNat, by omega, by omega, by omega, rfl, rfl⟩⟩
theorem newP_sz {n : Int} {r : DDisk} {c : Int} (h : NewP n r c) : Rdb.sz r ≤ 2097152 := by
  rcases h with ⟨_, rfl, _⟩ | ⟨k, _, h1, h2, rfl, _⟩
  · exact (by show (0 : Nat) ≤ _; omega)
  · exact sz_disk 1200 600 (fun x hx => by obtain rfl := List.eq_of_mem_replicate hx; exact decide_eq_true zeroB_size) (fun x hx => by cases hx) (by show (List.replicate k zeroB).length ≤ 1200; rw [List.length_replicate]; exact h2) (by show 0 ≤ 600; omega) (by omega)
theorem infoU8Z : (Try.prog.info? 5).map (fun i => (i.zero, i.size, i.bytes)) = some (some (.int .u8 0), 1, 1) := by kernel_rfl
theorem made_zero (n i : Nat) (hi : i < n) : (madeCells #[.int .u8 0] n)[i]? = some (.int .u8 ((List.replicate n (0 : Int)).getD i 0)) := by
  simp [madeCells, hi, List.getD_eq_getElem?_getD, List.getElem?_replicate, Nat.mod_one]
set_option maxRecDepth 100000 in
/-- make([]byte, 64), and its text. -/
theorem zero64 : ∃ Z : Array Value, (∀ w : World, (Instr.makeSlice 57 (.int .i64 64) (.int .i64 64)).run Try.prog w = .ok (.slice (some ⟨w.heap.size, 0, none⟩) 64 64) (w.alloc (.cells Z 5))) ∧
    (∀ w : World, (convert 57 9 (.slice (some ⟨w.heap.size, 0, none⟩) 64 64)).run Try.prog (w.alloc (.cells Z 5)) = .ok (.string zeroB) (w.alloc (.cells Z 5))) := by
  refine ⟨madeCells #[.int .u8 0] 64, fun w => run_make_row' (P := Try.prog) 57 5 (.int .u8 0) 1 Try.underlying57 infoU8Z rfl .i64 .i64 64 (by omega) (by omega) w, fun w => ?_⟩
  have g := heap_alloc_new w (.cells (madeCells #[.int .u8 0] 64) 5)
  have h := run_convert_bytes_arg (P := Try.prog) (w.alloc (.cells (madeCells #[.int .u8 0] 64) 5)) 57 5 Try.underlying57 Try.underlying5 w.heap.size 0 64 64 (List.replicate 64 0) List.length_replicate (fun i hi => by
    rw [Nat.zero_add, cell_of_row _ _ _ _ _ _ g]
    exact made_zero 64 i hi) 9 Try.underlying9
  exact h
set_option maxRecDepth 100000 in
set_option maxHeartbeats 4000000 in
theorem specNewDisk (n : Int) (R : DDisk) (rc : Int) (hp : NewP n R rc) (w : World) : Calls Try.prog 19 #[.int .i64 n] w (AnsKR R rc w) := by
  have L := Lib.hid (lay w (.cells #[.slice none 0 0, .slice none 0 0] 30))
  have Y := Lib.hid (BxN.new w #[.slice none 0 0, .slice none 0 0] 30)
  have CI := Lib.hid (fun w' => GfS.l00In n 1 1200 w')
  rcases hp with ⟨hb, rfl, rfl⟩ | ⟨k, rfl, h1, h2, rfl, rfl⟩
  · rw [hb] at CI
    have CI := Lib.hid CI.out
    clear hb
    go_enter Try.func19, Try.ntmps19
    go_wp2_with fail
    refine (CI.out _).mono ?_
    rintro e w9 ⟨rfl, rfl⟩
    have v0 := Y.out.cells 0 _ rfl
    have v1 := Y.out.cells 1 _ rfl
    have vf0 := Y.out.free 0
    have vf1 := Y.out.free 1
    have F := Lib.hid (AnsKR.zero 2 L.out)
    go_wp2
    exact bodyPost_ret (v := .tuple #[.agg #[.slice none 0 0, .slice none 0 0], .int .i64 2]) (by simp [results, Try.results19, go_sem, *]) rfl F.out
  · rw [inB_yes (by omega) (by omega)] at CI
    have CI := Lib.hid CI.out
    obtain ⟨Z, hmk, hcv⟩ := zero64
    have hcv := hcv ((w.alloc (.cells #[.slice none 0 0, .slice none 0 0] 30)).alloc (.cells #[.slice none 0 0, .slice none 0 0] 30))
    simp only [World.size_alloc] at hcv
    have ZB := zeroB_size
    generalize hz : zeroB = zs at *
    have LB := lay (w.alloc (.cells #[.slice none 0 0, .slice none 0 0] 30)) (.cells #[.slice none 0 0, .slice none 0 0] 30)
    have LC := lay ((w.alloc (.cells #[.slice none 0 0, .slice none 0 0] 30)).alloc (.cells #[.slice none 0 0, .slice none 0 0] 30)) (.cells Z 5)
    have B1 := Lib.hid (chainX w (chainX w L.out LB) LC)
    have Y1 := Lib.hid ((Y.out.later LB).later LC)
    have O0 := BxN.new (w.alloc (.cells #[.slice none 0 0, .slice none 0 0] 30)) #[.slice none 0 0, .slice none 0 0] 30
    rw [World.size_alloc] at O0
    have O1 := Lib.hid (O0.later LC)
    clear LB LC O0
    go_enter Try.func19, Try.ntmps19
    go_wp2_with fail
    refine (CI.out _).mono ?_
    rintro e w9 ⟨rfl, rfl⟩
    go_wp2
    go_loopw [6] (fun i wr => ∃ (j : Nat) (q1 : Option Addr) (c : Nat), j ≤ k ∧ i = .int .i64 j ∧ OwnL 9 (w.heap.size + 1 + 1) wr (.slice q1 j c) (List.replicate j zs) ∧ Below w.heap.size w wr ∧ BxN wr w.heap.size [.slice none 0 0, .slice none 0 0] ∧ BxN wr (w.heap.size + 1) [.slice q1 j c, .slice none 0 0]) (fun i _ => k - (intOf i).toNat)
    case atStart => exact ⟨0, none, 0, by omega, rfl, OwnL.nil _ _ _, B1.out, Y1.out, O1.out⟩
    case round =>
      obtain ⟨j, q1, c, hj, rfl, h0, hB, hY, hO⟩ := hrel
      clear B1 Y1 O1
      by_cases hlt : j < k
      · have y0 := hO.cells 0 _ rfl
        have yf0 := hO.free 0
        have DR := lay wr (.cells #[.string zs] 9)
        have EN := BxN.new wr #[.string zs] 9
        have RY := Lib.hid (show Rows true 0 (wr.alloc (.cells #[.string zs] 9)) (some ⟨wr.heap.size, 0, none⟩) [zs] from .inr ⟨wr.heap.size, 0, rfl, Nat.zero_le _, EN.lt, fun _ => EN.free, fun i q hq => by
          have hi : i < 1 := (List.getElem?_eq_some_iff.1 hq).1
          obtain rfl : i = 0 := by omega
          obtain rfl : zs = q := by simpa using hq
          exact ⟨[.string zs], Enc.iff.2 ⟨rfl, (by show zs.size ≤ 9223372036854775807; omega)⟩, fun cc u hu => by rw [Nat.zero_mul, Nat.zero_add]; exact EN.cells cc u (by simpa using hu)⟩⟩)
        have H1 := Lib.hid (show OwnL 9 (w.heap.size + 1 + 1) (wr.alloc (.cells #[.string zs] 9)) (.slice q1 j c) (List.replicate j zs) from h0.alloc _)
        have HO1 := Lib.hid (hO.later DR)
        have HY1 := Lib.hid (hY.later DR)
        have HB1 := Lib.hid (chainX w hB DR)
        have SZ1 := Lib.hid (show w.heap.size + 1 + 1 ≤ (wr.alloc (.cells #[.string zs] 9)).heap.size from by rw [World.size_alloc]; have := hO.lt; omega)
        have AT2 := Lib.hid (show List.replicate (j + 1) zs = List.replicate j zs ++ [zs] from List.replicate_succ')
        clear h0 hB hY hO DR EN
        go_wp2_with (at_builtin; refine wpList_append_F (α := ByteArray) rfl (.tmp 20) (.tmp 22) 22 9 (.string ByteArray.empty) 16 ?_ ?_ ?_ ?_ ?_ (w.heap.size + 1 + 1) (.slice q1 j c) (List.replicate j zs) [zs] ?_ ?_ (some ⟨wr.heap.size, 0, none⟩) 1 (fr := true) (lo := 0) ?_ ?_ ?_ ?_ ?_; (· rfl); (· exact Try.underlying22); (· exact infoStr); (· rfl); (· omega); (· rfl); (· exact H1.out); (· rfl); (· exact RY.out); (· simp; omega); (· exact SZ1.out); intro v' w6 J6 g6; rw [← AT2.out] at J6; obtain ⟨q2, c2, e2⟩ := J6.val; rw [List.length_replicate] at e2; subst e2; have N1 : ∀ b, b < w.heap.size + 1 + 1 → some b ≠ (Value.slice q1 j c).ownBlock := fun b hb e => (by have := (H1.out.blk e.symm).1; omega); have O6 := BxN.grown HO1.out g6 (N1 _ (by omega)); have x5 := O6.cells 0 _ rfl; have xf5 := O6.free 0; have B6 := Lib.hid (HB1.out.grown g6 (by have := HB1.out.size; omega) (fun k hk => by have := (H1.out.blk hk).1; omega)); have Y6 := Lib.hid (BxN.grown HY1.out g6 (N1 _ (by omega))); have O6H := Lib.hid O6; have J6H := Lib.hid J6; clear O6 J6 g6 N1)
        have QO := Lib.hid (O6H.out.put 0 (by simp) (.slice q2 (j + 1) c2))
        have Q0 := Lib.hid (J6H.out.set ⟨w.heap.size + 1, 0, none⟩ (.slice q2 (j + 1) c2) (by show w.heap.size + 1 < _; omega))
        have QB := Lib.hid (B6.out.setCell (p := ⟨w.heap.size + 1, 0, none⟩) (by show w.heap.size ≤ w.heap.size + 1; omega) (.slice q2 (j + 1) c2))
        have QY := Lib.hid (Y6.out.far (p := ⟨w.heap.size + 1, 0, none⟩) (by show w.heap.size + 1 ≠ w.heap.size; omega) (.slice q2 (j + 1) c2))
        clear H1 HO1 HY1 HB1 SZ1 B6 O6H J6H Y6 RY
        (try go_wp2)
        go_roundw
        case rel => exact ⟨j + 1, q2, c2, by omega, by go_num, Q0.out, QB.out, QY.out, QO.out⟩
        case measure => simp [intOf]; omega
      · obtain rfl : j = k := by omega
        have y0 := hO.cells 0 _ rfl
        have y1 := hO.cells 1 _ rfl
        have v0 := hY.cells 0 _ rfl
        have v1 := hY.cells 1 _ rfl
        have vf0 := hY.free 0
        have vf1 := hY.free 1
        have F := Lib.hid (show AnsKR (newD j) 0 w (.returned (.tuple #[.agg #[.slice q1 j c, .slice none 0 0], .int .i64 0])) ((wr.setCell ⟨w.heap.size, 0, none⟩ (.slice q1 j c)).setCell ⟨w.heap.size, 1, none⟩ (.slice none 0 0)) from by
          have k0' := (h0.set ⟨w.heap.size, 0, none⟩ (.slice q1 j c) (by show w.heap.size < _; omega)).set ⟨w.heap.size, 1, none⟩ (.slice none 0 0) (by show w.heap.size < _; omega)
          have e : (newD j).sectors = List.replicate j zs := by rw [← hz]; rfl
          have e2 : (newD j).sectors.length = j := by rw [e, List.length_replicate]
          refine ⟨q1, c, none, 0, by rw [e2]; rfl, ⟨?_, .inl rfl⟩, ⟨?_, Nat.le_refl _⟩, (hB.setCell (p := ⟨w.heap.size, 0, none⟩) (Nat.le_refl _) _).setCell (p := ⟨w.heap.size, 1, none⟩) (Nat.le_refl _) _⟩
          · obtain ⟨a', c', e', -, o, -⟩ := k0'.shape
            obtain ⟨rfl, -⟩ : q1 = a' ∧ _ := by simpa using e'
            rw [e]; exact o.rows.weak (Nat.zero_le _) (fun e => by cases e)
          · obtain ⟨a', c', e', l', o, -⟩ := k0'.shape
            obtain ⟨-, rfl⟩ : q1 = a' ∧ c = c' := by simpa using e'
            rw [e]; exact l')
        clear h0 hB hY hO
        go_wp2
        exact bodyPost_ret (v := .tuple #[.agg #[.slice q1 j c, .slice none 0 0], .int .i64 0]) (by simp [results, Try.results19, go_sem, *]) rfl F.out
end Go.Proofs.Ytpafhbnjefdhjaa.Rd
