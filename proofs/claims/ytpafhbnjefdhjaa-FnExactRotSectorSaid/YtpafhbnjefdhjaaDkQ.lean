/-
  RotSector in the program.
-/
import Derived.Test.YtpafhbnjefdhjaaDkU
import Derived.Deep.RegionWith
namespace Go.Proofs.Ytpafhbnjefdhjaa.Rd
open Go.RowKit Go.ChangeShapes Go.WideShapes Go.Proofs.Ytpafhbnjefdhjaa.GfI Go.Proofs.Ytpafhbnjefdhjaa.GfS
open Go.Proofs.Ytpafhbnjefdhjaa.Sg (BxN)
set_option linter.unusedVariables false
set_option linter.unusedSimpArgs false

theorem blk_one (lit : Array Value) (hsz : lit.size = 64) (s : ByteArray) (w : World) : ∃ W, (w.alloc (.cells lit 89)).setRow w.heap.size (ByA s) = W ∧ (w.alloc (.cells lit 89)).heap[w.heap.size]? = some (.cells lit 89 (0, 0)) ∧ RowB W w.heap.size s ∧ Below w.heap.size w W ∧ w.heap.size < W.heap.size := by
  have g1 : (w.alloc (.cells lit 89)).heap[w.heap.size]? = some (.cells lit 89 (0, 0)) := heap_alloc_new w _
  exact ⟨_, rfl, g1, setRow_heap _ _ _ _ _ _ g1, below_setRow (lay w _) (Nat.le_refl _) _, by simp⟩
theorem exec_row {P : Program} {o : Oper} {a : Act} {w : World} (ty : TypeId) (x : Operand) (ho : o.op = .load ty x) (g : Nat) (hx : a.eval x = .pointer (some ⟨g, 0, none⟩)) (t : TypeId) (cs : Array Value) (fr : Nat × Nat) (d : TypeDesc)
    (hg : w.heap[g]? = some (.cells cs t fr)) (hu : P.underlying ty = some d) (hd : (match d with | .struct _ | .array _ _ => true | _ => false) = true) (hi : (P.info? ty).map (·.size) = some cs.size) : Sem.run P (execOp a.eval o) w = .ok (.value (.agg cs)) w := by
  unfold execOp
  simp only [ho, hx, Instr.loadAt, Instr.sureAddr, Sem.run_bind, Sem.run_pure, Result.andThen_ok, run_loadVar_row w g t ty cs fr d hg hu hd hi]
theorem cons_of {l : List Int} {n : Nat} (h : l.length = n + 1) : ∃ x t, l = x :: t ∧ t.length = n := by
  cases l with
  | nil => cases h
  | cons x t => exact ⟨x, t, rfl, by simpa using h⟩
theorem len64 {l : List Int} (h : l.length = 64) : ∃ xb0 xb1 xb2 xb3 xb4 xb5 xb6 xb7 xb8 xb9 xb10 xb11 xb12 xb13 xb14 xb15 xb16 xb17 xb18 xb19 xb20 xb21 xb22 xb23 xb24 xb25 xb26 xb27 xb28 xb29 xb30 xb31 xb32 xb33 xb34 xb35 xb36 xb37 xb38 xb39 xb40 xb41 xb42 xb43 xb44 xb45 xb46 xb47 xb48 xb49 xb50 xb51 xb52 xb53 xb54 xb55 xb56 xb57 xb58 xb59 xb60 xb61 xb62 xb63, l = [xb0, xb1, xb2, xb3, xb4, xb5, xb6, xb7, xb8, xb9, xb10, xb11, xb12, xb13, xb14, xb15, xb16, xb17, xb18, xb19, xb20, xb21, xb22, xb23, xb24, xb25, xb26, xb27, xb28, xb29, xb30, xb31, xb32, xb33, xb34, xb35, xb36, xb37, xb38, xb39, xb40, xb41, xb42, xb43, xb44, xb45, xb46, xb47, xb48, xb49, xb50, xb51, xb52, xb53, xb54, xb55, xb56, xb57, xb58, xb59, xb60, xb61, xb62, xb63] := by
  obtain ⟨xb0, t0, rfl, h0⟩ := cons_of (n := 63) h
  obtain ⟨xb1, t1, rfl, h1⟩ := cons_of (n := 62) h0
  obtain ⟨xb2, t2, rfl, h2⟩ := cons_of (n := 61) h1
  obtain ⟨xb3, t3, rfl, h3⟩ := cons_of (n := 60) h2
  obtain ⟨xb4, t4, rfl, h4⟩ := cons_of (n := 59) h3
  obtain ⟨xb5, t5, rfl, h5⟩ := cons_of (n := 58) h4
  obtain ⟨xb6, t6, rfl, h6⟩ := cons_of (n := 57) h5
  obtain ⟨xb7, t7, rfl, h7⟩ := cons_of (n := 56) h6
  obtain ⟨xb8, t8, rfl, h8⟩ := cons_of (n := 55) h7
  obtain ⟨xb9, t9, rfl, h9⟩ := cons_of (n := 54) h8
  obtain ⟨xb10, t10, rfl, h10⟩ := cons_of (n := 53) h9
  obtain ⟨xb11, t11, rfl, h11⟩ := cons_of (n := 52) h10
  obtain ⟨xb12, t12, rfl, h12⟩ := cons_of (n := 51) h11
  obtain ⟨xb13, t13, rfl, h13⟩ := cons_of (n := 50) h12
  obtain ⟨xb14, t14, rfl, h14⟩ := cons_of (n := 49) h13
  obtain ⟨xb15, t15, rfl, h15⟩ := cons_of (n := 48) h14
  obtain ⟨xb16, t16, rfl, h16⟩ := cons_of (n := 47) h15
  obtain ⟨xb17, t17, rfl, h17⟩ := cons_of (n := 46) h16
  obtain ⟨xb18, t18, rfl, h18⟩ := cons_of (n := 45) h17
  obtain ⟨xb19, t19, rfl, h19⟩ := cons_of (n := 44) h18
  obtain ⟨xb20, t20, rfl, h20⟩ := cons_of (n := 43) h19
  obtain ⟨xb21, t21, rfl, h21⟩ := cons_of (n := 42) h20
  obtain ⟨xb22, t22, rfl, h22⟩ := cons_of (n := 41) h21
  obtain ⟨xb23, t23, rfl, h23⟩ := cons_of (n := 40) h22
  obtain ⟨xb24, t24, rfl, h24⟩ := cons_of (n := 39) h23
  obtain ⟨xb25, t25, rfl, h25⟩ := cons_of (n := 38) h24
  obtain ⟨xb26, t26, rfl, h26⟩ := cons_of (n := 37) h25
  obtain ⟨xb27, t27, rfl, h27⟩ := cons_of (n := 36) h26
  obtain ⟨xb28, t28, rfl, h28⟩ := cons_of (n := 35) h27
  obtain ⟨xb29, t29, rfl, h29⟩ := cons_of (n := 34) h28
  obtain ⟨xb30, t30, rfl, h30⟩ := cons_of (n := 33) h29
  obtain ⟨xb31, t31, rfl, h31⟩ := cons_of (n := 32) h30
  obtain ⟨xb32, t32, rfl, h32⟩ := cons_of (n := 31) h31
  obtain ⟨xb33, t33, rfl, h33⟩ := cons_of (n := 30) h32
  obtain ⟨xb34, t34, rfl, h34⟩ := cons_of (n := 29) h33
  obtain ⟨xb35, t35, rfl, h35⟩ := cons_of (n := 28) h34
  obtain ⟨xb36, t36, rfl, h36⟩ := cons_of (n := 27) h35
  obtain ⟨xb37, t37, rfl, h37⟩ := cons_of (n := 26) h36
  obtain ⟨xb38, t38, rfl, h38⟩ := cons_of (n := 25) h37
  obtain ⟨xb39, t39, rfl, h39⟩ := cons_of (n := 24) h38
  obtain ⟨xb40, t40, rfl, h40⟩ := cons_of (n := 23) h39
  obtain ⟨xb41, t41, rfl, h41⟩ := cons_of (n := 22) h40
  obtain ⟨xb42, t42, rfl, h42⟩ := cons_of (n := 21) h41
  obtain ⟨xb43, t43, rfl, h43⟩ := cons_of (n := 20) h42
  obtain ⟨xb44, t44, rfl, h44⟩ := cons_of (n := 19) h43
  obtain ⟨xb45, t45, rfl, h45⟩ := cons_of (n := 18) h44
  obtain ⟨xb46, t46, rfl, h46⟩ := cons_of (n := 17) h45
  obtain ⟨xb47, t47, rfl, h47⟩ := cons_of (n := 16) h46
  obtain ⟨xb48, t48, rfl, h48⟩ := cons_of (n := 15) h47
  obtain ⟨xb49, t49, rfl, h49⟩ := cons_of (n := 14) h48
  obtain ⟨xb50, t50, rfl, h50⟩ := cons_of (n := 13) h49
  obtain ⟨xb51, t51, rfl, h51⟩ := cons_of (n := 12) h50
  obtain ⟨xb52, t52, rfl, h52⟩ := cons_of (n := 11) h51
  obtain ⟨xb53, t53, rfl, h53⟩ := cons_of (n := 10) h52
  obtain ⟨xb54, t54, rfl, h54⟩ := cons_of (n := 9) h53
  obtain ⟨xb55, t55, rfl, h55⟩ := cons_of (n := 8) h54
  obtain ⟨xb56, t56, rfl, h56⟩ := cons_of (n := 7) h55
  obtain ⟨xb57, t57, rfl, h57⟩ := cons_of (n := 6) h56
  obtain ⟨xb58, t58, rfl, h58⟩ := cons_of (n := 5) h57
  obtain ⟨xb59, t59, rfl, h59⟩ := cons_of (n := 4) h58
  obtain ⟨xb60, t60, rfl, h60⟩ := cons_of (n := 3) h59
  obtain ⟨xb61, t61, rfl, h61⟩ := cons_of (n := 2) h60
  obtain ⟨xb62, t62, rfl, h62⟩ := cons_of (n := 1) h61
  obtain ⟨xb63, t63, rfl, h63⟩ := cons_of (n := 0) h62
  obtain rfl : t63 = [] := List.length_eq_zero_iff.1 h63
  exact ⟨xb0, xb1, xb2, xb3, xb4, xb5, xb6, xb7, xb8, xb9, xb10, xb11, xb12, xb13, xb14, xb15, xb16, xb17, xb18, xb19, xb20, xb21, xb22, xb23, xb24, xb25, xb26, xb27, xb28, xb29, xb30, xb31, xb32, xb33, xb34, xb35, xb36, xb37, xb38, xb39, xb40, xb41, xb42, xb43, xb44, xb45, xb46, xb47, xb48, xb49, xb50, xb51, xb52, xb53, xb54, xb55, xb56, xb57, xb58, xb59, xb60, xb61, xb62, xb63, rfl⟩
/-- A byte of an array turned. -/
theorem RowB.turn {w : World} {g q : Nat} {s : ByteArray} {y : Int} (h : RowB w g s) (hq : q < s.size) : w.cell? ⟨g, q, none⟩ = some (.int .u8 ((nums s).getD q 0)) ∧ w.frozen? ⟨g, q, none⟩ = false ∧
    (w.setCell ⟨g, q, none⟩ (.int .u8 (bits .xor .u8 ((nums s).getD q 0) y))).heap[g]? = some (.cells (NumA (turnL (nums s) q y)) 89 (0, 0)) := by
  have hl : q < (nums s).length := by rw [nums_len]; exact hq
  refine ⟨?_, ?_, ?_⟩
  · rw [cell_of_row _ _ _ _ _ _ h]
    unfold ByA NumA
    rw [List.getElem?_toArray, List.getElem?_map, List.getD_eq_getElem?_getD, List.getElem?_eq_getElem hl]; rfl
  · have h' : w.heap[g]? = some (.cells (ByA s) 89 (0, 0)) := h
    simp [World.frozen?, h']
  · rw [setCell_eq_setRow _ _ _ _ _ _ _ h, setRow_heap _ _ _ _ _ _ h]
    unfold ByA NumA turnL
    congr 2
    rw [List.setIfInBounds_toArray, List.map_set]
set_option maxRecDepth 100000 in
set_option maxHeartbeats 4000000 in
theorem implRotSector {cs : List Value} {fr : Bool} {lo : Nat} (d : DDisk) (i p y : Int) (R : DDisk) (rc : Int) (hp : RotP d i p y R rc) (w : World) (hs : Rdb.sz d ≤ 2097152) (h : Rdb.rd fr lo w cs d) :
    Calls Try.prog 41 #[.agg cs.toArray, .int .i64 i, .int .i64 p, .int .i64 y] w (AnsK R rc w) := by
  have RD := h
  obtain ⟨a0, c0, a1, c1, rfl, f0, g0, f1, g1⟩ := shape_Disk h
  have L := Lib.hid (chain (lay w (.cells #[.slice a0 d.sectors.length c0, .slice a1 d.waits.length c1] 30)) (lay _ (.cells #[.slice none 0 0, .slice none 0 0] 30)))
  have X := Lib.hid ((BxN.new w #[.slice a0 d.sectors.length c0, .slice a1 d.waits.length c1] 30).later (lay _ (.cells #[.slice none 0 0, .slice none 0 0] 30)))
  have Y0 := BxN.new (w.alloc (.cells #[.slice a0 d.sectors.length c0, .slice a1 d.waits.length c1] 30)) #[.slice none 0 0, .slice none 0 0] 30
  rw [World.size_alloc] at Y0
  have Y := Lib.hid Y0
  have x0 := X.out.cells 0 _ rfl
  have x1 := X.out.cells 1 _ rfl
  have SZ := Lib.hid (show ((w.alloc (.cells #[.slice a0 d.sectors.length c0, .slice a1 d.waits.length c1] 30)).alloc (.cells #[.slice none 0 0, .slice none 0 0] 30)).heap.size = w.heap.size + 1 + 1 from by simp)
  have RW := Lib.hid (rd_rw2 f0 f1)
  have C := Lib.hid (implDiskOk d _ hs (Rdb.below RD L.out))
  have CH := Lib.hid (fun w' => lacks d.sectors.length d.waits.length a0 a1 c0 c1 i w')
  have CI := Lib.hid (fun w' => Wi.isWithin p 0 63 (by omega) w')
  have CJ := Lib.hid (fun w' => Wi.isWithin y 1 255 (by omega) w')
  clear Y0 f0 f1 h RD
  rcases hp with ⟨hk, rfl, rfl⟩ | ⟨hk, hi, rfl, rfl⟩ | ⟨hk, t, q, s, rfl, rfl, hq, hy, hsx, rfl, rfl⟩
  · have HK := Lib.hid hk
    clear hk
    go_enter Try.func41, Try.ntmps41
    go_wp2_with fail
    refine C.out.mono ?_
    rintro e w1 ⟨b, rfl, hb, b1⟩
    have B1 := Lib.hid (chainX w L.out b1)
    have X1 := Lib.hid (X.out.later b1)
    have Y1 := Lib.hid (Y.out.later b1)
    have x2 := X1.out.cells 0 _ rfl
    have x3 := X1.out.cells 1 _ rfl
    have HBB := Lib.hid hb
    clear b1 hb x0 x1
    cases b
    · clear HBB
      have y0 := Y1.out.cells 0 _ rfl
      have y1 := Y1.out.cells 1 _ rfl
      have z0 := Y1.out.free 0
      have z1 := Y1.out.free 1
      have F := Lib.hid (ansK_zero 1 (((B1.out.setCell (p := ⟨w.heap.size + 1, 0, none⟩) (by show _ ≤ w.heap.size + 1; omega) (.slice none 0 0)).setCell (p := ⟨w.heap.size + 1, 1, none⟩) (by show _ ≤ w.heap.size + 1; omega) (.slice none 0 0))))
      go_wp2
      exact bodyPost_ret (v := .tuple #[.agg #[.slice none 0 0, .slice none 0 0], .int .i64 1]) (by simp [results, Try.results41, go_sem, *]) rfl F.out
    · exact absurd (HBB.out.1 rfl) HK.out
  · have HK := Lib.hid hk
    clear hk
    generalize inD d.sectors.length i = u1 at *
    generalize inB p 0 63 = u2 at *
    generalize inB y 1 255 = u3 at *
    cases u1
    · clear hi
      go_enter Try.func41, Try.ntmps41
      go_wp2_with fail
      refine C.out.mono ?_
      rintro e w1 ⟨b, rfl, hb, b1⟩
      have B1 := Lib.hid (chainX w L.out b1)
      have X1 := Lib.hid (X.out.later b1)
      have Y1 := Lib.hid (Y.out.later b1)
      have x2 := X1.out.cells 0 _ rfl
      have x3 := X1.out.cells 1 _ rfl
      have HBB := Lib.hid hb
      clear b1 hb x0 x1
      cases b
      · have := HBB.out.2 HK.out; cases this
      clear HBB
      go_wp2_with fail
      refine (CH.out _).mono ?_
      rintro e w2 ⟨rfl, b2⟩
      have B2 := Lib.hid (chainX w B1.out b2)
      have X2 := Lib.hid (X1.out.later b2)
      have Y2 := Lib.hid (Y1.out.later b2)
      clear x2 x3 b2
      have x2 := X2.out.cells 0 _ rfl
      have x3 := X2.out.cells 1 _ rfl
      have y0 := Y2.out.cells 0 _ rfl
      have y1 := Y2.out.cells 1 _ rfl
      have z0 := Y2.out.free 0
      have z1 := Y2.out.free 1
      have F := Lib.hid (ansK_zero 2 (((B2.out.setCell (p := ⟨w.heap.size + 1, 0, none⟩) (by show _ ≤ w.heap.size + 1; omega) (.slice none 0 0)).setCell (p := ⟨w.heap.size + 1, 1, none⟩) (by show _ ≤ w.heap.size + 1; omega) (.slice none 0 0))))
      go_wp2
      exact bodyPost_ret (v := .tuple #[.agg #[.slice none 0 0, .slice none 0 0], .int .i64 2]) (by simp [results, Try.results41, go_sem, *]) rfl F.out
    · cases u2
      · clear hi
        go_enter Try.func41, Try.ntmps41
        go_wp2_with fail
        refine C.out.mono ?_
        rintro e w1 ⟨b, rfl, hb, b1⟩
        have B1 := Lib.hid (chainX w L.out b1)
        have X1 := Lib.hid (X.out.later b1)
        have Y1 := Lib.hid (Y.out.later b1)
        have x2 := X1.out.cells 0 _ rfl
        have x3 := X1.out.cells 1 _ rfl
        have HBB := Lib.hid hb
        clear b1 hb x0 x1
        cases b
        · have := HBB.out.2 HK.out; cases this
        clear HBB
        go_wp2_with fail
        refine (CH.out _).mono ?_
        rintro e w2 ⟨rfl, b2⟩
        have B2 := Lib.hid (chainX w B1.out b2)
        have X2 := Lib.hid (X1.out.later b2)
        have Y2 := Lib.hid (Y1.out.later b2)
        clear x2 x3 b2
        have x2 := X2.out.cells 0 _ rfl
        have x3 := X2.out.cells 1 _ rfl
        go_wp2_with fail
        refine (CI.out _).mono ?_
        rintro e w9 ⟨rfl, rfl⟩
        have y0 := Y2.out.cells 0 _ rfl
        have y1 := Y2.out.cells 1 _ rfl
        have z0 := Y2.out.free 0
        have z1 := Y2.out.free 1
        have F := Lib.hid (ansK_zero 2 (((B2.out.setCell (p := ⟨w.heap.size + 1, 0, none⟩) (by show _ ≤ w.heap.size + 1; omega) (.slice none 0 0)).setCell (p := ⟨w.heap.size + 1, 1, none⟩) (by show _ ≤ w.heap.size + 1; omega) (.slice none 0 0))))
        go_wp2
        exact bodyPost_ret (v := .tuple #[.agg #[.slice none 0 0, .slice none 0 0], .int .i64 2]) (by simp [results, Try.results41, go_sem, *]) rfl F.out
      · cases u3
        · clear hi
          go_enter Try.func41, Try.ntmps41
          go_wp2_with fail
          refine C.out.mono ?_
          rintro e w1 ⟨b, rfl, hb, b1⟩
          have B1 := Lib.hid (chainX w L.out b1)
          have X1 := Lib.hid (X.out.later b1)
          have Y1 := Lib.hid (Y.out.later b1)
          have x2 := X1.out.cells 0 _ rfl
          have x3 := X1.out.cells 1 _ rfl
          have HBB := Lib.hid hb
          clear b1 hb x0 x1
          cases b
          · have := HBB.out.2 HK.out; cases this
          clear HBB
          go_wp2_with fail
          refine (CH.out _).mono ?_
          rintro e w2 ⟨rfl, b2⟩
          have B2 := Lib.hid (chainX w B1.out b2)
          have X2 := Lib.hid (X1.out.later b2)
          have Y2 := Lib.hid (Y1.out.later b2)
          clear x2 x3 b2
          have x2 := X2.out.cells 0 _ rfl
          have x3 := X2.out.cells 1 _ rfl
          go_wp2_with fail
          refine (CI.out _).mono ?_
          rintro e w9 ⟨rfl, rfl⟩
          go_wp2_with fail
          refine (CJ.out _).mono ?_
          rintro e w9 ⟨rfl, rfl⟩
          have y0 := Y2.out.cells 0 _ rfl
          have y1 := Y2.out.cells 1 _ rfl
          have z0 := Y2.out.free 0
          have z1 := Y2.out.free 1
          have F := Lib.hid (ansK_zero 2 (((B2.out.setCell (p := ⟨w.heap.size + 1, 0, none⟩) (by show _ ≤ w.heap.size + 1; omega) (.slice none 0 0)).setCell (p := ⟨w.heap.size + 1, 1, none⟩) (by show _ ≤ w.heap.size + 1; omega) (.slice none 0 0))))
          go_wp2
          exact bodyPost_ret (v := .tuple #[.agg #[.slice none 0 0, .slice none 0 0], .int .i64 2]) (by simp [results, Try.results41, go_sem, *]) rfl F.out
        · cases hi
  · have HK := Lib.hid hk
    have htl := (List.getElem?_eq_some_iff.1 hsx).1
    have hin : inD d.sectors.length (t : Int) = true := inD_t htl
    have hip : inB (q : Int) 0 63 = true := inB_yes (by omega) (by omega)
    have hiy : inB y 1 255 = true := inB_yes hy.1 hy.2
    rw [hin] at CH
    rw [hip] at CI
    rw [hiy] at CJ
    have CH := Lib.hid CH.out
    have CI := Lib.hid CI.out
    have CJ := Lib.hid CJ.out
    have h64 : s.size = 64 := of_decide_eq_true (hk.2.2.1 s (List.mem_of_getElem? hsx))
    have hwy : IntKind.u8.wrap y = y := by rw [IntKind.wrap_u8]; omega
    have t0 : (0 : Int) ≤ (t : Int) := by omega
    have t1 : (t : Int) < (d.sectors.length : Int) := by omega
    have q0 : (0 : Int) ≤ (q : Int) := by omega
    have HTL := Lib.hid htl
    have HSX := Lib.hid hsx
    have RL := Lib.hid (show (rotD d t q s y).sectors.length = d.sectors.length from List.length_set)
    have CB := Lib.hid (fun w' => implBlockOf s h64 w')
    have CC := Lib.hid (fun w' (b : Below w.heap.size w w') => implClone d a0 c0 a1 c1 w' (dok_lens hk).1 (dok_lens hk).2 (RW.out.below b))
    have TSZ := Lib.hid (show (turnS s q y).size ≤ 9223372036854775807 from by rw [turnS_size]; omega)
    have hq64 : q < s.size := by omega
    have HQ := Lib.hid hq64
    have H6 := Lib.hid h64
    have q1 : (q : Int) < 64 := by omega
    have CT := Lib.hid (show ∀ w', Calls Try.prog 76 #[.agg (NumA (turnL (nums s) q y))] w' (RetW (.string (turnS s q y)) w') from fun w' => implText (turnL (nums s) q y) (by rw [turnL_len, nums_len]; exact h64) w')
    have NZ := Lib.hid (show (Try.prog.info? 89).map (·.size) = some (NumA (turnL (nums s) q y)).size from by rw [NumA_size, turnL_len, nums_len, h64]; exact infoBlk)
    obtain ⟨b0, off, cs0, rfl, -, hB0, ⟨rfl, -⟩, hcc0⟩ := RW.out.1.at' hsx
    have cw0 : w.cell? ⟨b0, off + t, none⟩ = some (.string s) := by have := hcc0 0 _ rfl; rwa [show off + t * Rdb.size ByteArray + 0 = off + t from by show off + t * 1 + 0 = _; omega] at this
    have CW := Lib.hid cw0
    clear hk hin hip hiy hsx htl hcc0 cw0 hq64 h64
    go_enter Try.func41, Try.ntmps41
    go_wp2_with fail
    refine C.out.mono ?_
    rintro e w1 ⟨b, rfl, hb, b1⟩
    have B1 := Lib.hid (chainX w L.out b1)
    have X1 := Lib.hid (X.out.later b1)
    have Y1 := Lib.hid (Y.out.later b1)
    have x2 := X1.out.cells 0 _ rfl
    have x3 := X1.out.cells 1 _ rfl
    have HBB := Lib.hid hb
    clear b1 hb x0 x1
    cases b
    · have := HBB.out.2 HK.out; cases this
    clear HBB
    go_wp2_with fail
    refine (CH.out _).mono ?_
    rintro e w2 ⟨rfl, b2⟩
    have B2 := Lib.hid (chainX w B1.out b2)
    have X2 := Lib.hid (X1.out.later b2)
    have Y2 := Lib.hid (Y1.out.later b2)
    clear x2 x3 b2
    have x2 := X2.out.cells 0 _ rfl
    have x3 := X2.out.cells 1 _ rfl
    go_wp2_with fail
    refine (CI.out _).mono ?_
    rintro e w9 ⟨rfl, rfl⟩
    go_wp2_with fail
    refine (CJ.out _).mono ?_
    rintro e w9 ⟨rfl, rfl⟩
    have ce := (B2.out.cell (p := ⟨b0, off + t, none⟩) hB0).trans CW.out
    go_wp2_with fail
    refine (CB.out _).mono ?_
    rintro e w3 ⟨rfl, b3⟩
    have B3 := Lib.hid (chainX w B2.out b3)
    have X3 := Lib.hid (X2.out.later b3)
    have Y3 := Lib.hid (Y2.out.later b3)
    obtain ⟨W, hW, G1, RB, LW, gW⟩ := blk_one #[.int .u8 0, .int .u8 0, .int .u8 0, .int .u8 0, .int .u8 0, .int .u8 0, .int .u8 0, .int .u8 0, .int .u8 0, .int .u8 0, .int .u8 0, .int .u8 0, .int .u8 0, .int .u8 0, .int .u8 0, .int .u8 0, .int .u8 0, .int .u8 0, .int .u8 0, .int .u8 0, .int .u8 0, .int .u8 0, .int .u8 0, .int .u8 0, .int .u8 0, .int .u8 0, .int .u8 0, .int .u8 0, .int .u8 0, .int .u8 0, .int .u8 0, .int .u8 0, .int .u8 0, .int .u8 0, .int .u8 0, .int .u8 0, .int .u8 0, .int .u8 0, .int .u8 0, .int .u8 0, .int .u8 0, .int .u8 0, .int .u8 0, .int .u8 0, .int .u8 0, .int .u8 0, .int .u8 0, .int .u8 0, .int .u8 0, .int .u8 0, .int .u8 0, .int .u8 0, .int .u8 0, .int .u8 0, .int .u8 0, .int .u8 0, .int .u8 0, .int .u8 0, .int .u8 0, .int .u8 0, .int .u8 0, .int .u8 0, .int .u8 0, .int .u8 0] rfl s w3
    obtain ⟨tc, tf, tr⟩ := RB.turn (y := y) HQ.out
    generalize (nums s).getD q 0 = xq at tc tr
    have G1H := Lib.hid G1
    have HWH := Lib.hid hW
    have TR := Lib.hid tr
    have X7 := Lib.hid ((X3.out.later LW).far (p := ⟨w3.heap.size, q, none⟩) (by show w3.heap.size ≠ w.heap.size; have := X3.out.lt; omega) (.int .u8 (bits .xor .u8 xq y)))
    have Y7 := Lib.hid ((Y3.out.later LW).far (p := ⟨w3.heap.size, q, none⟩) (by show w3.heap.size ≠ w.heap.size + 1; have := Y3.out.lt; omega) (.int .u8 (bits .xor .u8 xq y)))
    have B7 := Lib.hid ((chainX w B3.out LW).setCell (p := ⟨w3.heap.size, q, none⟩) (by show w.heap.size ≤ w3.heap.size; have := X3.out.lt; omega) (.int .u8 (bits .xor .u8 xq y)))
    have x4 := X7.out.cells 0 _ rfl
    have x5 := X7.out.cells 1 _ rfl
    have GW := Lib.hid (show w3.heap.size < (W.setCell ⟨w3.heap.size, q, none⟩ (.int .u8 (bits .xor .u8 xq y))).heap.size from by rw [World.size_setCell]; exact gW)
    have HZ := Lib.hid (show (#[.int .u8 0, .int .u8 0, .int .u8 0, .int .u8 0, .int .u8 0, .int .u8 0, .int .u8 0, .int .u8 0, .int .u8 0, .int .u8 0, .int .u8 0, .int .u8 0, .int .u8 0, .int .u8 0, .int .u8 0, .int .u8 0, .int .u8 0, .int .u8 0, .int .u8 0, .int .u8 0, .int .u8 0, .int .u8 0, .int .u8 0, .int .u8 0, .int .u8 0, .int .u8 0, .int .u8 0, .int .u8 0, .int .u8 0, .int .u8 0, .int .u8 0, .int .u8 0, .int .u8 0, .int .u8 0, .int .u8 0, .int .u8 0, .int .u8 0, .int .u8 0, .int .u8 0, .int .u8 0, .int .u8 0, .int .u8 0, .int .u8 0, .int .u8 0, .int .u8 0, .int .u8 0, .int .u8 0, .int .u8 0, .int .u8 0, .int .u8 0, .int .u8 0, .int .u8 0, .int .u8 0, .int .u8 0, .int .u8 0, .int .u8 0, .int .u8 0, .int .u8 0, .int .u8 0, .int .u8 0, .int .u8 0, .int .u8 0, .int .u8 0, .int .u8 0] : Array Value).size = 64 from rfl)
    clear b3 hW G1 RB LW gW tr x2 x3 ce
    go_wp2_with (first | (refine wpList_store_row rfl 89 (.tmp 10) (.tmp 34) rfl w3.heap.size (ByA s) rfl rfl 89 _ G1H.out (by rw [ByA_size H6.out]; exact infoBlk) (by rw [ByA_size H6.out]; exact HZ.out) (ByA_one s) ?_; rw [HWH.out]))
    refine (CC.out _ B7.out).mono ?_
    rintro e w8 ⟨p0, k0, p1, k1, rfl, o, ll, b8⟩
    obtain ⟨hh, m, m1, m2, o0, o1⟩ := o
    obtain ⟨g, rfl, gl, gh, gc, gf⟩ := o0.at_ HSX.out
    have gx : w.heap.size + 1 < (W.setCell ⟨w3.heap.size, q, none⟩ (.int .u8 (bits .xor .u8 xq y))).heap.size := Y7.out.lt
    have B8 := chainX w B7.out b8
    have X8 := X7.out.later b8
    have Y8 := Y7.out.later b8
    have x6 := X8.cells 0 _ rfl
    have x7 := X8.cells 1 _ rfl
    have xf6 := X8.free 0
    have xf7 := X8.free 1
    have X9 := Lib.hid ((X8.put 0 (by simp) (.slice (some ⟨g, 0, none⟩) d.sectors.length k0)).put 1 (by simp) (.slice p1 d.waits.length k1))
    have Y9 := Lib.hid ((Y8.far (p := ⟨w.heap.size, 0, none⟩) (by show w.heap.size ≠ w.heap.size + 1; omega) (.slice (some ⟨g, 0, none⟩) d.sectors.length k0)).far (p := ⟨w.heap.size, 1, none⟩) (by show w.heap.size ≠ w.heap.size + 1; omega) (.slice p1 d.waits.length k1))
    have B9 := Lib.hid ((B8.setCell (p := ⟨w.heap.size, 0, none⟩) (Nat.le_refl _) (.slice (some ⟨g, 0, none⟩) d.sectors.length k0)).setCell (p := ⟨w.heap.size, 1, none⟩) (Nat.le_refl _) (.slice p1 d.waits.length k1))
    have O9 := Lib.hid ((o0.set ⟨w.heap.size, 0, none⟩ (.slice (some ⟨g, 0, none⟩) d.sectors.length k0) (.inl (by show w.heap.size < _; omega))).set ⟨w.heap.size, 1, none⟩ (.slice p1 d.waits.length k1) (.inl (by show w.heap.size < _; omega)))
    have P9 := Lib.hid ((o1.set ⟨w.heap.size, 0, none⟩ (.slice (some ⟨g, 0, none⟩) d.sectors.length k0) (.inl (by show w.heap.size < _; omega))).set ⟨w.heap.size, 1, none⟩ (.slice p1 d.waits.length k1) (.inl (by show w.heap.size < _; omega)))
    have R9 : ((w8.setCell ⟨w.heap.size, 0, none⟩ (.slice (some ⟨g, 0, none⟩) d.sectors.length k0)).setCell ⟨w.heap.size, 1, none⟩ (.slice p1 d.waits.length k1)).heap[w3.heap.size]? = some (.cells (NumA (turnL (nums s) q y)) 89 (0, 0)) := by
      have n3 : w3.heap.size ≠ w.heap.size := by have := X3.out.lt; omega
      rw [heap_setCell_other _ ⟨w.heap.size, 1, none⟩ w3.heap.size _ n3, heap_setCell_other _ ⟨w.heap.size, 0, none⟩ w3.heap.size _ n3, b8.block _ GW.out, TR.out]
    have S9 := Lib.hid (show ((w8.setCell ⟨w.heap.size, 0, none⟩ (.slice (some ⟨g, 0, none⟩) d.sectors.length k0)).setCell ⟨w.heap.size, 1, none⟩ (.slice p1 d.waits.length k1)).heap.size = w8.heap.size from by simp)
    have R9 := Lib.hid R9
    have LL := Lib.hid ll
    have M1 := Lib.hid m1
    have M2 := Lib.hid m2
    have GL := Lib.hid gl
    have GH := Lib.hid gh
    have GX := Lib.hid gx
    have n3 : w3.heap.size ≠ g := by have := GW.out; omega
    have N3 := Lib.hid n3
    have N4 := Lib.hid (show w3.heap.size < w8.heap.size from by have := GW.out; omega)
    clear n3 o0 o1 ll b8 X8 Y8 B8 x4 x5 hh m1 m2 gl gh gc gf gx tc tf CC CB HWH G1H X7 Y7 B7 TR GW
    go_wp2_with fail
    generalize hW9 : (w8.setCell ⟨w.heap.size, 0, none⟩ (.slice (some ⟨g, 0, none⟩) d.sectors.length k0)).setCell ⟨w.heap.size, 1, none⟩ (.slice p1 d.waits.length k1) = W9 at *
    clear hW9 x6 x7 xf6 xf7
    obtain ⟨g', eg, gl, gh, gc, gf⟩ := O9.out.at_ HSX.out
    obtain rfl : g = g' := by simpa using eg
    have y9 := X9.out.cells 0 _ rfl
    generalize hNA : NumA (turnL (nums s) q y) = NA at *
    refine wp_region_noPanic ?_
    refine wp_region_held_drew (S := (fun w' : World => w'.cell? ⟨w.heap.size, 0, none⟩ = some (.slice (some ⟨g, 0, none⟩) d.sectors.length k0) ∧ w'.heap[w3.heap.size]? = some (.cells NA 89 (0, 0)))) (by kernel_rfl) ?_ (fun hHeld => ?_)
    · exact ⟨y9, R9.out⟩
    refine wpAnyH_take (i := 0) (v := ?_) rfl (by kernel_rfl) (by kernel_rfl) (by kernel_rfl) (fun _ _ _ h => h) (Or.inl ⟨by first | kernel_rfl | rfl, ?_⟩) (by assumption) ?_
    rotate_left
    · intro wx hSw; (try dsimp only at hSw); go_simp; first | done | with_reducible rfl
    try simp only [Act.put, List.getElem_toArray, List.getElem_cons_zero, List.getElem_cons_succ, List.setIfInBounds_toArray, List.set_cons_zero, List.set_cons_succ]
    refine wpAnyH_take (i := 1) (v := ?_) rfl (by kernel_rfl) (by kernel_rfl) (by kernel_rfl) (fun _ _ _ h => h) (Or.inl ⟨by first | kernel_rfl | rfl, ?_⟩) (by assumption) ?_
    rotate_left
    · intro wx hSw; (try dsimp only at hSw); go_simp; first | done | with_reducible rfl
    try simp only [Act.put, List.getElem_toArray, List.getElem_cons_zero, List.getElem_cons_succ, List.setIfInBounds_toArray, List.set_cons_zero, List.set_cons_succ]
    refine wpAnyH_take (i := 2) (v := ?_) rfl (by kernel_rfl) (by kernel_rfl) (by kernel_rfl) (fun _ _ _ h => h) (Or.inl ⟨by first | kernel_rfl | rfl, ?_⟩) (by assumption) ?_
    rotate_left
    · intro wx hSw; (try dsimp only at hSw); go_simp; first | done | with_reducible rfl
    try simp only [Act.put, List.getElem_toArray, List.getElem_cons_zero, List.getElem_cons_succ, List.setIfInBounds_toArray, List.set_cons_zero, List.set_cons_succ]
    refine wpAnyH_take (i := 3) (v := .agg NA) rfl (by kernel_rfl) (by kernel_rfl) (by kernel_rfl) (fun _ _ _ h => h) (Or.inl ⟨by first | kernel_rfl | rfl, ?_⟩) (by assumption) ?_
    · intro wx hSw
      exact exec_row 89 (.tmp 10) rfl w3.heap.size rfl 89 NA (0, 0) _ hSw.2 Try.underlying89 rfl NZ.out
    try simp only [Act.put, List.getElem_toArray, List.getElem_cons_zero, List.getElem_cons_succ, List.setIfInBounds_toArray, List.set_cons_zero, List.set_cons_succ]
    refine wpAnyH_ready (rs := [4]) (by kernel_rfl) (by simp) ?_
    refine AllReadyH.cons rfl (fun K hK => ?_) AllReadyH.nil
    go_simp
    go_at_call 76
    refine (CT.out _).mono ?_
    rintro e w10 ⟨rfl, b10⟩
    have b10 := undrewX b10
    have X10 := Lib.hid (X9.out.later b10)
    have Y10 := Lib.hid (Y9.out.later b10)
    have B10 := Lib.hid (chainX w B9.out b10)
    have M9 : m ≤ W9.heap.size := by rw [S9.out]; exact M2.out
    have O10 := Lib.hid (O9.out.later M9 b10)
    have P10 := Lib.hid (P9.out.later (by rw [S9.out]; exact Nat.le_refl _) b10)
    have M10 := Lib.hid (show m ≤ w10.heap.size from Nat.le_trans M9 b10.size)
    have M11 := Lib.hid (show w8.heap.size ≤ w10.heap.size from by rw [← S9.out]; exact b10.size)
    have e1 := X10.out.cells 0 _ rfl
    have e2 := (b10.cell (p := ⟨g, t, none⟩) (Nat.lt_of_lt_of_le GH.out M9)).trans gc
    have e3 := (b10.frozen (p := ⟨g, t, none⟩) (Nat.lt_of_lt_of_le GH.out M9)).trans gf
    have SW := Lib.hid (show w10.heap[w3.heap.size]? = some (.cells NA 89 (0, 0)) from (b10.block _ (by have := N4.out; have := S9.out; omega)).trans R9.out)
    clear b10 y9 gc gf gl gh
    (try go_wp2_with fail)
    refine hK.out _ _ ?_ (fun hHeld4 => ?_)
    · exact ⟨e1, SW.out⟩
    clear hK K hHeld
    try simp only [Act.put, List.getElem_toArray, List.getElem_cons_zero, List.getElem_cons_succ, List.setIfInBounds_toArray, List.set_cons_zero, List.set_cons_succ]
    refine wpAnyH_take (i := 5) (v := ?_) rfl (by kernel_rfl) (by kernel_rfl) (by kernel_rfl) (fun _ _ _ h => h) (Or.inl ⟨by first | kernel_rfl | rfl, ?_⟩) (by assumption) ?_
    rotate_left
    · intro wx hSw; (try dsimp only at hSw); go_simp; first | done | with_reducible rfl
    try simp only [Act.put, List.getElem_toArray, List.getElem_cons_zero, List.getElem_cons_succ, List.setIfInBounds_toArray, List.set_cons_zero, List.set_cons_succ]
    refine wpAnyH_ready (rs := [6]) (by kernel_rfl) (by simp) ?_
    refine AllReadyH.cons rfl (fun K hK => ?_) AllReadyH.nil
    go_simp
    (try go_wp2_with fail)
    refine hK.out _ _ ?_ (fun hHeld6 => ?_)
    · refine ⟨?_, ?_⟩
      · rw [World.cell?_setCell_other _ _ _ _ (fun z => by have h1 := congrArg Addr.block z; have := GL.out; have := GX.out; dsimp only at h1; omega)]; assumption
      · rw [heap_setCell_other _ ⟨g, t, none⟩ w3.heap.size _ N3.out]; exact SW.out
    clear hK K
    try simp only [Act.put, List.getElem_toArray, List.getElem_cons_zero, List.getElem_cons_succ, List.setIfInBounds_toArray, List.set_cons_zero, List.set_cons_succ]
    refine wpAnyH_done (by kernel_rfl) ?_ _
    refine NoPanic.normal ?_
    have gne : w.heap.size + 1 < g := by have := GL.out; have := GX.out; omega
    have X11 := Lib.hid (X10.out.far (p := ⟨g, t, none⟩) (by show g ≠ w.heap.size; omega) (.string (turnS s q y)))
    have Y11 := Lib.hid (Y10.out.far (p := ⟨g, t, none⟩) (by show g ≠ w.heap.size + 1; omega) (.string (turnS s q y)))
    have O11 := Lib.hid (O10.out.put HTL.out TSZ.out)
    have P11 := Lib.hid (P10.out.set ⟨g, t, none⟩ (.string (turnS s q y)) (.inl GH.out))
    have B11 := Lib.hid (B10.out.setCell (p := ⟨g, t, none⟩) (by show w.heap.size ≤ g; omega) (.string (turnS s q y)))
    clear hHeld4 hHeld6 SW gne e1 e2 e3
    all_goals
      have v0 := Y11.out.cells 0 _ rfl
      have v1 := Y11.out.cells 1 _ rfl
      have vf0 := Y11.out.free 0
      have vf1 := Y11.out.free 1
      have ob0 := X11.out.cells 0 _ rfl
      have ob1 := X11.out.cells 1 _ rfl
      have F := Lib.hid (show AnsK (rotD d t q s y) 0 w (.returned (.tuple #[.agg #[.slice (some ⟨g, 0, none⟩) d.sectors.length k0, .slice p1 d.waits.length k1], .int .i64 0])) (((w10.setCell ⟨g, t, none⟩ (.string (turnS s q y))).setCell ⟨w.heap.size + 1, 0, none⟩ (.slice (some ⟨g, 0, none⟩) d.sectors.length k0)).setCell ⟨w.heap.size + 1, 1, none⟩ (.slice p1 d.waits.length k1)) from by
        have z0 := (O11.out.set ⟨w.heap.size + 1, 0, none⟩ (.slice (some ⟨g, 0, none⟩) d.sectors.length k0) (.inl (by show w.heap.size + 1 < _; exact GX.out))).set ⟨w.heap.size + 1, 1, none⟩ (.slice p1 d.waits.length k1) (.inl (by show w.heap.size + 1 < _; exact GX.out))
        have z1 := (P11.out.set ⟨w.heap.size + 1, 0, none⟩ (.slice (some ⟨g, 0, none⟩) d.sectors.length k0) (.inl (by show w.heap.size + 1 < _; have := GX.out; have := M1.out; omega))).set ⟨w.heap.size + 1, 1, none⟩ (.slice p1 d.waits.length k1) (.inl (by show w.heap.size + 1 < _; have := GX.out; have := M1.out; omega))
        refine ⟨some ⟨g, 0, none⟩, k0, p1, k1, by rw [RL.out]; rfl, ⟨Nat.le_refl _, m, by have := GX.out; have := M1.out; omega, by have := M10.out; simp only [World.size_setCell]; exact M10.out, z0.wide (by have := GX.out; omega) (Nat.le_refl _), z1.wide (Nat.le_refl _) (by simp only [World.size_setCell]; exact M11.out)⟩, ⟨by rw [RL.out]; exact LL.out.1, LL.out.2⟩, (B11.out.setCell (p := ⟨w.heap.size + 1, 0, none⟩) (by show _ ≤ w.heap.size + 1; omega) _).setCell (p := ⟨w.heap.size + 1, 1, none⟩) (by show _ ≤ w.heap.size + 1; omega) _⟩)
      go_wp2
      exact bodyPost_ret (v := .tuple #[.agg #[.slice (some ⟨g, 0, none⟩) d.sectors.length k0, .slice p1 d.waits.length k1], .int .i64 0]) (by simp [results, Try.results41, go_sem, *]) rfl F.out
end Go.Proofs.Ytpafhbnjefdhjaa.Rd
