/-
  A disk cloned; with writes done.
-/
import Derived.Test.YtdieekgihdikdaaOwnF
import Derived.Test.YtdieekgihdikdaaDkM
import Derived.Deep.RegionWith
import Derived.Deep.RegionHeld3
namespace Go.Proofs.Ytdieekgihdikdaa.Rd
open Go.RowKit Go.ChangeShapes Go.WideShapes Go.Proofs.Ytdieekgihdikdaa.GfI Go.Proofs.Ytdieekgihdikdaa.GfS
open Go.Proofs.Ytdieekgihdikdaa.Sg (BxN)
set_option linter.unusedVariables false
set_option linter.unusedSimpArgs false

theorem One.set {α : Type} [Rdb α] [Flat α] {lo hi : Nat} {w : World} {a : Option Addr} {l : List α} (h : One lo hi w a l) (p : Addr) (v : Value) (hp : p.block < lo ∨ hi ≤ p.block) : One lo hi (w.setCell p v) a l :=
  h.keep (fun q h1 h2 => heap_setCell_other w p q v (by omega)) (by rw [World.size_setCell]; exact Nat.le_refl _)
theorem One.later {α : Type} [Rdb α] [Flat α] {lo hi : Nat} {w w' : World} {a : Option Addr} {l : List α} (h : One lo hi w a l) (hh : hi ≤ w.heap.size) (b : Below w.heap.size w w') : One lo hi w' a l :=
  h.keep (fun q h1 h2 => b.block q (by omega)) b.size
theorem disk_sz {d : DDisk} (hs : Rdb.sz d ≤ 1000000) : d.sectors.length ≤ 1000000 ∧ d.waits.length ≤ 1000000 := by
  have E : Rdb.sz d = Rdb.sz d.sectors + Rdb.sz d.waits := rfl
  have e1 := sz_len d.sectors
  have e2 := sz_len d.waits
  omega
/-- A write done; all of a list. -/
def putS (l : List ByteArray) (x : DPending) : List ByteArray := l.set x.atF.toNat x.bytes
def flushL (l : List ByteArray) (ws : List DPending) : List ByteArray := ws.foldl putS l
theorem flushL_len : ∀ (ws : List DPending) (l : List ByteArray), (flushL l ws).length = l.length
  | [], _ => rfl
  | x :: ws, l => by show (flushL (putS l x) ws).length = _; rw [flushL_len ws]; exact List.length_set
theorem flushL_succ {l : List ByteArray} {ws : List DPending} {j : Nat} {x : DPending} (h : ws[j]? = some x) : flushL l (ws.take (j + 1)) = putS (flushL l (ws.take j)) x := by
  unfold flushL; rw [List.take_add_one, h, List.foldl_append]; rfl
theorem inD_yes {n : Nat} {i : Int} (h : inD n i = true) : 0 ≤ i ∧ i < (n : Int) := of_decide_eq_true h
set_option maxRecDepth 100000 in
set_option maxHeartbeats 4000000 in
theorem implWritten (d : DDisk) (ws : List DPending) (a0 : Option Addr) (c0 : Nat) (a1 : Option Addr) (c1 m : Nat) (aw : Option Addr) (cw : Nat) (w : World) (hn : d.sectors.length ≤ 1000000) (hm : ws.length ≤ 1000000) {fr fr2 : Bool} {lo lo2 : Nat} (r : Rows fr lo w a0 d.sectors) (rw : Rows fr2 lo2 w aw ws) (hin : ∀ x, x ∈ ws → inD d.sectors.length x.atF = true) :
    Calls Try.prog 55 #[.agg #[.slice a0 d.sectors.length c0, .slice a1 m c1], .slice aw ws.length cw] w (AnsKD ⟨flushL d.sectors ws, []⟩ w) := by
  have L := Lib.hid (chain (lay w (.cells #[.slice a0 d.sectors.length c0, .slice a1 m c1] 36)) (lay _ (.cells #[.slice none 0 0, .slice none 0 0] 36)))
  have X := Lib.hid ((BxN.new w #[.slice a0 d.sectors.length c0, .slice a1 m c1] 36).later (lay _ (.cells #[.slice none 0 0, .slice none 0 0] 36)))
  have Y0 := BxN.new (w.alloc (.cells #[.slice a0 d.sectors.length c0, .slice a1 m c1] 36)) #[.slice none 0 0, .slice none 0 0] 36
  rw [World.size_alloc] at Y0
  have Y := Lib.hid Y0
  have x0 := X.out.cells 0 _ rfl
  have SZ := Lib.hid (show ((w.alloc (.cells #[.slice a0 d.sectors.length c0, .slice a1 m c1] 36)).alloc (.cells #[.slice none 0 0, .slice none 0 0] 36)).heap.size = w.heap.size + 1 + 1 from by simp)
  have C1 := Lib.hid (cloneS a0 c0 d.sectors _ hn (r.below L.out))
  have RW := Lib.hid (fun w' (b : Below w.heap.size w w') => rw.below b)
  have GET := Lib.hid (fun j (h : j < ws.length) => get_lt h)
  have HIN := Lib.hid (fun j x (h : ws[j]? = some x) => inD_yes (hin x (List.mem_of_getElem? h)))
  have FL := Lib.hid (fun j => flushL_len (ws.take j) d.sectors)
  have FA := Lib.hid (show flushL d.sectors (ws.take ws.length) = flushL d.sectors ws from by rw [List.take_length])
  have FS := Lib.hid (fun j x (h : ws[j]? = some x) => flushL_succ (l := d.sectors) h)
  have FLA := Lib.hid (flushL_len ws d.sectors)
  have ANSW := Lib.hid (fun e w' => show (AnsKD ⟨flushL d.sectors ws, []⟩ w e w') = AnsKD ⟨flushL d.sectors ws, []⟩ w e w' from rfl)
  clear Y0 r rw hin
  go_enter Try.func55, Try.ntmps55
  go_wp2_with fail
  refine C1.out.mono ?_
  rintro e w1 ⟨p, k, rfl, hk, o0, b1⟩
  have B1 := Lib.hid (chainX w L.out b1)
  have X1 := X.out.later b1
  have O1 := Lib.hid (show One (w.heap.size + 1 + 1) w1.heap.size w1 p (flushL d.sectors (ws.take 0)) from by have := o0; rw [SZ.out] at this; exact this)
  have x2 := X1.cells 0 _ rfl
  have x3 := X1.cells 1 _ rfl
  have xf2 := X1.free 0
  have xf3 := X1.free 1
  have Y1 := Lib.hid (Y.out.later b1)
  have S1 := Lib.hid (show w.heap.size + 1 + 1 ≤ w1.heap.size from by rw [← SZ.out]; exact b1.size)
  have X2 := Lib.hid ((X1.put 0 (by simp) (.slice p d.sectors.length k)).put 1 (by simp) (.slice none 0 0))
  have Y2 := Lib.hid ((Y1.out.far (p := ⟨w.heap.size, 0, none⟩) (by show w.heap.size ≠ w.heap.size + 1; omega) (.slice p d.sectors.length k)).far (p := ⟨w.heap.size, 1, none⟩) (by show w.heap.size ≠ w.heap.size + 1; omega) (.slice none 0 0))
  have B2 := Lib.hid ((B1.out.setCell (p := ⟨w.heap.size, 0, none⟩) (Nat.le_refl _) (.slice p d.sectors.length k)).setCell (p := ⟨w.heap.size, 1, none⟩) (Nat.le_refl _) (.slice none 0 0))
  have O2 := Lib.hid ((O1.out.set ⟨w.heap.size, 0, none⟩ (.slice p d.sectors.length k) (.inl (by show w.heap.size < _; omega))).set ⟨w.heap.size, 1, none⟩ (.slice none 0 0) (.inl (by show w.heap.size < _; omega)))
  have S2 := Lib.hid (show w1.heap.size ≤ ((w1.setCell ⟨w.heap.size, 0, none⟩ (.slice p d.sectors.length k)).setCell ⟨w.heap.size, 1, none⟩ (.slice none 0 0)).heap.size from by simp)
  have FIN := Lib.hid (fun (wr : World) (hO : One (w.heap.size + 1 + 1) w1.heap.size wr p (flushL d.sectors (ws.take ws.length))) (hS : w1.heap.size ≤ wr.heap.size) (hb : Below w.heap.size w wr) =>
    (show AnsKD ⟨flushL d.sectors ws, []⟩ w (.returned (.agg #[.slice p d.sectors.length k, .slice none 0 0])) ((wr.setCell ⟨w.heap.size + 1, 0, none⟩ (.slice p d.sectors.length k)).setCell ⟨w.heap.size + 1, 1, none⟩ (.slice none 0 0)) from
      ⟨p, k, none, 0, by rw [show (DDisk.mk (flushL d.sectors ws) []).sectors.length = d.sectors.length from FLA.out]; rfl, ⟨Nat.le_refl _, w1.heap.size, by have := S1.out; omega, by simpa using hS,
        (((show One (w.heap.size + 1 + 1) w1.heap.size wr p (flushL d.sectors ws) from by rw [← FA.out]; exact hO).set _ _ (.inl (by show w.heap.size + 1 < _; omega))).set _ _ (.inl (by show w.heap.size + 1 < _; omega))).wide (by omega) (Nat.le_refl _), .inl rfl⟩,
        ⟨by rw [show (DDisk.mk (flushL d.sectors ws) []).sectors.length = d.sectors.length from FLA.out]; exact hk, Nat.le_refl _⟩,
        (hb.setCell (p := ⟨w.heap.size + 1, 0, none⟩) (by show _ ≤ w.heap.size + 1; omega) _).setCell (p := ⟨w.heap.size + 1, 1, none⟩) (by show _ ≤ w.heap.size + 1; omega) _⟩))
  clear b1 o0 X1 O1 FLA
  obtain ⟨n, hnn⟩ : ∃ n, n = d.sectors.length := ⟨_, rfl⟩
  obtain ⟨m2, hmm⟩ : ∃ m2, m2 = ws.length := ⟨_, rfl⟩
  rw [← hnn] at FL FIN X2 Y2 B2 O2 S2 HIN hn hk
  rw [← hmm] at GET FA FIN hm
  rw [← hnn, ← hmm]
  clear hnn x0
  go_wp2
  go_loopw [13] (fun i wr => ∃ j : Nat, j ≤ m2 ∧ i = .int .i64 j ∧ One (w.heap.size + 1 + 1) w1.heap.size wr p (flushL d.sectors (ws.take j)) ∧ w1.heap.size ≤ wr.heap.size ∧ Below w.heap.size w wr ∧ BxN wr w.heap.size [.slice p n k, .slice none 0 0] ∧ BxN wr (w.heap.size + 1) [.slice none 0 0, .slice none 0 0]) (fun i _ => m2 - (intOf i).toNat)
  case atStart => exact ⟨0, by omega, rfl, O2.out, S2.out, B2.out, X2.out, Y2.out⟩
  case round =>
    obtain ⟨j, hj, rfl, hO, hS, hB, hX, hY⟩ := hrel
    have HO := Lib.hid hO
    have HS := Lib.hid hS
    have HB := Lib.hid hB
    have HX := Lib.hid hX
    have HY := Lib.hid hY
    clear X2 Y2 B2 O2 S2 x2 x3 xf2 xf3
    by_cases hlt : j < m2
    · obtain ⟨x, hx⟩ := GET.out j hlt
      obtain ⟨b, off, cs, rfl, -, hBb, hr, hcc⟩ := (RW.out _ hB).at' hx
      obtain ⟨rfl, f0, f1⟩ := shape_Pending hr
      have c0' : wr.cell? ⟨b, off + j * 2, none⟩ = some (.int .i64 x.atF) := hcc 0 _ rfl
      have c1' : wr.cell? ⟨b, off + j * 2 + 1, none⟩ = some (.string x.bytes) := hcc 1 _ rfl
      obtain ⟨i0, i1⟩ := HIN.out j x hx
      obtain ⟨t, ht⟩ : ∃ t : Nat, x.atF = (t : Int) := ⟨x.atF.toNat, by omega⟩
      have htn : t < n := by omega
      have htl : t < (flushL d.sectors (ws.take j)).length := by rw [FL.out]; exact htn
      have HPX := Lib.hid (show flushL d.sectors (ws.take (j + 1)) = (flushL d.sectors (ws.take j)).set t x.bytes from by rw [FS.out j x hx]; unfold putS; rw [ht, Int.toNat_natCast])
      obtain ⟨q, rfl, rq, q1, q2⟩ := hO.resolve_left (by intro e; rw [e] at htl; simp at htl)
      obtain ⟨u, hu⟩ := get_lt htl
      obtain ⟨bq, oq, csq, eq, -, hBq, ⟨rfl, -⟩, hcq⟩ := rq.at' hu
      obtain ⟨rfl, rfl⟩ : q = bq ∧ 0 = oq := by simpa using eq
      have dq0 : wr.cell? ⟨q, t, none⟩ = some (.string u) := by have := hcq 0 _ rfl; rwa [show 0 + t * Rdb.size ByteArray + 0 = t from by show 0 + t * 1 + 0 = _; omega] at this
      have zq0 : wr.frozen? ⟨q, t, none⟩ = false := by
        rcases rq with e | ⟨b2, o2, e2, -, -, hf2, -⟩
        · rw [e] at htl; simp at htl
        · obtain ⟨rfl, -⟩ : q = b2 ∧ 0 = o2 := by simpa using e2
          exact hf2 rfl t
      have LY := lay wr (.cells #[.int .i64 x.atF, .string x.bytes] 87)
      have dq := (LY.cell (p := ⟨q, t, none⟩) hBq).trans dq0
      have zq := (LY.frozen (p := ⟨q, t, none⟩) hBq).trans zq0
      have XN := hX.later LY
      have y0 := XN.cells 0 _ rfl
      have PN := BxN.new wr #[.int .i64 x.atF, .string x.bytes] 87
      have p0 := PN.cells 0 _ rfl
      have p1 := PN.cells 1 _ rfl
      have PUT := Rows.put (fun h => h) rq htl (show Rdb.rd true (w.heap.size + 1 + 1) wr [.string x.bytes] x.bytes from ⟨rfl, f1⟩)
      rw [show 0 + t * Rdb.size ByteArray = t from by show 0 + t * 1 = _; omega] at PUT
      have PUT : Rows true (w.heap.size + 1 + 1) (wr.setCell ⟨q, t, none⟩ (.string x.bytes)) (some ⟨q, 0, none⟩) ((flushL d.sectors (ws.take j)).set t x.bytes) := PUT
      have LZ := lay (wr.setCell ⟨q, t, none⟩ (.string x.bytes)) (.cells #[.int .i64 x.atF, .string x.bytes] 87)
      have HO2 := Lib.hid (show One (w.heap.size + 1 + 1) w1.heap.size ((wr.setCell ⟨q, t, none⟩ (.string x.bytes)).alloc (.cells #[.int .i64 x.atF, .string x.bytes] 87)) (some ⟨q, 0, none⟩) (flushL d.sectors (ws.take (j + 1))) from .inr ⟨q, rfl, by rw [HPX.out]; exact PUT.below LZ, q1, q2⟩)
      have HS2 := Lib.hid (show w1.heap.size ≤ ((wr.setCell ⟨q, t, none⟩ (.string x.bytes)).alloc (.cells #[.int .i64 x.atF, .string x.bytes] 87)).heap.size from by simp; omega)
      have HB2 := Lib.hid (chainX w (hB.setCell (p := ⟨q, t, none⟩) (by show w.heap.size ≤ q; omega) (.string x.bytes)) LZ)
      have HX2 := Lib.hid ((hX.far (p := ⟨q, t, none⟩) (by show q ≠ w.heap.size; omega) (.string x.bytes)).later LZ)
      have HY2 := Lib.hid ((hY.far (p := ⟨q, t, none⟩) (by show q ≠ w.heap.size + 1; omega) (.string x.bytes)).later LZ)
      have t0 : (0 : Int) ≤ (t : Int) := by omega
      have t1 : (t : Int) < (n : Int) := by omega
      rw [ht] at c0' p0 dq zq y0 p1 HO2 HS2 HB2 HX2 HY2
      clear hO hS hB hX hY rq PUT LZ hcq hcc hr hx PN XN LY dq0 zq0 hu eq i0 i1 HPX htl HO HX HY HB HS
      generalize x.bytes = xb at *
      go_wp2
      go_roundw
      case rel => exact ⟨j + 1, by omega, by go_num, HO2.out, HS2.out, HB2.out, HX2.out, HY2.out⟩
      case measure => simp [intOf]; omega
    · obtain rfl : j = m2 := by omega
      have y0 := hX.cells 0 _ rfl
      have y1 := hX.cells 1 _ rfl
      have v0 := hY.cells 0 _ rfl
      have v1 := hY.cells 1 _ rfl
      have vf0 := hY.free 0
      have vf1 := hY.free 1
      have F := Lib.hid (FIN.out wr hO hS hB)
      clear hO hS hB hX hY HO HS HB HX HY
      go_wp2
      exact bodyPost_ret (v := .agg #[.slice p n k, .slice none 0 0]) (by simp [results, Try.results55, go_sem, *]) rfl F.out
end Go.Proofs.Ytdieekgihdikdaa.Rd
