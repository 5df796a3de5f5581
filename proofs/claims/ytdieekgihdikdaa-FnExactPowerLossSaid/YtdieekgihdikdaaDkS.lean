/-
  The model's check of disks.
-/
import Derived.Test.YtdieekgihdikdaaDkM
namespace Go.Proofs.Ytdieekgihdikdaa.Rd
open Go.RowKit Go.ChangeShapes Go.WideShapes Go.Proofs.Ytdieekgihdikdaa.GfI Go.Proofs.Ytdieekgihdikdaa.GfS
open Go.Proofs.Ytdieekgihdikdaa.Sg (BxN)
set_option linter.unusedVariables false
set_option linter.unusedSimpArgs false

set_option maxRecDepth 100000 in
set_option maxHeartbeats 1000000 in
theorem specDiskOk {cs : List Value} {fr : Bool} {lo : Nat} (d : DDisk) (w : World) (hs : Rdb.sz d ≤ 2097152) (h : Rdb.rd fr lo w cs d) :
    Calls Try.prog 45 #[.agg cs.toArray] w (IffB (DOk d) w) := by
  obtain ⟨a0_0, c0_0, a0_1, c0_1, rfl, f0_0, g0_0, f0_1, g0_1⟩ := shape_Disk h
  have E : Rdb.sz d = Rdb.sz d.sectors + Rdb.sz d.waits := rfl
  have e1 := sz_len d.sectors
  have e2 := sz_len d.waits
  have hl1 : d.sectors.length ≤ 2097152 := by omega
  have hl2 : d.waits.length ≤ 2097152 := by omega
  have LY := lay w (.cells #[.slice a0_0 d.sectors.length c0_0, .slice a0_1 d.waits.length c0_1] 36)
  have YN := BxN.new w #[.slice a0_0 d.sectors.length c0_0, .slice a0_1 d.waits.length c0_1] 36
  have y0 := YN.cells 0 _ rfl
  have y1 := YN.cells 1 _ rfl
  have L := Lib.hid LY
  have YH := Lib.hid YN
  have C1 := Lib.hid (fun x w' => GfS.l00In x 0 ((d.sectors.length : Int) - 1) w')
  have R1 := Lib.hid (fun w' (b : Below w.heap.size w w') => f0_0.below b)
  have R2 := Lib.hid (fun w' (b : Below w.heap.size w w') => f0_1.below b)
  have G1 := Lib.hid (fun k (h : k < d.sectors.length) => get_lt h)
  have G2 := Lib.hid (fun k (h : k < d.waits.length) => get_lt h)
  have Y0 := Lib.hid (fun (k : DOk d) => k.1)
  have Y1 := Lib.hid (fun (k : DOk d) => k.2.1)
  have Y2 := Lib.hid (fun (k : DOk d) i s (hx : d.sectors[i]? = some s) => k.2.2.1 s (List.mem_of_getElem? hx))
  have Y3 := Lib.hid (fun (k : DOk d) i s (hx : d.waits[i]? = some s) => k.2.2.2 s (List.mem_of_getElem? hx))
  have YA := Lib.hid (fun (p : 1 ≤ d.sectors.length ∧ d.sectors.length ≤ 1200) (q : d.waits.length ≤ 600) (r : ∀ i s, i < d.sectors.length → d.sectors[i]? = some s → sec s = true) (t : ∀ i x, i < d.waits.length → d.waits[i]? = some x → wait d.sectors.length x = true) => (show DOk d from ⟨p, q, fun s hs => by
    obtain ⟨i, hi, rfl⟩ := List.getElem_of_mem hs
    exact r i _ hi (List.getElem?_eq_getElem hi), fun s hs => by
    obtain ⟨i, hi, rfl⟩ := List.getElem_of_mem hs
    exact t i _ hi (List.getElem?_eq_getElem hi)⟩))
  clear YN f0_0 f0_1 h E e1 e2 hs
  generalize d.sectors.length = n at *
  generalize d.waits.length = m at *
  have WR : IntKind.i64.wrap ((n : Int) - 1) = (n : Int) - 1 := by rw [IntKind.wrap_i64]; omega
  by_cases q0 : n < 1
  · have q0' : decide ((n : Int) < 1) = true := decide_eq_true (by omega)
    have N := Lib.hid (show ¬ DOk d from fun k => by have := Y0.out k; omega)
    go_enter Try.func45, Try.ntmps45
    go_wp2
    go_ret
    exact IffB.no N.out L.out
  have q0' : decide ((n : Int) < 1) = false := decide_eq_false (by omega)
  by_cases q1 : 1200 < n
  · have q1' : decide ((1200 : Int) < (n : Int)) = true := decide_eq_true (by omega)
    have N := Lib.hid (show ¬ DOk d from fun k => by have := Y0.out k; omega)
    go_enter Try.func45, Try.ntmps45
    go_wp2
    go_ret
    exact IffB.no N.out L.out
  have q1' : decide ((1200 : Int) < (n : Int)) = false := decide_eq_false (by omega)
  by_cases q2 : 600 < m
  · have q2' : decide ((600 : Int) < (m : Int)) = true := decide_eq_true (by omega)
    have N := Lib.hid (show ¬ DOk d from fun k => by have := Y1.out k; omega)
    go_enter Try.func45, Try.ntmps45
    go_wp2
    go_ret
    exact IffB.no N.out L.out
  have q2' : decide ((600 : Int) < (m : Int)) = false := decide_eq_false (by omega)
  go_enter Try.func45, Try.ntmps45
  go_wp2
  go_loopw [4] (fun i wr => ∃ k : Nat, k ≤ n ∧ i = .int .i64 k ∧ (∀ i s, i < k → d.sectors[i]? = some s → sec s = true) ∧ Below w.heap.size w wr ∧ BxN wr w.heap.size [.slice a0_0 n c0_0, .slice a0_1 m c0_1]) (fun i _ => n - (intOf i).toNat)
  case atStart => exact ⟨0, by omega, rfl, fun i x hi => absurd hi (Nat.not_lt_zero _), L.out, YH.out⟩
  case round =>
    obtain ⟨k, hk, rfl, HA, hw, hb⟩ := hrel
    have HA := Lib.hid HA
    have HW := Lib.hid hw
    have HB := Lib.hid hb
    have b0 := hb.cells 0 _ rfl
    have b1 := hb.cells 1 _ rfl
    clear y0 y1 hb
    by_cases hlt : k < n
    · obtain ⟨x, hx⟩ := G1.out k hlt
      obtain ⟨b, off, cs, rfl, -, hB, ⟨rfl, hz⟩, hcc⟩ := (R1.out _ hw).at' hx
      have c0 : wr.cell? ⟨b, off + k, none⟩ = some (.string x) := by have := hcc 0 _ rfl; rwa [show off + k * Rdb.size ByteArray + 0 = off + k from by show off + k * 1 + 0 = _; omega] at this
      have HX := Lib.hid hx
      clear hcc hw hx
      by_cases q : x.size = 64
      · have q' : ((x.size : Int) == 64) = true := by simp; omega
        have q2 : ((x.size : Int) != 64) = false := by simp; omega
        have HN := Lib.hid (show ∀ i s, i < k + 1 → d.sectors[i]? = some s → sec s = true from fun i s hi hs => by
          by_cases e : i = k
          · subst e; rw [HX.out] at hs; cases hs; exact decide_eq_true q
          · exact HA.out i s (by omega) hs)
        clear q
        go_wp2
        go_roundw
        case rel => exact ⟨k + 1, by omega, by go_num, HN.out, HW.out, HB.out⟩
        case measure => simp [intOf]; omega
      · have q' : ((x.size : Int) == 64) = false := by simp; omega
        have q2 : ((x.size : Int) != 64) = true := by simp; omega
        have N := Lib.hid (show ¬ DOk d from fun k' => q (of_decide_eq_true (Y2.out k' k x HX.out)))
        clear q
        go_wp2
        go_ret
        exact IffB.no N.out HW.out
    · obtain rfl : k = n := by omega
      clear hw
      go_wp2
      go_loopw [5] (fun i wr => ∃ j : Nat, j ≤ m ∧ i = .int .i64 j ∧ (∀ i s, i < j → d.waits[i]? = some s → wait k s = true) ∧ Below w.heap.size w wr ∧ BxN wr w.heap.size [.slice a0_0 k c0_0, .slice a0_1 m c0_1]) (fun i _ => m - (intOf i).toNat)
      case atStart => exact ⟨0, by omega, rfl, fun i x hi => absurd hi (Nat.not_lt_zero _), HW.out, HB.out⟩
      case round =>
        obtain ⟨j, hj, rfl, HA2, hw, hb⟩ := hrel
        have HA2 := Lib.hid HA2
        have HW := Lib.hid hw
        have HB := Lib.hid hb
        have b0 := hb.cells 0 _ rfl
        have b1 := hb.cells 1 _ rfl
        clear hb
        by_cases hlt : j < m
        · obtain ⟨x, hx⟩ := G2.out j hlt
          obtain ⟨b, off, cs, rfl, -, hB, hr, hcc⟩ := (R2.out _ hw).at' hx
          obtain ⟨rfl, f0, f1⟩ := shape_Pending hr
          have c0 : wr.cell? ⟨b, off + j * 2, none⟩ = some (.int .i64 x.atF) := hcc 0 _ rfl
          have c1 : wr.cell? ⟨b, off + j * 2 + 1, none⟩ = some (.string x.bytes) := hcc 1 _ rfl
          have HX := Lib.hid hx
          have N3 := Lib.hid (fun (t : wait k x = false) => show ¬ DOk d from fun k' => by have := Y3.out k' j x HX.out; rw [t] at this; cases this)
          have YN := Lib.hid (fun (t : wait k x = true) => show ∀ i s, i < j + 1 → d.waits[i]? = some s → wait k s = true from fun i s hi hs => by
            by_cases e : i = j
            · subst e; rw [HX.out] at hs; cases hs; exact t
            · exact HA2.out i s (by omega) hs)
          have CI := Lib.hid (fun w' => C1.out x.atF w')
          have WA : inD k x.atF = inB x.atF 0 ((k : Int) - 1) := by unfold inD inB; rw [decide_eq_decide]; omega
          have WB : wait k x = (inB x.atF 0 ((k : Int) - 1) && decide (x.bytes.size = 64)) := by rw [← WA]; rfl
          rw [WB] at N3 YN
          clear hcc hw hx hr WA WB
          generalize x.atF = xa at *
          generalize x.bytes = xb at *
          generalize inB xa 0 ((k : Int) - 1) = p at *
          cases p
          · have N := Lib.hid (N3.out rfl)
            clear N3 YN
            go_wp2_with fail
            refine (CI.out _).mono ?_
            rintro e w1 ⟨rfl, rfl⟩
            go_wp2
            go_ret
            exact IffB.no N.out HW.out
          · by_cases q : xb.size = 64
            · have q' : ((xb.size : Int) == 64) = true := by simp; omega
              have q2 : ((xb.size : Int) != 64) = false := by simp; omega
              have HN := Lib.hid (YN.out (by rw [decide_eq_true q]; rfl))
              clear q N3 YN
              go_wp2_with fail
              refine (CI.out _).mono ?_
              rintro e w1 ⟨rfl, rfl⟩
              go_wp2
              go_roundw
              case rel => exact ⟨j + 1, by omega, by go_num, HN.out, HW.out, HB.out⟩
              case measure => simp [intOf]; omega
            · have q' : ((xb.size : Int) == 64) = false := by simp; omega
              have q2 : ((xb.size : Int) != 64) = true := by simp; omega
              have N := Lib.hid (N3.out (by rw [decide_eq_false q]; rfl))
              clear q N3 YN
              go_wp2_with fail
              refine (CI.out _).mono ?_
              rintro e w1 ⟨rfl, rfl⟩
              go_wp2
              go_ret
              exact IffB.no N.out HW.out
        · obtain rfl : j = m := by omega
          have Y := Lib.hid (YA.out (by omega) (by omega) HA.out HA2.out)
          clear hw
          go_wp2
          go_ret
          exact IffB.yes Y.out HW.out
end Go.Proofs.Ytdieekgihdikdaa.Rd
