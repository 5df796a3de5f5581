/-
  Structs compared by == and !=, as one Bool each.
-/
import Derived.Test.YtbnjgehgaellmaaRdI
import Derived.Test.YtbnjgehgaellmaaIfB
import Derived.Test.YtbnjgehgaellmaaDPg
import Derived.Test.YtbnjgehgaellmaaDVer
import Derived.Test.YtbnjgehgaellmaaDReq
import Derived.Test.YtbnjgehgaellmaaDHead
import Derived.Test.YtbnjgehgaellmaaDLast
import Derived.Test.YtbnjgehgaellmaaDEntry
import Derived.Test.YtbnjgehgaellmaaDChunk
import Derived.Test.YtbnjgehgaellmaaDOp
import Derived.Laws.StructEq
namespace Go.Proofs.Ytbnjgehgaellmaa.Rd
open Go.RowKit Go.ChangeShapes Go.WideShapes
open Go.Proofs.Ytbnjgehgaellmaa.Sg (BxN)
set_option linter.unusedVariables false
set_option linter.unusedSimpArgs false

theorem strExt {a b : ByteArray} (h : a.toList = b.toList) : a = b := by
  rw [ByteArray.toList_eq, ByteArray.toList_eq] at h
  cases a; cases b
  congr 1
  exact Array.ext' h
theorem str_ne {a b : ByteArray} (h : ¬ a = b) : (a.toList == b.toList) = false := by
  cases q : (a.toList == b.toList)
  · rfl
  · exact absurd (strExt (by simpa using q)) h
set_option maxRecDepth 100000 in
set_option maxHeartbeats 4000000 in
theorem eqvPg (x y : DPg) : ∃ b : Bool, (b = true ↔ x = y) ∧ ∀ w : World, (binOp .eql 75 (.agg #[.int .i64 x.pool, .int .i64 x.no]) (.agg #[.int .i64 y.pool, .int .i64 y.no])).run Try.prog w = .ok (.bool b) w ∧ (binOp .neq 75 (.agg #[.int .i64 x.pool, .int .i64 x.no]) (.agg #[.int .i64 y.pool, .int .i64 y.no])).run Try.prog w = .ok (.bool (!b)) w := by
  obtain ⟨x0, x1⟩ := x
  obtain ⟨y0, y1⟩ := y
  dsimp only
  by_cases g0 : x0 = y0
  · subst g0
    by_cases g1 : x1 = y1
    · subst g1
      exact ⟨true, by simp, fun w => ⟨by go_simp, by go_simp⟩⟩
    · have q : (x1 == y1) = false := by simpa using g1
      exact ⟨false, by simp [g1], fun w => ⟨by clear g1; go_simp, by clear g1; go_simp⟩⟩
  · have q : (x0 == y0) = false := by simpa using g0
    exact ⟨false, by simp [g0], fun w => ⟨by clear g0; go_simp, by clear g0; go_simp⟩⟩
set_option maxRecDepth 100000 in
set_option maxHeartbeats 4000000 in
theorem eqvVer (x y : DVer) : ∃ b : Bool, (b = true ↔ x = y) ∧ ∀ w : World, (binOp .eql 76 (.agg #[.int .i64 x.epoch, .int .i64 x.seq]) (.agg #[.int .i64 y.epoch, .int .i64 y.seq])).run Try.prog w = .ok (.bool b) w ∧ (binOp .neq 76 (.agg #[.int .i64 x.epoch, .int .i64 x.seq]) (.agg #[.int .i64 y.epoch, .int .i64 y.seq])).run Try.prog w = .ok (.bool (!b)) w := by
  obtain ⟨x0, x1⟩ := x
  obtain ⟨y0, y1⟩ := y
  dsimp only
  by_cases g0 : x0 = y0
  · subst g0
    by_cases g1 : x1 = y1
    · subst g1
      exact ⟨true, by simp, fun w => ⟨by go_simp, by go_simp⟩⟩
    · have q : (x1 == y1) = false := by simpa using g1
      exact ⟨false, by simp [g1], fun w => ⟨by clear g1; go_simp, by clear g1; go_simp⟩⟩
  · have q : (x0 == y0) = false := by simpa using g0
    exact ⟨false, by simp [g0], fun w => ⟨by clear g0; go_simp, by clear g0; go_simp⟩⟩
set_option maxRecDepth 100000 in
set_option maxHeartbeats 4000000 in
theorem eqvReq (x y : DReq) : ∃ b : Bool, (b = true ↔ x = y) ∧ ∀ w : World, (binOp .eql 83 (.agg #[.int .i64 x.client, .int .i64 x.no]) (.agg #[.int .i64 y.client, .int .i64 y.no])).run Try.prog w = .ok (.bool b) w ∧ (binOp .neq 83 (.agg #[.int .i64 x.client, .int .i64 x.no]) (.agg #[.int .i64 y.client, .int .i64 y.no])).run Try.prog w = .ok (.bool (!b)) w := by
  obtain ⟨x0, x1⟩ := x
  obtain ⟨y0, y1⟩ := y
  dsimp only
  by_cases g0 : x0 = y0
  · subst g0
    by_cases g1 : x1 = y1
    · subst g1
      exact ⟨true, by simp, fun w => ⟨by go_simp, by go_simp⟩⟩
    · have q : (x1 == y1) = false := by simpa using g1
      exact ⟨false, by simp [g1], fun w => ⟨by clear g1; go_simp, by clear g1; go_simp⟩⟩
  · have q : (x0 == y0) = false := by simpa using g0
    exact ⟨false, by simp [g0], fun w => ⟨by clear g0; go_simp, by clear g0; go_simp⟩⟩
set_option maxRecDepth 100000 in
set_option maxHeartbeats 4000000 in
theorem eqvOp (x y : DOp) : ∃ b : Bool, (b = true ↔ x = y) ∧ ∀ w : World, (binOp .eql 41 (.agg #[.int .i64 x.kind, .int .i64 x.atF, .string x.bytes]) (.agg #[.int .i64 y.kind, .int .i64 y.atF, .string y.bytes])).run Try.prog w = .ok (.bool b) w ∧ (binOp .neq 41 (.agg #[.int .i64 x.kind, .int .i64 x.atF, .string x.bytes]) (.agg #[.int .i64 y.kind, .int .i64 y.atF, .string y.bytes])).run Try.prog w = .ok (.bool (!b)) w := by
  obtain ⟨x0, x1, x2⟩ := x
  obtain ⟨y0, y1, y2⟩ := y
  dsimp only
  by_cases g0 : x0 = y0
  · subst g0
    by_cases g1 : x1 = y1
    · subst g1
      by_cases g2 : x2 = y2
      · subst g2
        exact ⟨true, by simp, fun w => ⟨by go_simp, by go_simp⟩⟩
      · have q := str_ne g2
        exact ⟨false, by simp [g2], fun w => ⟨by clear g2; go_simp, by clear g2; go_simp⟩⟩
    · have q : (x1 == y1) = false := by simpa using g1
      exact ⟨false, by simp [g1], fun w => ⟨by clear g1; go_simp, by clear g1; go_simp⟩⟩
  · have q : (x0 == y0) = false := by simpa using g0
    exact ⟨false, by simp [g0], fun w => ⟨by clear g0; go_simp, by clear g0; go_simp⟩⟩
set_option maxRecDepth 100000 in
set_option maxHeartbeats 4000000 in
theorem eqvHead (x y : DHead) : ∃ b : Bool, (b = true ↔ x = y) ∧ ∀ w : World, (binOp .eql 148 (.agg #[.string x.name, .int .i64 x.ver.epoch, .int .i64 x.ver.seq, .int .i64 x.size, .int .i64 x.sum]) (.agg #[.string y.name, .int .i64 y.ver.epoch, .int .i64 y.ver.seq, .int .i64 y.size, .int .i64 y.sum])).run Try.prog w = .ok (.bool b) w ∧ (binOp .neq 148 (.agg #[.string x.name, .int .i64 x.ver.epoch, .int .i64 x.ver.seq, .int .i64 x.size, .int .i64 x.sum]) (.agg #[.string y.name, .int .i64 y.ver.epoch, .int .i64 y.ver.seq, .int .i64 y.size, .int .i64 y.sum])).run Try.prog w = .ok (.bool (!b)) w := by
  obtain ⟨x0, ⟨x1, x2⟩, x3, x4⟩ := x
  obtain ⟨y0, ⟨y1, y2⟩, y3, y4⟩ := y
  dsimp only
  by_cases g0 : x0 = y0
  · subst g0
    by_cases g1 : x1 = y1
    · subst g1
      by_cases g2 : x2 = y2
      · subst g2
        by_cases g3 : x3 = y3
        · subst g3
          by_cases g4 : x4 = y4
          · subst g4
            exact ⟨true, by simp, fun w => ⟨by go_simp, by go_simp⟩⟩
          · have q : (x4 == y4) = false := by simpa using g4
            exact ⟨false, by simp [g4], fun w => ⟨by clear g4; go_simp, by clear g4; go_simp⟩⟩
        · have q : (x3 == y3) = false := by simpa using g3
          exact ⟨false, by simp [g3], fun w => ⟨by clear g3; go_simp, by clear g3; go_simp⟩⟩
      · have q : (x2 == y2) = false := by simpa using g2
        exact ⟨false, by simp [g2], fun w => ⟨by clear g2; go_simp, by clear g2; go_simp⟩⟩
    · have q : (x1 == y1) = false := by simpa using g1
      exact ⟨false, by simp [g1], fun w => ⟨by clear g1; go_simp, by clear g1; go_simp⟩⟩
  · have q := str_ne g0
    exact ⟨false, by simp [g0], fun w => ⟨by clear g0; go_simp, by clear g0; go_simp⟩⟩
set_option maxRecDepth 100000 in
set_option maxHeartbeats 4000000 in
theorem eqvLast (x y : DLast) : ∃ b : Bool, (b = true ↔ x = y) ∧ ∀ w : World, (binOp .eql 150 (.agg #[.int .i64 x.client, .int .i64 x.no, .int .i64 x.ver.epoch, .int .i64 x.ver.seq]) (.agg #[.int .i64 y.client, .int .i64 y.no, .int .i64 y.ver.epoch, .int .i64 y.ver.seq])).run Try.prog w = .ok (.bool b) w ∧ (binOp .neq 150 (.agg #[.int .i64 x.client, .int .i64 x.no, .int .i64 x.ver.epoch, .int .i64 x.ver.seq]) (.agg #[.int .i64 y.client, .int .i64 y.no, .int .i64 y.ver.epoch, .int .i64 y.ver.seq])).run Try.prog w = .ok (.bool (!b)) w := by
  obtain ⟨x0, x1, ⟨x2, x3⟩⟩ := x
  obtain ⟨y0, y1, ⟨y2, y3⟩⟩ := y
  dsimp only
  by_cases g0 : x0 = y0
  · subst g0
    by_cases g1 : x1 = y1
    · subst g1
      by_cases g2 : x2 = y2
      · subst g2
        by_cases g3 : x3 = y3
        · subst g3
          exact ⟨true, by simp, fun w => ⟨by go_simp, by go_simp⟩⟩
        · have q : (x3 == y3) = false := by simpa using g3
          exact ⟨false, by simp [g3], fun w => ⟨by clear g3; go_simp, by clear g3; go_simp⟩⟩
      · have q : (x2 == y2) = false := by simpa using g2
        exact ⟨false, by simp [g2], fun w => ⟨by clear g2; go_simp, by clear g2; go_simp⟩⟩
    · have q : (x1 == y1) = false := by simpa using g1
      exact ⟨false, by simp [g1], fun w => ⟨by clear g1; go_simp, by clear g1; go_simp⟩⟩
  · have q : (x0 == y0) = false := by simpa using g0
    exact ⟨false, by simp [g0], fun w => ⟨by clear g0; go_simp, by clear g0; go_simp⟩⟩
set_option maxRecDepth 100000 in
set_option maxHeartbeats 4000000 in
theorem eqvEntry (x y : DEntry) : ∃ b : Bool, (b = true ↔ x = y) ∧ ∀ w : World, (binOp .eql 85 (.agg #[.int .i64 x.ver.epoch, .int .i64 x.ver.seq, .int .i64 x.prior.epoch, .int .i64 x.prior.seq, .string x.name, .bool x.gone, .int .i64 x.size, .int .i64 x.sum, .int .i64 x.req.client, .int .i64 x.req.no]) (.agg #[.int .i64 y.ver.epoch, .int .i64 y.ver.seq, .int .i64 y.prior.epoch, .int .i64 y.prior.seq, .string y.name, .bool y.gone, .int .i64 y.size, .int .i64 y.sum, .int .i64 y.req.client, .int .i64 y.req.no])).run Try.prog w = .ok (.bool b) w ∧ (binOp .neq 85 (.agg #[.int .i64 x.ver.epoch, .int .i64 x.ver.seq, .int .i64 x.prior.epoch, .int .i64 x.prior.seq, .string x.name, .bool x.gone, .int .i64 x.size, .int .i64 x.sum, .int .i64 x.req.client, .int .i64 x.req.no]) (.agg #[.int .i64 y.ver.epoch, .int .i64 y.ver.seq, .int .i64 y.prior.epoch, .int .i64 y.prior.seq, .string y.name, .bool y.gone, .int .i64 y.size, .int .i64 y.sum, .int .i64 y.req.client, .int .i64 y.req.no])).run Try.prog w = .ok (.bool (!b)) w := by
  obtain ⟨⟨x0, x1⟩, ⟨x2, x3⟩, x4, x5, x6, x7, ⟨x8, x9⟩⟩ := x
  obtain ⟨⟨y0, y1⟩, ⟨y2, y3⟩, y4, y5, y6, y7, ⟨y8, y9⟩⟩ := y
  dsimp only
  by_cases g0 : x0 = y0
  · subst g0
    by_cases g1 : x1 = y1
    · subst g1
      by_cases g2 : x2 = y2
      · subst g2
        by_cases g3 : x3 = y3
        · subst g3
          by_cases g4 : x4 = y4
          · subst g4
            by_cases g5 : x5 = y5
            · subst g5
              by_cases g6 : x6 = y6
              · subst g6
                by_cases g7 : x7 = y7
                · subst g7
                  by_cases g8 : x8 = y8
                  · subst g8
                    by_cases g9 : x9 = y9
                    · subst g9
                      exact ⟨true, by simp, fun w => ⟨by go_simp, by go_simp⟩⟩
                    · have q : (x9 == y9) = false := by simpa using g9
                      exact ⟨false, by simp [g9], fun w => ⟨by clear g9; go_simp, by clear g9; go_simp⟩⟩
                  · have q : (x8 == y8) = false := by simpa using g8
                    exact ⟨false, by simp [g8], fun w => ⟨by clear g8; go_simp, by clear g8; go_simp⟩⟩
                · have q : (x7 == y7) = false := by simpa using g7
                  exact ⟨false, by simp [g7], fun w => ⟨by clear g7; go_simp, by clear g7; go_simp⟩⟩
              · have q : (x6 == y6) = false := by simpa using g6
                exact ⟨false, by simp [g6], fun w => ⟨by clear g6; go_simp, by clear g6; go_simp⟩⟩
            · have q : (x5 == y5) = false := by simpa using g5
              exact ⟨false, by simp [g5], fun w => ⟨by clear g5; go_simp, by clear g5; go_simp⟩⟩
          · have q := str_ne g4
            exact ⟨false, by simp [g4], fun w => ⟨by clear g4; go_simp, by clear g4; go_simp⟩⟩
        · have q : (x3 == y3) = false := by simpa using g3
          exact ⟨false, by simp [g3], fun w => ⟨by clear g3; go_simp, by clear g3; go_simp⟩⟩
      · have q : (x2 == y2) = false := by simpa using g2
        exact ⟨false, by simp [g2], fun w => ⟨by clear g2; go_simp, by clear g2; go_simp⟩⟩
    · have q : (x1 == y1) = false := by simpa using g1
      exact ⟨false, by simp [g1], fun w => ⟨by clear g1; go_simp, by clear g1; go_simp⟩⟩
  · have q : (x0 == y0) = false := by simpa using g0
    exact ⟨false, by simp [g0], fun w => ⟨by clear g0; go_simp, by clear g0; go_simp⟩⟩
set_option maxRecDepth 100000 in
set_option maxHeartbeats 4000000 in
theorem eqvChunk (x y : DChunk) : ∃ b : Bool, (b = true ↔ x = y) ∧ ∀ w : World, (binOp .eql 87 (.agg #[.string x.name, .int .i64 x.ver.epoch, .int .i64 x.ver.seq, .int .i64 x.pos, .int .i64 x.sum, .string x.bytes]) (.agg #[.string y.name, .int .i64 y.ver.epoch, .int .i64 y.ver.seq, .int .i64 y.pos, .int .i64 y.sum, .string y.bytes])).run Try.prog w = .ok (.bool b) w ∧ (binOp .neq 87 (.agg #[.string x.name, .int .i64 x.ver.epoch, .int .i64 x.ver.seq, .int .i64 x.pos, .int .i64 x.sum, .string x.bytes]) (.agg #[.string y.name, .int .i64 y.ver.epoch, .int .i64 y.ver.seq, .int .i64 y.pos, .int .i64 y.sum, .string y.bytes])).run Try.prog w = .ok (.bool (!b)) w := by
  obtain ⟨x0, ⟨x1, x2⟩, x3, x4, x5⟩ := x
  obtain ⟨y0, ⟨y1, y2⟩, y3, y4, y5⟩ := y
  dsimp only
  by_cases g0 : x0 = y0
  · subst g0
    by_cases g1 : x1 = y1
    · subst g1
      by_cases g2 : x2 = y2
      · subst g2
        by_cases g3 : x3 = y3
        · subst g3
          by_cases g4 : x4 = y4
          · subst g4
            by_cases g5 : x5 = y5
            · subst g5
              exact ⟨true, by simp, fun w => ⟨by go_simp, by go_simp⟩⟩
            · have q := str_ne g5
              exact ⟨false, by simp [g5], fun w => ⟨by clear g5; go_simp, by clear g5; go_simp⟩⟩
          · have q : (x4 == y4) = false := by simpa using g4
            exact ⟨false, by simp [g4], fun w => ⟨by clear g4; go_simp, by clear g4; go_simp⟩⟩
        · have q : (x3 == y3) = false := by simpa using g3
          exact ⟨false, by simp [g3], fun w => ⟨by clear g3; go_simp, by clear g3; go_simp⟩⟩
      · have q : (x2 == y2) = false := by simpa using g2
        exact ⟨false, by simp [g2], fun w => ⟨by clear g2; go_simp, by clear g2; go_simp⟩⟩
    · have q : (x1 == y1) = false := by simpa using g1
      exact ⟨false, by simp [g1], fun w => ⟨by clear g1; go_simp, by clear g1; go_simp⟩⟩
  · have q := str_ne g0
    exact ⟨false, by simp [g0], fun w => ⟨by clear g0; go_simp, by clear g0; go_simp⟩⟩
end Go.Proofs.Ytbnjgehgaellmaa.Rd
