/-
  '==' on four rectangles, of one value.
-/
import Derived.Test.YtabpfnjjibckmaaBase
import Derived.ChangeKeysEq
namespace Go.Proofs.Ytabpfnjjibckmaa.rect
open Go.RowKit
set_option linter.unusedVariables false

theorem eq_same (a0 a1 a2 a3 a4 a5 a6 a7 a8 a9 b0 b1 b2 b3 b4 b5 : Int) (w : World) :
    (binOp .eql 45 (.agg #[.int .i64 a0, .int .i64 a1, .int .i64 a2, .int .i64 a3, .int .i64 a4, .int .i64 a5, .int .i64 a6, .int .i64 a7, .int .i64 a8, .int .i64 a9, .int .i64 b0, .int .i64 b1, .int .i64 b2, .int .i64 b3, .int .i64 b4, .int .i64 b5]) (.agg #[.int .i64 a0, .int .i64 a1, .int .i64 a2, .int .i64 a3, .int .i64 a4, .int .i64 a5, .int .i64 a6, .int .i64 a7, .int .i64 a8, .int .i64 a9, .int .i64 b0, .int .i64 b1, .int .i64 b2, .int .i64 b3, .int .i64 b4, .int .i64 b5])).run Try.prog w = .ok (.bool true) w := by
  obtain ⟨i, hi⟩ : ∃ i, Try.prog.info? 23 = some i := Option.isSome_iff_exists.1 (by kernel_rfl)
  have e : ∀ x y, Op.equal 45 x y = Op.equalIn (9999 + 1) 45 x y := fun _ _ => rfl
  have hc : Try.prog.cellsOf 23 = 4 := by kernel_rfl
  have hr := fun xs ys => run_equalIn_array (P := Try.prog) w 9999 xs ys Try.underlying45 hi
  simp only [binOp]
  simp [e, hr, hc, Op.eqItems, List.range, List.range.loop, go_sem]
end Go.Proofs.Ytabpfnjjibckmaa.rect
