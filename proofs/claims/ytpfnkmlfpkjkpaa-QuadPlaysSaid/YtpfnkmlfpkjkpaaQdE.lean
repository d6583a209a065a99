/-
  Quads: a square is set, quarter by quarter.
-/
import Derived.Test.YtpfnkmlfpkjkpaaQdD
import Derived.Deep.RegionHeld
import Derived.StillTailTactics
import Derived.Lib.Hide
namespace Go.Proofs.Ytpfnkmlfpkjkpaa.qd
open Go.RowKit
open base (ret_bool ret_int made up Blk Only)
open rect
set_option linter.unusedVariables false
set_option linter.unusedSimpArgs false

theorem sem_part2 {k : Nat} {x y a b c d : Int} {v u g : Nat} {t : Nat → Q} {q' : Q} (ht : t = fun _ => Q.leaf u) (h : Sem (k + 1) x y a b c d v (.node u g t) q') : Sem (k + 1) x y a b c d v (.leaf u) q' := by
  subst ht
  exact sem_part h
def SW9 (g b off b9 b6 : Nat) (x y h a bb c d : Int) (ws : World) : Prop := ws.cell? ⟨b, off + 1, none⟩ = some (.pointer (some ⟨g, 0, none⟩)) ∧ ws.cell? ⟨b9, 0, none⟩ = some (.int .i64 x) ∧ ws.cell? ⟨b9, 1, none⟩ = some (.int .i64 y) ∧ ws.cell? ⟨b9, 2, none⟩ = some (.int .i64 h) ∧ ws.cell? ⟨b9, 3, none⟩ = some (.int .i64 h) ∧ ws.cell? ⟨b6, 0, none⟩ = some (.int .i64 a) ∧ ws.cell? ⟨b6, 1, none⟩ = some (.int .i64 bb) ∧ ws.cell? ⟨b6, 2, none⟩ = some (.int .i64 c) ∧ ws.cell? ⟨b6, 3, none⟩ = some (.int .i64 d)
theorem cell_only {S : Nat → Prop} {w w' : World} (ho : Only S w w') {p : Addr} {v : Value} (h : w.cell? p = some v) (hn : ¬ S p.block) : w'.cell? p = some v :=
  (World.cell?_of_block (w := w) (a := p) (ho.block _ (World.block_lt_of_cell? _ _ h) hn)).trans h
theorem SW9.only {S : Nat → Prop} {g b off b9 b6 : Nat} {x y h a bb c d : Int} {w w' : World} (q : SW9 g b off b9 b6 x y h a bb c d w) (ho : Only S w w') (hn : ∀ m, m = b ∨ m = b9 ∨ m = b6 → ¬ S m) : SW9 g b off b9 b6 x y h a bb c d w' :=
  ⟨cell_only ho q.1 (hn _ (.inl rfl)), cell_only ho q.2.1 (hn _ (.inr (.inl rfl))), cell_only ho q.2.2.1 (hn _ (.inr (.inl rfl))), cell_only ho q.2.2.2.1 (hn _ (.inr (.inl rfl))), cell_only ho q.2.2.2.2.1 (hn _ (.inr (.inl rfl))), cell_only ho q.2.2.2.2.2.1 (hn _ (.inr (.inr rfl))), cell_only ho q.2.2.2.2.2.2.1 (hn _ (.inr (.inr rfl))), cell_only ho q.2.2.2.2.2.2.2.1 (hn _ (.inr (.inr rfl))), cell_only ho q.2.2.2.2.2.2.2.2 (hn _ (.inr (.inr rfl)))⟩
theorem quarter_0 (x y h : Int) (W : World) : (Instr.index 89 (.agg #[.int .i64 x, .int .i64 y, .int .i64 h, .int .i64 h, .int .i64 (x + h), .int .i64 y, .int .i64 h, .int .i64 h, .int .i64 x, .int .i64 (y + h), .int .i64 h, .int .i64 h, .int .i64 (x + h), .int .i64 (y + h), .int .i64 h, .int .i64 h]) (.int .i64 0)).run Try.prog W = .ok (.agg #[.int .i64 x, .int .i64 y, .int .i64 h, .int .i64 h]) W := by kernel_rfl
theorem quarter_1 (x y h : Int) (W : World) : (Instr.index 89 (.agg #[.int .i64 x, .int .i64 y, .int .i64 h, .int .i64 h, .int .i64 (x + h), .int .i64 y, .int .i64 h, .int .i64 h, .int .i64 x, .int .i64 (y + h), .int .i64 h, .int .i64 h, .int .i64 (x + h), .int .i64 (y + h), .int .i64 h, .int .i64 h]) (.int .i64 1)).run Try.prog W = .ok (.agg #[.int .i64 (x + h), .int .i64 y, .int .i64 h, .int .i64 h]) W := by kernel_rfl
theorem quarter_2 (x y h : Int) (W : World) : (Instr.index 89 (.agg #[.int .i64 x, .int .i64 y, .int .i64 h, .int .i64 h, .int .i64 (x + h), .int .i64 y, .int .i64 h, .int .i64 h, .int .i64 x, .int .i64 (y + h), .int .i64 h, .int .i64 h, .int .i64 (x + h), .int .i64 (y + h), .int .i64 h, .int .i64 h]) (.int .i64 2)).run Try.prog W = .ok (.agg #[.int .i64 x, .int .i64 (y + h), .int .i64 h, .int .i64 h]) W := by kernel_rfl
theorem quarter_3 (x y h : Int) (W : World) : (Instr.index 89 (.agg #[.int .i64 x, .int .i64 y, .int .i64 h, .int .i64 h, .int .i64 (x + h), .int .i64 y, .int .i64 h, .int .i64 h, .int .i64 x, .int .i64 (y + h), .int .i64 h, .int .i64 h, .int .i64 (x + h), .int .i64 (y + h), .int .i64 h, .int .i64 h]) (.int .i64 3)).run Try.prog W = .ok (.agg #[.int .i64 (x + h), .int .i64 (y + h), .int .i64 h, .int .i64 h]) W := by kernel_rfl
end Go.Proofs.Ytpfnkmlfpkjkpaa.qd
