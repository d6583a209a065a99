/-
  Quads: the calls that are handed in, opened; the sides.
-/
import Derived.Test.YtpfnkmlfpkjkpaaQdX
import Derived.Test.YtpfnkmlfpkjkpaaStructs
import Derived.Lib.SmallJoins
namespace Go.Proofs.Ytpfnkmlfpkjkpaa.qd
open Go.ChangeShapes Go.WideShapes Go.ChangeAt Go.RowKit Go.Deep
open base (ret_bool ret_int made up Blk Only IntRows)
set_option linter.unusedVariables false
set_option linter.unusedSimpArgs false

structure OP where
  x : Int
  y : Int
  w : Int
  h : Int
  v : Int
def OP.cells (o : OP) : List Value := [.int .i64 o.x, .int .i64 o.y, .int .i64 o.w, .int .i64 o.h, .int .i64 o.v]
structure OP.Ok (o : OP) : Prop where
  wx : (Lit.int .i64 o.x).wf = true
  wy : (Lit.int .i64 o.y).wf = true
  ww : (Lit.int .i64 o.w).wf = true
  wh : (Lit.int .i64 o.h).wf = true
  wv : (Lit.int .i64 o.v).wf = true
def OP.get (o : OP) : Nat → Int
  | 0 => o.x
  | 1 => o.y
  | 2 => o.w
  | 3 => o.h
  | _ => o.v
theorem OP.cell (o : OP) {j : Nat} (hj : j < 5) : o.cells[j]? = some (.int .i64 (o.get j)) := by
  rcases (show j = 0 ∨ j = 1 ∨ j = 2 ∨ j = 3 ∨ j = 4 by omega) with rfl | rfl | rfl | rfl | rfl <;> rfl
section
variable {H : Type} {enc : TypeId × Value → H}
theorem one_int {sp : Nat → Bool} {held : Bool} {bs n0 : Nat} {W : World} {v : Value} {yy : DataW H × List MemPlace}
    (hf : DataW.trod enc Try.prog W bs sp held n0 3 [v] = some yy) : ∃ a, v = .int .i64 a ∧ (Lit.int .i64 a).wf = true := by
  obtain ⟨a, h1, _, h2⟩ := DataW.trod_int Try.underlying3 hf
  simp at h1
  exact ⟨a, h1, h2⟩
theorem c_int : Try.prog.cellsOf 3 = 1 := by kernel_rfl
theorem c_rect : Try.prog.cellsOf 42 = 4 := by kernel_rfl
theorem c_op : Try.prog.cellsOf 50 = 5 := by kernel_rfl
theorem rect_cells {sp : Nat → Bool} {held : Bool} {bs n0 : Nat} {W : World} {cs : List Value} {yy : DataW H × List MemPlace}
    (hf : DataW.trod enc Try.prog W bs sp held n0 42 cs = some yy) :
    ∃ (a b c d : Int), cs = [.int .i64 a, .int .i64 b, .int .i64 c, .int .i64 d] ∧ (Lit.int .i64 a).wf = true ∧ (Lit.int .i64 b).wf = true ∧ (Lit.int .i64 c).wf = true ∧ (Lit.int .i64 d).wf = true := by
  obtain ⟨ys, n', hn', hy, hlen, hyl, hf2⟩ := DataW.trod_struct Try.underlying42 hf
  have hC : cs.length = 4 := hlen.trans c_rect
  match cs, hC, ys, hyl with
  | [c0, c1, c2, c3], _, [y0, y1, y2, y3], _ =>
    have f0 := hf2 0 _ rfl
    have f1 := hf2 1 _ rfl
    have f2 := hf2 2 _ rfl
    have f3 := hf2 3 _ rfl
    simp only [c_int, List.drop_zero, List.drop_succ_cons, List.take_succ_cons, List.take_zero, List.getElem?_cons_zero, List.getElem?_cons_succ] at f0 f1 f2 f3
    obtain ⟨a, rfl, h0⟩ := one_int f0
    obtain ⟨b, rfl, h1⟩ := one_int f1
    obtain ⟨c, rfl, h2⟩ := one_int f2
    obtain ⟨d, rfl, h3⟩ := one_int f3
    exact ⟨a, b, c, d, rfl, h0, h1, h2, h3⟩
theorem op_cells {sp : Nat → Bool} {held : Bool} {bs n0 : Nat} {W : World} {cs : List Value} {yy : DataW H × List MemPlace}
    (hf : DataW.trod enc Try.prog W bs sp held n0 50 cs = some yy) : ∃ o : OP, cs = o.cells ∧ o.Ok := by
  obtain ⟨ys, n', hn', hy, hlen, hyl, hf2⟩ := DataW.trod_struct Try.underlying50 hf
  have hC : cs.length = 5 := hlen.trans c_op
  match cs, hC, ys, hyl with
  | [c0, c1, c2, c3, c4], _, [y0, y1], _ =>
    have f0 := hf2 0 _ rfl
    have f1 := hf2 1 _ rfl
    simp only [c_int, c_rect, List.drop_zero, List.drop_succ_cons, List.take_succ_cons, List.take_zero, List.getElem?_cons_zero, List.getElem?_cons_succ] at f0 f1
    obtain ⟨a, b, c, d, e, h0, h1, h2, h3⟩ := rect_cells f0
    obtain ⟨z, rfl, h4⟩ := one_int f1
    have e : [c0, c1, c2, c3] = [.int .i64 a, .int .i64 b, .int .i64 c, .int .i64 d] := e
    injection e with e0 e
    injection e with e1 e
    injection e with e2 e
    injection e with e3 _
    subst e0 e1 e2 e3
    exact ⟨⟨a, b, c, d, z⟩, rfl, ⟨h0, h1, h2, h3, h4⟩⟩
theorem open_ops {sp : Nat → Bool} {held : Bool} {bs b0 : Nat} {r : Reach} {W : World} {v : Value} {d : DataW H} {ps : List MemPlace}
    (hval : Value.okWide Try.prog W r b0 22 v) (h : DataW.Trod enc Try.prog W bs sp held 22 v d ps) :
    ∃ (A : Option Addr) (n cap : Nat) (F : Nat → Nat → Int), v = .slice A n cap ∧ n ≤ cap ∧ cap ≤ maxLen ∧ IntRows W A n 5 F := by
  obtain ⟨a0, len, cap, rfl⟩ := okWide_slice Try.underlying22 hval
  obtain ⟨fuel, hf⟩ := h
  rcases open_slice Try.underlying22 hf with ⟨hcs, hx⟩ | ⟨a, len', cap', m, n, D, Pl, hcs, hb, hl, hm, hmm, hx, hi⟩
  · simp [Value.cells] at hcs
    obtain ⟨rfl, rfl, rfl⟩ := hcs
    exact ⟨none, 0, 0, fun _ _ => 0, rfl, Nat.le_refl _, by unfold maxLen; omega, fun h0 => absurd h0 (by omega)⟩
  · simp [Value.cells] at hcs
    obtain ⟨rfl, rfl, rfl⟩ := hcs
    have hlm : len ≤ m := by rw [hmm]; split <;> omega
    have key0 : ∀ i, ∃ o : OP, i < m → ∀ j, j < 5 → W.cell? (a.add (i * 5 + j)) = o.cells[j]? := by
      intro i
      by_cases him : i < m
      · obtain ⟨cs', hc, ht'⟩ := hi i him
        rw [c_op] at hc
        obtain ⟨o, rfl, ho⟩ := op_cells ht'
        obtain ⟨_, hcl, hat⟩ := World.cells?_some hc
        refine ⟨o, fun _ j hj => ?_⟩
        rw [← Go.Deep.add_add, hat j hj]
      · exact ⟨⟨0, 0, 0, 0, 0⟩, fun h => absurd h him⟩
    refine ⟨some a, len, cap, fun i j => (key0 i).choose.get j, rfl, hl, hm, fun h0 => ?_⟩
    obtain ⟨b, off, spot⟩ := a
    have g1 : W.cell? ((⟨b, off, spot⟩ : Addr).add (0 * 5 + 0)) = some (.int .i64 ((key0 0).choose.get 0)) := ((key0 0).choose_spec (by omega) 0 (by omega)).trans (OP.cell _ (by omega))
    have hspot : spot = none := by
      simpa [Addr.add] using World.cell?_spot g1
    subst hspot
    refine ⟨b, off, rfl, ?_, fun i hi2 j hj => ?_⟩
    · have := World.block_lt_of_cell? W _ g1
      simpa [Addr.add] using this
    · have := ((key0 i).choose_spec (by omega) j hj).trans (OP.cell _ hj)
      rw [base.addr_add, ← Nat.add_assoc] at this
      exact this
end
/-- the sides by their numbers -/
def sd (z : Int) : Int := if z < 0 ∨ 5 < z then 0 else ((2 ^ z.toNat : Nat) : Int)
set_option maxHeartbeats 1000000 in
theorem sides_no (z : Int) (w : World) (h : z < 0 ∨ 5 < z) : Calls Try.prog 8 #[.int .i64 z] w fun e w' => e = .returned (.int .i64 0) ∧ w' = w := by
  by_cases h0 : z < 0
  · have d1 : decide (z < 0) = true := decide_eq_true h0
    clear h h0
    go_enter Try.func8, Try.ntmps8
    go_wp2_with fail
    go_ret
    exact ⟨rfl, rfl⟩
  · have d1 : decide (z < 0) = false := decide_eq_false h0
    have d2 : decide (5 < z) = true := decide_eq_true (by omega)
    clear h h0
    go_enter Try.func8, Try.ntmps8
    go_wp2_with fail
    go_ret
    exact ⟨rfl, rfl⟩
set_option maxHeartbeats 4000000 in
theorem sides_yes (k : Nat) (w : World) (h : k ≤ 5) : Calls Try.prog 8 #[.int .i64 k] w fun e w' => e = .returned (.int .i64 ((2 ^ k : Nat) : Int)) ∧ w' = w := by
  rcases (show k = 0 ∨ k = 1 ∨ k = 2 ∨ k = 3 ∨ k = 4 ∨ k = 5 by omega) with rfl | rfl | rfl | rfl | rfl | rfl
  all_goals
    clear h
    go_enter Try.func8, Try.ntmps8
    go_wp2_with fail
    go_ret
    exact ⟨rfl, rfl⟩
end Go.Proofs.Ytpfnkmlfpkjkpaa.qd
