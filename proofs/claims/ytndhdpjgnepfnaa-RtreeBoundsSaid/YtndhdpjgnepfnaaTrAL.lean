/-
  R-trees: the fixed answer; the calls that are handed in, opened.
-/
import Derived.Test.YtndhdpjgnepfnaaTrAK
import Derived.Test.YtndhdpjgnepfnaaStructs
import Derived.Lib.SmallJoins
namespace Go.Proofs.Ytndhdpjgnepfnaa.tr
open Go.ChangeShapes Go.WideShapes Go.ChangeAt Go.RowKit Go.Deep
open base (ret_bool ret_int made up Blk Only)
open rk (Lay)
open rect
set_option linter.unusedVariables false
set_option linter.unusedSimpArgs false
attribute [local go_sem] Oper.semAt_some

theorem new_tr (w : World) : Calls Try.prog 8 #[] w fun e w' => (∃ g F, e = .returned (.pointer (some ⟨g, 0, none⟩)) ∧ Tr w' g [] F ∧ ∀ k, F k → w.heap.size ≤ k) ∧ Below w.heap.size w w' := by
  refine (new_any w).mono ?_
  rintro e w' ⟨⟨g, root, rfl, h1, h2, h3⟩, hb⟩
  refine ⟨⟨g, fun k => k = g ∨ foot root (.slice none 0 0) [] k, rfl, ⟨0, root, _, [], h3, .inl rfl, List.Perm.refl _, fun k => Iff.rfl⟩, fun k hk => ?_⟩, hb⟩
  rcases hk with rfl | rfl | e | ⟨x, hx, _⟩
  · exact h1
  · exact h2
  · cases e
  · simp at hx
theorem any_tr (t : Nat) (S : List Th) (F : Nat → Prop) (q : Bx) (w : World) (h : Tr w t S F) : Calls Try.prog 19 #[.pointer (some ⟨t, 0, none⟩), (.agg #[.int .i64 q.x, .int .i64 q.y, .int .i64 q.w, .int .i64 q.h])] w fun e w' => e = .returned (.bool (S.any (fun d => mt q d.1))) ∧ Below w.heap.size w w' := by
  obtain ⟨h, root, v, X, a1, a2, a3, a4⟩ := h
  refine (any_any t h S.length root v X q w a1).mono ?_
  rintro e w' ⟨rfl, hb⟩
  refine ⟨?_, hb⟩
  congr 2
  unfold tl
  rw [Bool.eq_iff_iff]
  simp only [Bool.not_eq_true', List.isEmpty_eq_false_iff, ne_eq, List.filter_eq_nil_iff, List.any_eq_true]
  constructor
  · intro hne
    by_cases hx : ∃ d ∈ S, mt q d.1 = true
    · exact hx
    · exact absurd (fun d hd hq => hx ⟨d, a3.mem_iff.1 hd, hq⟩) hne
  · rintro ⟨d, hd, hq⟩ hno
    exact hno d (a3.mem_iff.2 hd) hq
theorem len_tr (t : Nat) (S : List Th) (F : Nat → Prop) (w : World) (h : Tr w t S F) : Calls Try.prog 12 #[.pointer (some ⟨t, 0, none⟩)] w fun e w' => e = .returned (.int .i64 (S.length : Nat)) ∧ w' = w := by
  obtain ⟨h, root, v, X, a1, a2, a3, a4⟩ := h
  exact len_any w t h S.length root v X a1
set_option maxRecDepth 100000 in
set_option maxHeartbeats 4000000 in
theorem awake_any (w : World) : Calls Try.prog 9 #[] w fun e w' => e = .returned (.bool true) ∧ Below w.heap.size w w' := by
  have NW := Lib.hid (new_tr w)
  go_enter Try.func9, Try.ntmps9
  go_wp2_with fail
  refine NW.out.mono ?_
  rintro e w1 ⟨⟨g, F, rfl, ht, hF⟩, hb1⟩
  have B1 := Lib.hid hb1
  obtain ⟨w2, hw2⟩ : ∃ w2, w1.alloc (.cells #[.int .i64 0, .int .i64 0, .int .i64 2, .int .i64 2] 28) = w2 := ⟨_, rfl⟩
  have M2 := Lib.hid (show Below w1.heap.size w1 w2 from by rw [← hw2]; exact made w1 _)
  have RB := Lib.hid (show Blk w2 w1.heap.size 28 #[.int .i64 0, .int .i64 0, .int .i64 2, .int .i64 2] from by rw [← hw2]; exact Blk.new _ _ _)
  have T2 := Lib.hid (ht.below M2.out)
  have FW := Lib.hid hF
  have FL := Lib.hid ht.lt
  have B2 := Lib.hid (up B1.out M2.out B1.out.size)
  have HW2 := Lib.hid hw2
  have RT : Bx.right ⟨0, 0, 2, 2⟩ = true := by decide +kernel
  have IN1 := Lib.hid (fun W (h : Tr W g [] F) => insert_any g [] F ⟨0, 0, 2, 2⟩ 7 W h (by simp))
  clear ht hF hb1 hw2 NW
  go_upto_region 3 with fail
  have hw2 := HW2.out
  simp only [hw2]
  clear hw2 HW2
  obtain ⟨x0, x1, x2, x3⟩ := RB.out.four
  go_wp2_with fail
  refine (IN1.out w2 T2.out).mono ?_
  rintro e w3 (⟨hr, -⟩ | ⟨-, hm, -⟩ | ⟨-, -, rfl, F3, ht3, ho3, hF3⟩)
  · rw [RT] at hr
    cases hr
  · simp at hm
  have R3 := Lib.hid (RB.out.only ho3 (fun q => by have := FL.out _ q; omega))
  have T3 := Lib.hid ht3
  have B3 := Lib.hid (show Below w.heap.size w w3 from B2.out.trans (ho3.to_below (B := w.heap.size) (fun i hi q => by have := FW.out i q; omega) B2.out.size))
  have IN2 := Lib.hid (insert_any g ([] ++ [(⟨0, 0, 2, 2⟩, 7)]) F3 ⟨0, 0, 2, 2⟩ 7 w3 T3.out (by simp))
  clear ht3 ho3 hF3 IN1 x0 x1 x2 x3
  obtain ⟨x0, x1, x2, x3⟩ := R3.out.four
  go_wp2_with fail
  refine IN2.out.mono ?_
  rintro e w4 (⟨hr, -⟩ | ⟨-, -, rfl, hb4⟩ | ⟨-, hm, -⟩)
  · rw [RT] at hr
    cases hr
  rotate_left
  · exact absurd (by simp) hm
  have B4 := Lib.hid (up B3.out hb4 B3.out.size)
  have T4 := Lib.hid (T3.out.below hb4)
  have R4 := Lib.hid (R3.out.below hb4 R3.out.lt)
  have IN3 := Lib.hid (insert_any g ([] ++ [(⟨0, 0, 2, 2⟩, 7)]) F3 ⟨0, 0, 0, 0⟩ 7 w4 T4.out (by simp))
  clear hb4 IN2 x0 x1 x2 x3
  go_wp2_with fail
  refine IN3.out.mono ?_
  rintro e w5 (⟨-, rfl, hb5⟩ | ⟨hr, -⟩ | ⟨hr, -⟩)
  rotate_left
  · have : Bx.right ⟨0, 0, 0, 0⟩ = false := by decide +kernel
    rw [this] at hr
    cases hr
  · have : Bx.right ⟨0, 0, 0, 0⟩ = false := by decide +kernel
    rw [this] at hr
    cases hr
  have B5 := Lib.hid (up B4.out hb5 B4.out.size)
  have T5 := Lib.hid (T4.out.below hb5)
  have R5 := Lib.hid (R4.out.below hb5 R4.out.lt)
  have LN := Lib.hid (len_tr g ([] ++ [(⟨0, 0, 2, 2⟩, 7)]) F3 w5 T5.out)
  have AN1 := Lib.hid (any_tr g ([] ++ [(⟨0, 0, 2, 2⟩, 7)]) F3 ⟨1, 1, 3, 3⟩ w5 T5.out)
  have e1 : (([] ++ [((⟨0, 0, 2, 2⟩ : Bx), (7 : Int))] : List Th).any (fun d => mt ⟨1, 1, 3, 3⟩ d.1)) = true := by decide +kernel
  rw [e1] at AN1
  clear hb5 IN3 e1
  go_wp2_with fail
  refine LN.out.mono ?_
  rintro e w5' ⟨rfl, rfl⟩
  go_wp2_with fail
  refine AN1.out.mono ?_
  rintro e w6 ⟨rfl, hb6⟩
  have B6 := Lib.hid (up B5.out hb6 B5.out.size)
  have T6 := Lib.hid (T5.out.below hb6)
  have R6 := Lib.hid (R5.out.below hb6 R5.out.lt)
  have AN2 := Lib.hid (any_tr g ([] ++ [(⟨0, 0, 2, 2⟩, 7)]) F3 ⟨2, 0, 1, 1⟩ w6 T6.out)
  have e1 : (([] ++ [((⟨0, 0, 2, 2⟩ : Bx), (7 : Int))] : List Th).any (fun d => mt ⟨2, 0, 1, 1⟩ d.1)) = false := by decide +kernel
  rw [e1] at AN2
  clear hb6 AN1 LN e1
  go_wp2_with fail
  refine AN2.out.mono ?_
  rintro e w7 ⟨rfl, hb7⟩
  have B7 := Lib.hid (up B6.out hb7 B6.out.size)
  have T7 := Lib.hid (T6.out.below hb7)
  have R7 := Lib.hid (R6.out.below hb7 R6.out.lt)
  have DE := Lib.hid (Tr.delete g ([] ++ [(⟨0, 0, 2, 2⟩, 7)]) F3 ⟨0, 0, 2, 2⟩ 8 w7 T7.out (by simp))
  clear hb7 AN2
  obtain ⟨x0, x1, x2, x3⟩ := R7.out.four
  go_wp2_with fail
  refine DE.out.mono ?_
  rintro e w8 (⟨-, rfl, hb8⟩ | ⟨hm, -⟩)
  rotate_left
  · simp at hm
  have B8 := Lib.hid (up B7.out hb8 B7.out.size)
  have CK := Lib.hid (check_any g ([] ++ [(⟨0, 0, 2, 2⟩, 7)]) F3 w8 (T7.out.below hb8) (by simp))
  clear hb8 DE x0 x1 x2 x3
  go_wp2_with fail
  refine CK.out.mono ?_
  rintro e w9 ⟨rfl, hb9⟩
  have B9 := Lib.hid (up B8.out hb9 B8.out.size)
  clear hb9 CK
  go_wp2_with fail
  go_ret
  exact ⟨rfl, B9.out⟩
def EO : rk.Enc Op := ⟨fun o => [.int .i64 o.k, .int .i64 o.v, .int .i64 o.a, .int .i64 o.r.x, .int .i64 o.r.y, .int .i64 o.r.w, .int .i64 o.r.h], 7, by decide, fun _ => rfl, by
  intro x v hv
  simp at hv
  rcases hv with rfl | rfl | rfl | rfl | rfl | rfl | rfl <;> rfl⟩
section
variable {H : Type} {enc : TypeId × Value → H}
theorem one_int {sp : Nat → Bool} {held : Bool} {bs n0 : Nat} {W : World} {v : Value} {yy : DataW H × List MemPlace}
    (hf : DataW.trod enc Try.prog W bs sp held n0 3 [v] = some yy) : ∃ a, v = .int .i64 a ∧ (Lit.int .i64 a).wf = true := by
  obtain ⟨a, h1, _, h2⟩ := DataW.trod_int Try.underlying3 hf
  simp at h1
  exact ⟨a, h1, h2⟩
theorem c_int : Try.prog.cellsOf 3 = 1 := by kernel_rfl
theorem c_rect : Try.prog.cellsOf 28 = 4 := by kernel_rfl
theorem c_op : Try.prog.cellsOf 30 = 7 := by kernel_rfl
theorem rect_cells {sp : Nat → Bool} {held : Bool} {bs n0 : Nat} {W : World} {cs : List Value} {yy : DataW H × List MemPlace}
    (hf : DataW.trod enc Try.prog W bs sp held n0 28 cs = some yy) :
    ∃ (a b c d : Int), cs = [.int .i64 a, .int .i64 b, .int .i64 c, .int .i64 d] ∧ (Lit.int .i64 a).wf = true ∧ (Lit.int .i64 b).wf = true ∧ (Lit.int .i64 c).wf = true ∧ (Lit.int .i64 d).wf = true := by
  obtain ⟨ys, n', hn', hy, hlen, hyl, hf2⟩ := DataW.trod_struct Try.underlying28 hf
  have hC : cs.length = 4 := hlen.trans c_rect
  match cs, hC, ys, hyl with
  | [c0, c1, c2, c3], _, [y0, y1, y2, y3], _ =>
    have f0 := hf2 0 _ rfl
    have f1 := hf2 1 _ rfl
    have f2 := hf2 2 _ rfl
    have f3 := hf2 3 _ rfl
    simp only [c_int, List.drop_zero, List.drop_succ_cons, List.take_succ_cons, List.take_zero, List.getElem?_cons_zero, List.getElem?_cons_succ] at f0 f1 f2 f3
    obtain ⟨a, rfl, h0⟩ := one_int f0
    obtain ⟨b, rfl, h1⟩ := one_int f1
    obtain ⟨c, rfl, h2⟩ := one_int f2
    obtain ⟨d, rfl, h3⟩ := one_int f3
    exact ⟨a, b, c, d, rfl, h0, h1, h2, h3⟩
theorem wf_bounds {a : Int} (h : (Lit.int .i64 a).wf = true) : -9223372036854775808 ≤ a ∧ a ≤ 9223372036854775807 := by
  have e : IntKind.i64.min = -9223372036854775808 := by decide
  have := h
  simp [Lit.wf, e] at this
  exact this
theorem op_cells {sp : Nat → Bool} {held : Bool} {bs n0 : Nat} {W : World} {cs : List Value} {yy : DataW H × List MemPlace}
    (hf : DataW.trod enc Try.prog W bs sp held n0 30 cs = some yy) : ∃ o : Op, cs = EO.enc o ∧ o.ok := by
  obtain ⟨ys, n', hn', hy, hlen, hyl, hf2⟩ := DataW.trod_struct Try.underlying30 hf
  have hC : cs.length = 7 := hlen.trans c_op
  match cs, hC, ys, hyl with
  | [c0, c1, c2, c3, c4, c5, c6], _, [y0, y1, y2, y3], _ =>
    have f0 := hf2 0 _ rfl
    have f1 := hf2 1 _ rfl
    have f2 := hf2 2 _ rfl
    have f3 := hf2 3 _ rfl
    simp only [c_int, c_rect, List.drop_zero, List.drop_succ_cons, List.take_succ_cons, List.take_zero, List.getElem?_cons_zero, List.getElem?_cons_succ] at f0 f1 f2 f3
    obtain ⟨k, rfl, g0⟩ := one_int f0
    obtain ⟨v, rfl, g1⟩ := one_int f1
    obtain ⟨a, rfl, g2⟩ := one_int f2
    obtain ⟨x, y, z, u, e, h0, h1, h2, h3⟩ := rect_cells f3
    have e : [c3, c4, c5, c6] = [.int .i64 x, .int .i64 y, .int .i64 z, .int .i64 u] := e
    injection e with e0 e
    injection e with e1 e
    injection e with e2 e
    injection e with e3 _
    subst e0 e1 e2 e3
    exact ⟨⟨k, v, a, ⟨x, y, z, u⟩⟩, rfl, (wf_bounds h0).1, wf_bounds g2⟩
theorem open_ops {sp : Nat → Bool} {held : Bool} {bs b0 : Nat} {r : Reach} {W : World} {v : Value} {d : DataW H} {ps : List MemPlace}
    (hval : Value.okWide Try.prog W r b0 22 v) (h : DataW.Trod enc Try.prog W bs sp held 22 v d ps) :
    ∃ (A : Option Addr) (cap : Nat) (L : List Op), v = .slice A L.length cap ∧ L.length ≤ cap ∧ cap ≤ maxLen ∧ Lay EO W A L ∧ ∀ o ∈ L, o.ok := by
  obtain ⟨a0, len, cap, rfl⟩ := okWide_slice Try.underlying22 hval
  obtain ⟨fuel, hf⟩ := h
  rcases open_slice Try.underlying22 hf with ⟨hcs, hx⟩ | ⟨a, len', cap', m, n, D, Pl, hcs, hb, hl, hm, hmm, hx, hi⟩
  · simp [Value.cells] at hcs
    obtain ⟨rfl, rfl, rfl⟩ := hcs
    exact ⟨none, 0, [], rfl, Nat.le_refl _, by unfold maxLen; omega, fun h0 => absurd h0 (by simp), fun o ho => absurd ho (by simp)⟩
  · simp [Value.cells] at hcs
    obtain ⟨rfl, rfl, rfl⟩ := hcs
    have hlm : len ≤ m := by rw [hmm]; split <;> omega
    have key0 : ∀ i, ∃ o : Op, o.ok ∧ (i < m → ∀ j, j < 7 → W.cell? (a.add (i * 7 + j)) = (EO.enc o)[j]?) := by
      intro i
      by_cases him : i < m
      · obtain ⟨cs', hc, ht'⟩ := hi i him
        rw [c_op] at hc
        obtain ⟨o, rfl, ho⟩ := op_cells ht'
        obtain ⟨_, hcl, hat⟩ := World.cells?_some hc
        refine ⟨o, ho, fun _ j hj => ?_⟩
        rw [← Go.Deep.add_add, hat j hj]
      · exact ⟨⟨0, 0, 0, ⟨0, 0, 0, 0⟩⟩, by unfold Op.ok; decide, fun h => absurd h him⟩
    have hL : ((List.range len).map (fun i => (key0 i).choose)).length = len := by simp
    refine ⟨some a, cap, (List.range len).map (fun i => (key0 i).choose), by rw [hL], by rw [hL]; exact hl, hm, fun h0 => ?_, fun o ho => ?_⟩
    · rw [hL] at h0
      obtain ⟨b, off, spot⟩ := a
      have g1 : W.cell? ((⟨b, off, spot⟩ : Addr).add (0 * 7 + 0)) = some (.int .i64 (key0 0).choose.k) := ((key0 0).choose_spec.2 (by omega) 0 (by omega)).trans rfl
      have hspot : spot = none := by
        simpa [Addr.add] using World.cell?_spot g1
      subst hspot
      refine ⟨b, off, rfl, ?_, fun i hi2 j hj => ?_⟩
      · have := World.block_lt_of_cell? W _ g1
        simpa [Addr.add] using this
      · rw [hL] at hi2
        have := (key0 i).choose_spec.2 (by omega) j hj
        rw [base.addr_add, ← Nat.add_assoc] at this
        rw [List.getElem_map, List.getElem_range]
        exact this
    · obtain ⟨i, hi2, rfl⟩ := List.mem_map.1 ho
      exact (key0 i).choose_spec.1
end
end Go.Proofs.Ytndhdpjgnepfnaa.tr
