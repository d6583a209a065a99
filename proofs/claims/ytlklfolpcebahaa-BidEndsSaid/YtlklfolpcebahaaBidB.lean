/-
  Contracts of package bid: one is opened where there is none.
-/
import Derived.Test.YtlklfolpcebahaaBidA
namespace Go.Proofs.Ytlklfolpcebahaa.bd
open Go.RowKit
open base (ret_bool ret_int made up Blk Only Nums)
set_option linter.unusedVariables false
set_option linter.unusedSimpArgs false

theorem asz (w : World) (o : Obj) : (w.alloc o).heap.size = w.heap.size + 1 := by first | exact Array.size_push _ | simp
set_option maxRecDepth 100000 in
set_option maxHeartbeats 1000000 in
theorem of_none (g : Nat) (d nx : Int) (w : World) (h : Blk w g 58 #[.slice none 0 0, .int .i64 nx]) :
    Calls Try.prog 12 #[.pointer (some ⟨g, 0, none⟩), .int .i64 d] w fun e w' => e = .returned (.tuple #[(.agg #[.int .i64 0, .int .i64 0, .int .i64 0, .int .i64 0, .int .i64 0, .int .i64 0, .int .i64 0]), .bool false]) ∧ Below w.heap.size w w' := by
  have hm1 : Below w.heap.size w (w.alloc (.cells #[.int .i64 d] 3)) := made w _
  have hm2 : Below w.heap.size w ((w.alloc (.cells #[.int .i64 d] 3)).alloc (.cells #[.int .i64 0, .int .i64 0, .int .i64 0, .int .i64 0, .int .i64 0, .int .i64 0, .int .i64 0] 35)) := hm1.alloc (by rw [asz]; omega) _
  have br : Blk ((w.alloc (.cells #[.int .i64 d] 3)).alloc (.cells #[.int .i64 0, .int .i64 0, .int .i64 0, .int .i64 0, .int .i64 0, .int .i64 0, .int .i64 0] 35)) (w.heap.size + 1) 35 #[.int .i64 0, .int .i64 0, .int .i64 0, .int .i64 0, .int .i64 0, .int .i64 0, .int .i64 0] := by
    have := Blk.new (w.alloc (.cells #[.int .i64 d] 3)) 35 #[.int .i64 0, .int .i64 0, .int .i64 0, .int .i64 0, .int .i64 0, .int .i64 0, .int .i64 0]
    rw [asz] at this
    exact this
  have FN := Lib.hid (find_none g w.heap.size nx _ (h.below hm2 h.lt))
  have H2 := Lib.hid hm2
  have BR := Lib.hid br
  clear h hm1 hm2 br
  go_enter Try.func12, Try.ntmps12
  go_wp2_with fail
  refine FN.out.mono ?_
  rintro e w2 ⟨rfl, rfl⟩
  have g0 := BR.out.cell 0
  have g1 := BR.out.cell 1
  have g2 := BR.out.cell 2
  have g3 := BR.out.cell 3
  have g4 := BR.out.cell 4
  have g5 := BR.out.cell 5
  have g6 := BR.out.cell 6
  go_wp2_with fail
  refine bodyPost_ret (v := .tuple #[(.agg #[.int .i64 0, .int .i64 0, .int .i64 0, .int .i64 0, .int .i64 0, .int .i64 0, .int .i64 0]), .bool false]) (by simp [results, Try.results12, go_sem, g0, g1, g2, g3, g4, g5, g6]) rfl ⟨rfl, H2.out⟩

def Row (w : World) (gl : Nat) (xs : List Int) : Prop := ∃ cs, Blk w gl 35 cs ∧ ∀ j, j < 7 → cs[j]? = some (.int .i64 (xs.getD j 0))
theorem Row.cell {w : World} {gl : Nat} {xs : List Int} (h : Row w gl xs) {j : Nat} (hj : j < 7) : w.cell? ⟨gl, j, none⟩ = some (.int .i64 (xs.getD j 0)) := by
  obtain ⟨cs, hb, hc⟩ := h
  exact (hb.cell j).trans (hc j hj)
theorem Row.free {w : World} {gl : Nat} {xs : List Int} (h : Row w gl xs) (j : Nat) : w.frozen? ⟨gl, j, none⟩ = false := by
  obtain ⟨cs, hb, hc⟩ := h
  exact hb.free j
theorem Row.lt {w : World} {gl : Nat} {xs : List Int} (h : Row w gl xs) : gl < w.heap.size := by
  obtain ⟨cs, hb, hc⟩ := h
  exact hb.lt
theorem Row.below {B : Nat} {w w' : World} {gl : Nat} {xs : List Int} (h : Row w gl xs) (hb : Below B w w') (hg : gl < B) : Row w' gl xs := by
  obtain ⟨cs, hr, hc⟩ := h
  exact ⟨cs, hr.below hb hg, hc⟩
theorem Row.far {w : World} {gl : Nat} {xs : List Int} (h : Row w gl xs) {p : Addr} (hp : gl ≠ p.block) (u : Value) : Row (w.setCell p u) gl xs := by
  obtain ⟨cs, hb, hc⟩ := h
  exact ⟨cs, hb.far hp u, hc⟩
theorem getD_set' (l : List Int) (i j : Nat) (v : Int) (h : i < l.length) : (l.set i v).getD j 0 = if i = j then v else l.getD j 0 := by
  by_cases e : i = j
  · subst e; simp [List.getD, h]
  · simp [List.getD, e]
theorem Row.put {w : World} {gl : Nat} {xs : List Int} (h : Row w gl xs) {i : Nat} (hi : i < 7) (hl : xs.length = 7) (v : Int) : Row (w.setCell ⟨gl, i, none⟩ (.int .i64 v)) gl (xs.set i v) := by
  obtain ⟨cs, hb, hc⟩ := h
  refine ⟨_, hb.put i _, fun j hj => ?_⟩
  rw [getD_set' _ _ _ _ (by omega)]
  by_cases e : i = j
  · subst e
    have hlt : i < cs.size := (Array.getElem?_eq_some_iff.1 (hc i hj)).1
    simp [hlt]
  · rw [if_neg e, Array.getElem?_setIfInBounds_ne e]
    exact hc j hj

/-- one auction stands open: number 1, of seller 1 -/
structure One (w : World) (g gl cap : Nat) (d l b p n : Int) : Prop where
  blk : Blk w g 58 #[.slice (some ⟨gl, 0, none⟩) 1 cap, .int .i64 2]
  row : Row w gl [1, d, 1, l, b, p, n]
  le : 1 ≤ cap ∧ cap ≤ 9223372036854775807
theorem One.ne {w : World} {g gl cap : Nat} {d l b p n : Int} (h : One w g gl cap d l b p n) : g ≠ gl := by
  rintro rfl
  obtain ⟨cs, hb, _⟩ := h.row
  have h1 := h.blk
  unfold Blk at h1 hb
  rw [h1] at hb
  injection hb with hb
  injection hb with _ ht
  exact absurd ht (by decide)
theorem One.below {w w' : World} {g gl cap : Nat} {d l b p n : Int} (h : One w g gl cap d l b p n) (hb : Below w.heap.size w w') : One w' g gl cap d l b p n := ⟨h.blk.below hb h.blk.lt, h.row.below hb h.row.lt, h.le⟩

theorem info_auc : (Try.prog.info? 35).map (fun i => (i.zero, i.size, i.bytes)) = some (some (.agg #[.int .i64 0, .int .i64 0, .int .i64 0, .int .i64 0, .int .i64 0, .int .i64 0, .int .i64 0]), 7, 56) := by kernel_rfl
theorem wp_app1 {w : World} {ops : Array Oper} {rest : List Oper} {o : Oper} {a : Act} {Q : Exit → Act → World → Prop} (hgd : o.guard = none) (s x : Operand)
    (ho : o.op = .call { callee := .builtin .append, args := #[s, x], argTypes := #[56, 56] })
    {p c : Nat} {x0 x1 x2 x3 x4 x5 x6 : Int} (h1 : a.eval s = .slice none 0 0) (h2 : a.eval x = .slice (some ⟨p, 0, none⟩) 1 c)
    (hb : Blk w p 35 #[.int .i64 x0, .int .i64 x1, .int .i64 x2, .int .i64 x3, .int .i64 x4, .int .i64 x5, .int .i64 x6])
    (k : ∀ gl cap w', w.heap.size ≤ gl → 1 ≤ cap → cap ≤ 9223372036854775807 → Row w' gl [x0, x1, x2, x3, x4, x5, x6] → w.grownBy w' none → wpList Try.prog ops Q rest (a.put o.dst (.slice (some ⟨gl, 0, none⟩) 1 cap)) w') : wpList Try.prog ops Q (o :: rest) a w := by
  obtain ⟨i, hi, hz0, hz1, hz2⟩ := info_parts info_auc
  refine wpList_append_own (P := Try.prog) w hgd s x 56 ho w.heap.size 35 i _ 7 56 Try.underlying56 hi hz0 hz1 hz2 rfl (by decide) _ 0 [] h1 ⟨by simp, .inl ⟨rfl, rfl⟩⟩ ⟨p, 0, none⟩ 1 c [.int .i64 x0, .int .i64 x1, .int .i64 x2, .int .i64 x3, .int .i64 x4, .int .i64 x5, .int .i64 x6] h2 rfl ?_ ?_ (by unfold maxLen; omega) (by omega) (Nat.le_refl _) ?_
  · intro j u hj
    have hadd : (⟨p, 0, none⟩ : Addr).add j = ⟨p, j, none⟩ := by unfold Addr.add; split <;> simp_all
    rw [hadd, hb.cell j]
    rw [← hj]
    simp
  · intro u hu
    simp at hu
    rcases hu with rfl | rfl | rfl | rfl | rfl | rfl | rfl <;> rfl
  · intro v' w' hown hg hn
    rcases hown.2 with ⟨_, h0⟩ | ⟨g, cap, cur, rfl, hbg, hgc, hnc, hcm, hcs, htake⟩
    · omega
    · refine k g cap w' hbg (by omega) (by unfold maxLen at hcm; omega) ⟨cur, hgc, fun j hj => ?_⟩ hg
      have h3 : (cur.toList.take ((0 + 1) * 7))[j]? = ([] ++ [Value.int .i64 x0, .int .i64 x1, .int .i64 x2, .int .i64 x3, .int .i64 x4, .int .i64 x5, .int .i64 x6])[j]? := by rw [htake]
      rw [List.getElem?_take, if_pos (by omega)] at h3
      rw [← Array.getElem?_toList, h3]
      rcases j with _ | _ | _ | _ | _ | _ | _ | j <;> first | rfl | omega
end Go.Proofs.Ytlklfolpcebahaa.bd
