/-
  A row of bools in memory; what is taken one by one. No law.
-/
import Derived.Test.YteecebklomeklaaDoorPoolE
namespace Go.Proofs.YteecebklomeklaaDoor.po
open Go.RowKit
open base (ret_bool ret_int made up Blk Only Nums)
open pnum
set_option linter.unusedVariables false
set_option linter.unusedSimpArgs false

def After (y : List Bool) (k : Nat) : List Bool := List.replicate k false ++ y.drop k
theorem After.len {y : List Bool} {k : Nat} (h : k ≤ y.length) : (After y k).length = y.length := by simp [After]; omega
theorem After.zero (y : List Bool) : After y 0 = y := rfl
theorem After.full (y : List Bool) : After y y.length = List.replicate y.length false := by simp [After]
theorem After.step {y : List Bool} {k : Nat} (h : k < y.length) (b : Bool) : (List.replicate k false ++ b :: y.drop (k + 1)).set k false = After y (k + 1) := by
  have e : (List.replicate k false ++ b :: y.drop (k + 1)).set k false = List.replicate k false ++ false :: y.drop (k + 1) := by
    rw [List.set_append_right _ _ (by simp)]
    simp
  rw [e]
  unfold After
  rw [List.replicate_succ', List.append_assoc]
  rfl
theorem After.cons {y : List Bool} {k : Nat} (h : k < y.length) : After y k = List.replicate k false ++ y.getD k false :: y.drop (k + 1) := by
  unfold After
  rw [List.drop_eq_getElem_cons h]
  simp [List.getD, List.getElem?_eq_getElem h]
theorem After.set {y : List Bool} {k : Nat} (h : k < y.length) : (After y k).set k false = After y (k + 1) := by
  rw [After.cons h, After.step h]
theorem After.pass {y : List Bool} {k : Nat} (h : k < y.length) (hy : y.getD k false = false) : After y k = After y (k + 1) := by
  rw [After.cons h, hy]
  unfold After
  rw [List.replicate_succ', List.append_assoc]
  rfl
theorem rep_getD (k i : Nat) (r : List Bool) (h : i < k) : (List.replicate k false ++ r).getD i false = false := by
  simp only [List.getD]
  rw [List.getElem?_append_left (by simpa using h)]
  simp [List.getElem?_replicate, h]
theorem After.next {y : List Bool} {k : Nat} (h : k < y.length) (hy : y.getD k false = true) : NextIs (After y k) 0 (some k) := by
  refine ⟨by omega, by rw [After.len (by omega)]; exact h, ?_, fun i _ hi => rep_getD k i _ hi⟩
  rw [After.cons h, hy]
  simp [List.getD]
theorem none_free (n : Nat) : NextIs (List.replicate n false) 0 none := fun k _ => by
  simp only [List.getD, List.getElem?_replicate]
  split <;> rfl
theorem count_none (n : Nat) : (List.replicate n false).count true = 0 := by simp [List.count_replicate]

theorem info_bool : (Tryd.prog.info? 4).map (fun i => (i.zero, i.size, i.bytes)) = some (some (.bool false), 1, 1) := by kernel_rfl
def RowB (w : World) (gb : Nat) (y : List Bool) : Prop := ∃ cs, Blk w gb 4 cs ∧ ∀ j, j < y.length → cs[j]? = some (.bool (y.getD j false))
theorem RowB.lt {w : World} {gb : Nat} {y : List Bool} (h : RowB w gb y) : gb < w.heap.size := by
  obtain ⟨cs, hb, _⟩ := h
  exact hb.lt
theorem RowB.cell {w : World} {gb : Nat} {y : List Bool} (h : RowB w gb y) {j : Nat} (hj : j < y.length) : w.cell? ⟨gb, j, none⟩ = some (.bool (y.getD j false)) := by
  obtain ⟨cs, hb, hc⟩ := h
  exact (hb.cell j).trans (hc j hj)
theorem RowB.free {w : World} {gb : Nat} {y : List Bool} (h : RowB w gb y) (j : Nat) : w.frozen? ⟨gb, j, none⟩ = false := by
  obtain ⟨cs, hb, hc⟩ := h
  exact hb.free j
theorem RowB.put {w : World} {gb : Nat} {y : List Bool} (h : RowB w gb y) {j : Nat} (hj : j < y.length) (v : Bool) : RowB (w.setCell ⟨gb, j, none⟩ (.bool v)) gb (y.set j v) := by
  obtain ⟨cs, hb, hc⟩ := h
  refine ⟨_, hb.put j _, fun i hi => ?_⟩
  rw [List.length_set] at hi
  by_cases hij : j = i
  · subst hij
    have hlt : j < cs.size := (Array.getElem?_eq_some_iff.1 (hc j hj)).1
    rw [pnum.getD_set_same _ _ _ _ hj]
    simp [hlt]
  · rw [pnum.getD_set_ne _ _ _ _ _ hij, Array.getElem?_setIfInBounds_ne hij]
    exact hc i hi
theorem RowB.only {S : Nat → Prop} {w w' : World} {gb : Nat} {y : List Bool} (h : RowB w gb y) (ho : Only S w w') (hn : ¬ S gb) : RowB w' gb y := by
  obtain ⟨cs, hb, hc⟩ := h
  exact ⟨cs, hb.only ho hn, hc⟩
theorem made_bools (w : World) (m : Nat) : RowB (w.alloc (.cells (madeCells #[.bool false] m) 4)) w.heap.size (List.replicate m false) := by
  obtain ⟨c, h1, h2, h3⟩ := World.rowIs_made w (.bool false) m 4
  refine ⟨c, h1, fun j hj => ?_⟩
  have hj' : j < m := by simpa using hj
  rw [h3 j hj']
  simp [List.getD, List.getElem?_replicate, hj']
theorem Up.alloc {w wr : World} {g gw : Nat} {x : List Bool} (h : Up w g gw x wr) (o : Obj) : Up w g gw x (wr.alloc o) := by
  have hb := made wr o
  obtain ⟨W, c, hp⟩ := h.at_
  exact ⟨⟨W, c, hp.below hb⟩, up h.below hb h.below.size, h.tab.below hb, h.ge⟩
theorem Up.far {w wr : World} {g gw : Nat} {x : List Bool} (h : Up w g gw x wr) {gb : Nat} (h1 : gb ≠ g) (h2 : gb ≠ gw) (h3 : w.heap.size ≤ gb) (h4 : 0 < gb) (j : Nat) (v : Value) : Up w g gw x (wr.setCell ⟨gb, j, none⟩ v) := by
  obtain ⟨W, c, hp⟩ := h.at_
  have ho : Only (fun k => k = gb) wr (wr.setCell ⟨gb, j, none⟩ v) := Only.setCell (p := ⟨gb, j, none⟩) (Only.refl (fun k => k = gb) wr) (Or.inl rfl) v
  refine ⟨⟨W, c, hp.blk.far (p := ⟨gb, j, none⟩) (fun e => h1 e.symm) v, hp.row.far (fun e => h2 e.symm) v, hp.bits, hp.le, hp.mx, hp.small, hp.pos⟩, h.below.setCell h3 v, h.tab.only ho (by omega), h.ge⟩
theorem Up.lts {w wr : World} {g gw : Nat} {x : List Bool} (h : Up w g gw x wr) : g < wr.heap.size ∧ gw < wr.heap.size := by
  obtain ⟨W, c, hp⟩ := h.at_
  obtain ⟨cs, hb, _⟩ := hp.row
  exact ⟨hp.blk.lt, hb.lt⟩
end Go.Proofs.YteecebklomeklaaDoor.po
