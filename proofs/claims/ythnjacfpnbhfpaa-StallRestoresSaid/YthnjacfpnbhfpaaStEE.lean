/-
  Stalls: rows that are handed in, opened.
-/
import Derived.Test.YthnjacfpnbhfpaaStDD
import Derived.Test.YthnjacfpnbhfpaaStructs
namespace Go.Proofs.Ythnjacfpnbhfpaa.st
open Go.ChangeShapes Go.WideShapes Go.ChangeAt Go.RowKit Go.Deep
open base (ret_bool ret_int made up Blk Only)
open rk mk
set_option linter.unusedVariables false
set_option linter.unusedSimpArgs false
variable {H : Type} {enc : TypeId × Value → H}

/-- as base.open_rows, for a slice that lies in a cell -/
theorem rows_trod {sp : Nat → Bool} {held : Bool} {bs n0 : Nat} {W : World} {t e : TypeId} {fs : Array Field} {v : Value} {yy : DataW H × List MemPlace} {P : Program}
    (ht : P.underlying t = some (.slice e)) (he : P.underlying e = some (.struct fs)) (hone : oneCellFields P fs = true) (hC : P.cellsOf e = fs.size) (hpos : 0 < fs.size)
    (hf : DataW.trod enc P W bs sp held n0 t [v] = some yy) :
    ∃ (A : Option Addr) (n cap : Nat), v = .slice A n cap ∧ n ≤ cap ∧ cap ≤ maxLen ∧ (0 < n → ∃ b off, A = some ⟨b, off, none⟩ ∧ b < W.heap.size ∧
      ∀ i, i < n → ∀ (j : Nat) (f : Field), fs[j]? = some f → ∃ (u : Value) (fuel : Nat) (y : DataW H × List MemPlace), W.cell? ⟨b, off + i * fs.size + j, none⟩ = some u ∧ DataW.trod enc P W bs sp held fuel f.type [u] = some y) := by
  rcases open_slice ht hf with ⟨hcs, hx⟩ | ⟨a, len', cap', m, n, D, Pl, hcs, hb, hl, hm, hmm, hx, hi⟩
  · simp at hcs
    subst hcs
    exact ⟨none, 0, 0, rfl, Nat.le_refl _, by unfold maxLen; omega, fun h => absurd h (by simp)⟩
  · simp at hcs
    subst hcs
    refine ⟨some a, len', cap', rfl, hl, hm, fun h0 => ?_⟩
    have hlm : len' ≤ m := by rw [hmm]; split <;> omega
    have key : ∀ i, i < m → ∀ (j : Nat) (f : Field), fs[j]? = some f → ∃ (u : Value) (fuel : Nat) (y : DataW H × List MemPlace), W.cell? (a.add (i * fs.size + j)) = some u ∧ DataW.trod enc P W bs sp held fuel f.type [u] = some y := by
      intro i him j f hj
      obtain ⟨cs', hc, ht'⟩ := hi i him
      rw [hC] at hc
      obtain ⟨ys, n', hn', hy, hlen, hyl, hf2⟩ := DataW.trod_struct he ht'
      obtain ⟨_, hcl, hat⟩ := World.cells?_some hc
      obtain ⟨ho, hk⟩ := Go.Deep.hone_of hone j f hj
      have hjl : j < fs.size := (Array.getElem?_eq_some_iff.1 hj).1
      have hcell := hat j hjl
      have hv : cs'[j]? = some (cs'[j]'(by omega)) := List.getElem?_eq_getElem (by omega)
      have h1 := hf2 j f hj
      rw [ho, hk] at h1
      have hone' : (cs'.drop j).take 1 = [cs'[j]'(by omega)] := by
        rw [List.drop_eq_getElem_cons (by omega)]
        rfl
      rw [hone'] at h1
      have hys : ys[j]? = some (ys[j]'(by omega)) := List.getElem?_eq_getElem (by omega)
      exact ⟨_, _, _, by rw [← Go.Deep.add_add, hcell, hv], h1.trans hys⟩
    obtain ⟨b, off, spot⟩ := a
    have hf0 : fs[0]? = some fs[0] := Array.getElem?_eq_getElem hpos
    obtain ⟨u0, _, _, g0, _⟩ := key 0 (by omega) 0 _ hf0
    have hspot : spot = none := by simpa [Addr.add] using World.cell?_spot g0
    subst hspot
    refine ⟨b, off, rfl, by have := World.block_lt_of_cell? W _ g0; simpa [Addr.add] using this, fun i hin j f hj => ?_⟩
    obtain ⟨u, fu, y, h1, h2⟩ := key i (by omega) j f hj
    rw [base.addr_add, ← Nat.add_assoc] at h1
    exact ⟨u, fu, y, h1, h2⟩
set_option maxRecDepth 100000 in
theorem goods_trod {sp : Nat → Bool} {held : Bool} {bs n0 : Nat} {W : World} {v : Value} {yy : DataW H × List MemPlace} (hf : DataW.trod enc Try.prog W bs sp held n0 45 [v] = some yy) :
    ∃ (A : Option Addr) (cap : Nat) (gs : List C2), v = .slice A gs.length cap ∧ Lay E2 W A gs ∧ ∀ x, x ∈ gs → (Lit.int .i64 x.1).wf = true := by
  obtain ⟨A, n, cap, rfl, h1, h2, h3⟩ := rows_trod Try.underlying45 Try.underlying56 (by kernel_rfl) (by kernel_rfl) (by decide) hf
  by_cases h0 : 0 < n
  · obtain ⟨b, off, rfl, hlt, hc⟩ := h3 h0
    have key : ∀ i, ∃ d : C2, i < n → (W.cell? ⟨b, off + i * 2, none⟩ = some (.int .i64 d.1) ∧ W.cell? ⟨b, off + i * 2 + 1, none⟩ = some (.int .i64 d.2)) ∧ (Lit.int .i64 d.1).wf = true := by
      intro i
      by_cases hin : i < n
      · obtain ⟨u, fu, y, g1, g2⟩ := hc i hin 0 _ rfl
        obtain ⟨z, e1, _, e2⟩ := DataW.trod_int Try.underlying3 g2
        simp at e1
        subst e1
        obtain ⟨u', fu', y', g1', g2'⟩ := hc i hin 1 _ rfl
        obtain ⟨z', e1', _, e2'⟩ := DataW.trod_int Try.underlying3 g2'
        simp at e1'
        subst e1'
        exact ⟨(z, z'), fun _ => ⟨⟨g1, g1'⟩, e2⟩⟩
      · exact ⟨(0, 0), fun hh => absurd hh hin⟩
    have hlen : ((List.range n).map (fun i => (key i).choose)).length = n := by simp
    refine ⟨some ⟨b, off, none⟩, cap, (List.range n).map (fun i => (key i).choose), by rw [hlen], fun _ => ⟨b, off, rfl, hlt, fun i hi j hj => ?_⟩, fun d hd => ?_⟩
    · have hi2 : i < n := by simpa using hi
      obtain ⟨⟨g0, g1⟩, _⟩ := (key i).choose_spec hi2
      simp only [List.getElem_map, List.getElem_range]
      have hj2 : j < 2 := hj
      rcases j with _ | _ | j
      · exact g0
      · exact g1
      · omega
    · obtain ⟨i, hi, rfl⟩ := List.mem_map.1 hd
      exact ((key i).choose_spec (by simpa using hi)).2
  · have : n = 0 := by omega
    subst this
    exact ⟨A, cap, [], rfl, fun h => absurd h (by simp), fun d hd => (by cases hd)⟩
set_option maxRecDepth 100000 in
theorem open_drows {sp : Nat → Bool} {held : Bool} {bs b0 : Nat} {r : Reach} {W : World} {v : Value} {d : DataW H} {ps : List MemPlace}
    (hval : Value.okWide Try.prog W r b0 51 v) (h : DataW.Trod enc Try.prog W bs sp held 51 v d ps) :
    ∃ (A : Option Addr) (cap : Nat) (D : List DR), v = .slice A D.length cap ∧ D.length ≤ cap ∧ cap ≤ maxLen ∧ RowsIn W A D := by
  obtain ⟨A, n, cap, rfl, h1, h2, h3⟩ := base.open_rows Try.underlying51 Try.underlying47 (by kernel_rfl) (by kernel_rfl) (by decide) hval h
  by_cases h0 : 0 < n
  · obtain ⟨b, off, rfl, hlt, hc⟩ := h3 h0
    have key : ∀ i, ∃ d : DR, i < n → (W.cell? ⟨b, off + i * 3, none⟩ = some (.int .i64 d.1.1) ∧ W.cell? ⟨b, off + i * 3 + 1, none⟩ = some (.int .i64 d.1.2.1) ∧ W.cell? ⟨b, off + i * 3 + 2, none⟩ = some (.slice d.1.2.2.1 d.1.2.2.2.1 d.1.2.2.2.2)) ∧ Lay E2 W d.1.2.2.1 d.2 ∧ d.1.2.2.2.1 = d.2.length ∧ (Lit.int .i64 d.1.1).wf = true ∧ ∀ x, x ∈ d.2 → (Lit.int .i64 x.1).wf = true := by
      intro i
      by_cases hin : i < n
      · obtain ⟨u, fu, y, g1, g2⟩ := hc i hin 0 _ rfl
        obtain ⟨z, e1, _, e2⟩ := DataW.trod_int Try.underlying3 g2
        simp at e1
        subst e1
        obtain ⟨u', fu', y', g1', g2'⟩ := hc i hin 1 _ rfl
        obtain ⟨z', e1', _, e2'⟩ := DataW.trod_int Try.underlying3 g2'
        simp at e1'
        subst e1'
        obtain ⟨u'', fu'', y'', g1'', g2''⟩ := hc i hin 2 _ rfl
        obtain ⟨A', ca, gs, rfl, hn, hx⟩ := goods_trod g2''
        exact ⟨((z, z', A', gs.length, ca), gs), fun _ => ⟨⟨g1, g1', g1''⟩, hn, rfl, e2, hx⟩⟩
      · exact ⟨((0, 0, none, 0, 0), []), fun hh => absurd hh hin⟩
    have hlen : ((List.range n).map (fun i => (key i).choose)).length = n := by simp
    refine ⟨some ⟨b, off, none⟩, cap, (List.range n).map (fun i => (key i).choose), by rw [hlen], by rw [hlen]; exact h1, h2, ⟨fun _ => ⟨b, off, rfl, hlt, fun i hi j hj => ?_⟩, fun d hd => ?_⟩⟩
    · have hi2 : i < n := by simpa using hi
      obtain ⟨⟨g0, g1, g2⟩, _⟩ := (key i).choose_spec hi2
      simp only [List.getElem_map, List.getElem_range]
      have hj2 : j < 3 := hj
      rcases j with _ | _ | _ | j
      · exact g0
      · exact g1
      · exact g2
      · omega
    · obtain ⟨i, hi, rfl⟩ := List.mem_map.1 hd
      exact ((key i).choose_spec (by simpa using hi)).2
  · have : n = 0 := by omega
    subst this
    exact ⟨A, cap, [], rfl, h1, h2, ⟨fun h => absurd h (by simp), fun d hd => (by cases hd)⟩⟩
end Go.Proofs.Ythnjacfpnbhfpaa.st
