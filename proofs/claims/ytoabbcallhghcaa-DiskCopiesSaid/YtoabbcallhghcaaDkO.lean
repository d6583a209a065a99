/-
  The calls that are handed in, opened; small.
-/
import Derived.Test.YtoabbcallhghcaaDkE
import Derived.Test.YtoabbcallhghcaaStructs
import Derived.Lib.SmallJoins
namespace Go.Proofs.Ytoabbcallhghcaa.dk
open Go.ChangeShapes Go.WideShapes Go.ChangeAt Go.RowKit Go.Deep
open base (ret_bool ret_int made up Blk Only Nums)
open rk (Enc)
open mk
open bytes (Small ints)
set_option linter.unusedVariables false
set_option linter.unusedSimpArgs false

structure OP where
  k : Int
  s : Int
  n : Int
  D : Option Addr
  dc : Nat
  dl : List Nat
  K : Option Addr
  kc : Nat
  kl : List Int
  t : Int
  z : Int
def OP.cells (o : OP) : List Value := [.int .i64 o.k, .int .i64 o.s, .int .i64 o.n, .slice o.D o.dl.length o.dc, .slice o.K o.kl.length o.kc, .int .i64 o.t, .int .i64 o.z]
structure OP.Ok (W : World) (o : OP) : Prop where
  lay : bytes.Lay W o.D o.dl
  small : Small o.dl
  keep : rk.Lay E1 W o.K o.kl
  wk : (Lit.int .i64 o.k).wf = true
  ws : (Lit.int .i64 o.s).wf = true
  wn : (Lit.int .i64 o.n).wf = true
  wt : (Lit.int .i64 o.t).wf = true
  wz : (Lit.int .i64 o.z).wf = true
  wl : ∀ x ∈ o.kl, (Lit.int .i64 x).wf = true
  dle : o.dl.length ≤ o.dc
  dcm : o.dc ≤ 9223372036854775807
  kle : o.kl.length ≤ o.kc
  kcm : o.kc ≤ 9223372036854775807
def EO : Enc OP := ⟨fun o => o.cells, 7, by decide, fun _ => rfl, by
  intro x v hv
  simp only [OP.cells, List.mem_cons, List.not_mem_nil, or_false] at hv
  rcases hv with rfl | rfl | rfl | rfl | rfl | rfl | rfl <;> rfl⟩
section
variable {H : Type} {enc : TypeId × Value → H}
theorem nums_trod {sp : Nat → Bool} {held : Bool} {bs n0 : Nat} {W : World} {t e : TypeId} {k : IntKind} {v : Value} {yy : DataW H × List MemPlace} {P : Program}
    (ht : P.underlying t = some (.slice e)) (he : P.underlying e = some (.int k)) (hc : P.cellsOf e = 1) (hf : DataW.trod enc P W bs sp held n0 t [v] = some yy) :
    ∃ (A : Option Addr) (cap : Nat) (zs : List Int), v = .slice A zs.length cap ∧ zs.length ≤ cap ∧ cap ≤ maxLen ∧ Nums k W A zs ∧ ∀ n ∈ zs, (Lit.int k n).wf = true := by
  rcases open_ints ht he hc hf with ⟨hcs, hx⟩ | ⟨a, len', cap', zs, hcs, _, hl, hm, hz, hx, hcell, hwz⟩
  · simp at hcs
    subst hcs
    exact ⟨none, 0, [], rfl, Nat.le_refl _, by unfold maxLen; omega, fun h => absurd h (by simp), by simp⟩
  · simp at hcs
    subst hcs
    have hle : len' ≤ zs.length := by rw [hz]; split <;> omega
    have hlen : (zs.take len').length = len' := by rw [List.length_take]; omega
    refine ⟨some a, cap', zs.take len', by rw [hlen], by omega, hm, ?_, fun n hn => hwz n (List.mem_of_mem_take hn)⟩
    intro h0
    obtain ⟨b, off, spot⟩ := a
    have g0 := hcell 0 (by omega)
    have hspot : spot = none := by simpa [Addr.add] using World.cell?_spot g0
    subst hspot
    refine ⟨b, off, rfl, by have := World.block_lt_of_cell? W _ g0; simpa [Addr.add] using this, fun j hj => ?_⟩
    have := hcell j (by omega)
    rw [base.addr_add] at this
    rw [this]
    have hj' : j < len' := by omega
    simp [List.getD, hj']
theorem ints_trod {sp : Nat → Bool} {held : Bool} {bs n0 : Nat} {W : World} {v : Value} {yy : DataW H × List MemPlace}
    (hf : DataW.trod enc Try.prog W bs sp held n0 30 [v] = some yy) :
    ∃ (A : Option Addr) (cap : Nat) (zs : List Int), v = .slice A zs.length cap ∧ zs.length ≤ cap ∧ cap ≤ 9223372036854775807 ∧ rk.Lay E1 W A zs ∧ ∀ n ∈ zs, (Lit.int .i64 n).wf = true := by
  obtain ⟨A, cap, zs, rfl, h1, h2, h3, h4⟩ := nums_trod Try.underlying30 Try.underlying3 (by kernel_rfl) hf
  refine ⟨A, cap, zs, rfl, h1, by unfold maxLen at h2; omega, fun h0 => ?_, h4⟩
  obtain ⟨b, off, e, hb, hc⟩ := h3 h0
  refine ⟨b, off, e, hb, fun i hi j hj => ?_⟩
  have hj1 : j < 1 := hj
  obtain rfl : j = 0 := by omega
  have := hc i hi
  rw [show off + i * E1.k + 0 = off + i by show off + i * 1 + 0 = _; omega, this]
  simp [E1, List.getD, hi]
theorem bytes_trod {sp : Nat → Bool} {held : Bool} {bs n0 : Nat} {W : World} {v : Value} {yy : DataW H × List MemPlace}
    (hf : DataW.trod enc Try.prog W bs sp held n0 29 [v] = some yy) :
    ∃ (A : Option Addr) (cap : Nat) (l : List Nat), v = .slice A l.length cap ∧ l.length ≤ cap ∧ cap ≤ 9223372036854775807 ∧ bytes.Lay W A l ∧ Small l := by
  obtain ⟨A, cap, zs, rfl, h1, h2, h3, h4⟩ := nums_trod Try.underlying29 Try.underlying5 (by kernel_rfl) hf
  have hz : ∀ n ∈ zs, 0 ≤ n ∧ n < 256 := fun n hn => by
    have := h4 n hn
    simp [Lit.wf, IntKind.min, IntKind.max, IntKind.signed, IntKind.bits] at this
    omega
  have e : ints (zs.map Int.toNat) = zs := by
    unfold ints
    rw [List.map_map]
    conv => rhs; rw [← List.map_id zs]
    apply List.map_congr_left
    intro n hn
    have := hz n hn
    simp
    omega
  refine ⟨A, cap, zs.map Int.toNat, by rw [List.length_map], by rw [List.length_map]; exact h1, by unfold maxLen at h2; omega, ?_, fun c hc => ?_⟩
  · unfold bytes.Lay
    rw [e]
    exact h3
  · obtain ⟨n, hn, rfl⟩ := List.mem_map.1 hc
    have := hz n hn
    omega
theorem one_int {sp : Nat → Bool} {held : Bool} {bs n0 : Nat} {W : World} {v : Value} {yy : DataW H × List MemPlace}
    (hf : DataW.trod enc Try.prog W bs sp held n0 3 [v] = some yy) : ∃ a, v = .int .i64 a ∧ (Lit.int .i64 a).wf = true := by
  obtain ⟨a, h1, _, h2⟩ := DataW.trod_int Try.underlying3 hf
  simp at h1
  exact ⟨a, h1, h2⟩
theorem c_int : Try.prog.cellsOf 3 = 1 := by kernel_rfl
theorem c_bytes : Try.prog.cellsOf 29 = 1 := by kernel_rfl
theorem c_ints : Try.prog.cellsOf 30 = 1 := by kernel_rfl
theorem c_loss : Try.prog.cellsOf 32 = 3 := by kernel_rfl
theorem c_op : Try.prog.cellsOf 34 = 7 := by kernel_rfl
theorem loss_cells {sp : Nat → Bool} {held : Bool} {bs n0 : Nat} {W : World} {cs : List Value} {yy : DataW H × List MemPlace}
    (hf : DataW.trod enc Try.prog W bs sp held n0 32 cs = some yy) :
    ∃ (K : Option Addr) (kc : Nat) (kl : List Int) (t z : Int), cs = [.slice K kl.length kc, .int .i64 t, .int .i64 z] ∧ kl.length ≤ kc ∧ kc ≤ 9223372036854775807 ∧ rk.Lay E1 W K kl ∧ (∀ n ∈ kl, (Lit.int .i64 n).wf = true) ∧ (Lit.int .i64 t).wf = true ∧ (Lit.int .i64 z).wf = true := by
  obtain ⟨ys, n', hn', hy, hlen, hyl, hf2⟩ := DataW.trod_struct Try.underlying32 hf
  have hC : cs.length = 3 := hlen.trans c_loss
  match cs, hC, ys, hyl with
  | [c0, c1, c2], _, [y0, y1, y2], _ =>
    have f0 := hf2 0 _ rfl
    have f1 := hf2 1 _ rfl
    have f2 := hf2 2 _ rfl
    simp only [c_int, c_ints, List.drop_zero, List.drop_succ_cons, List.take_succ_cons, List.take_zero, List.getElem?_cons_zero, List.getElem?_cons_succ] at f0 f1 f2
    obtain ⟨K, kc, kl, rfl, h1, h2, h3, h4⟩ := ints_trod f0
    obtain ⟨t, rfl, h5⟩ := one_int f1
    obtain ⟨z, rfl, h6⟩ := one_int f2
    exact ⟨K, kc, kl, t, z, rfl, h1, h2, h3, h4, h5, h6⟩
theorem op_cells {sp : Nat → Bool} {held : Bool} {bs n0 : Nat} {W : World} {cs : List Value} {yy : DataW H × List MemPlace}
    (hf : DataW.trod enc Try.prog W bs sp held n0 34 cs = some yy) : ∃ o : OP, cs = o.cells ∧ o.Ok W := by
  obtain ⟨ys, n', hn', hy, hlen, hyl, hf2⟩ := DataW.trod_struct Try.underlying34 hf
  have hC : cs.length = 7 := hlen.trans c_op
  match cs, hC, ys, hyl with
  | [c0, c1, c2, c3, c4, c5, c6], _, [y0, y1, y2, y3, y4], _ =>
    have f0 := hf2 0 _ rfl
    have f1 := hf2 1 _ rfl
    have f2 := hf2 2 _ rfl
    have f3 := hf2 3 _ rfl
    have f4 := hf2 4 _ rfl
    simp only [c_int, c_bytes, c_loss, List.drop_zero, List.drop_succ_cons, List.take_succ_cons, List.take_zero, List.getElem?_cons_zero, List.getElem?_cons_succ] at f0 f1 f2 f3 f4
    obtain ⟨k, rfl, h0⟩ := one_int f0
    obtain ⟨s, rfl, h1⟩ := one_int f1
    obtain ⟨n, rfl, h2⟩ := one_int f2
    obtain ⟨D, dc, dl, rfl, d1, d2, d3, d4⟩ := bytes_trod f3
    obtain ⟨K, kc, kl, t, z, e, k1, k2, k3, k4, k5, k6⟩ := loss_cells f4
    have e : [c4, c5, c6] = [.slice K kl.length kc, .int .i64 t, .int .i64 z] := e
    injection e with e1 e
    injection e with e2 e
    injection e with e3 _
    subst e1 e2 e3
    exact ⟨⟨k, s, n, D, dc, dl, K, kc, kl, t, z⟩, rfl, ⟨d3, d4, k3, h0, h1, h2, k5, k6, k4, d1, d2, k1, k2⟩⟩
theorem open_ops {sp : Nat → Bool} {held : Bool} {bs b0 : Nat} {r : Reach} {W : World} {v : Value} {d : DataW H} {ps : List MemPlace}
    (hval : Value.okWide Try.prog W r b0 22 v) (h : DataW.Trod enc Try.prog W bs sp held 22 v d ps) :
    ∃ (A : Option Addr) (cap : Nat) (L : List OP), v = .slice A L.length cap ∧ L.length ≤ cap ∧ cap ≤ maxLen ∧ rk.Lay EO W A L ∧ ∀ o ∈ L, o.Ok W := by
  obtain ⟨a0, len, cap, rfl⟩ := okWide_slice Try.underlying22 hval
  obtain ⟨fuel, hf⟩ := h
  rcases open_slice Try.underlying22 hf with ⟨hcs, hx⟩ | ⟨a, len', cap', m, n, D, Pl, hcs, hb, hl, hm, hmm, hx, hi⟩
  · simp [Value.cells] at hcs
    obtain ⟨rfl, rfl, rfl⟩ := hcs
    exact ⟨none, 0, [], rfl, Nat.le_refl _, by unfold maxLen; omega, rk.Lay.nil _ _ _, fun o ho => (by cases ho)⟩
  · simp [Value.cells] at hcs
    obtain ⟨rfl, rfl, rfl⟩ := hcs
    have hlm : len ≤ m := by rw [hmm]; split <;> omega
    have key0 : ∀ i, ∃ o : OP, i < m → o.Ok W ∧ ∀ j, j < 7 → W.cell? (a.add (i * 7 + j)) = o.cells[j]? := by
      intro i
      by_cases him : i < m
      · obtain ⟨cs', hc, ht'⟩ := hi i him
        rw [c_op] at hc
        obtain ⟨o, rfl, ho⟩ := op_cells ht'
        obtain ⟨_, hcl, hat⟩ := World.cells?_some hc
        refine ⟨o, fun _ => ⟨ho, fun j hj => ?_⟩⟩
        rw [← Go.Deep.add_add, hat j hj]
      · exact ⟨⟨0, 0, 0, none, 0, [], none, 0, [], 0, 0⟩, fun h => absurd h him⟩
    by_cases h0 : 0 < len
    · obtain ⟨b, off, spot⟩ := a
      have g0 := ((key0 0).choose_spec (by omega)).2 0 (by omega)
      have hspot : spot = none := by
        have g1 : W.cell? ((⟨b, off, spot⟩ : Addr).add (0 * 7 + 0)) = some (.int .i64 (key0 0).choose.k) := g0
        simpa [Addr.add] using World.cell?_spot g1
      subst hspot
      have hblt : b < W.heap.size := by
        have g1 : W.cell? ((⟨b, off, none⟩ : Addr).add (0 * 7 + 0)) = some (.int .i64 (key0 0).choose.k) := g0
        have := World.block_lt_of_cell? W _ g1
        simpa [Addr.add] using this
      have hlen : ((List.range len).map (fun i => (key0 i).choose)).length = len := by simp
      refine ⟨some ⟨b, off, none⟩, cap, (List.range len).map (fun i => (key0 i).choose), by rw [hlen], by rw [hlen]; exact hl, hm, fun _ => ⟨b, off, rfl, hblt, fun i hi j hj => ?_⟩, fun o ho => ?_⟩
      · have hi2 : i < len := by simpa using hi
        obtain ⟨_, q⟩ := (key0 i).choose_spec (by omega)
        simp only [List.getElem_map, List.getElem_range]
        have := q j hj
        rw [base.addr_add, ← Nat.add_assoc] at this
        exact this
      · obtain ⟨i, hi, rfl⟩ := List.mem_map.1 ho
        have hi2 : i < len := by simpa using hi
        exact ((key0 i).choose_spec (by omega)).1
    · obtain rfl : len = 0 := by omega
      exact ⟨some a, cap, [], rfl, by simp, hm, rk.Lay.nil _ _ _, fun o ho => (by cases ho)⟩
theorem open_loss {sp : Nat → Bool} {held : Bool} {bs b0 : Nat} {r : Reach} {W : World} {v : Value} {d : DataW H} {ps : List MemPlace}
    (hval : Value.okWide Try.prog W r b0 32 v) (h : DataW.Trod enc Try.prog W bs sp held 32 v d ps) :
    ∃ (K : Option Addr) (kc : Nat) (kl : List Int) (t z : Int), v = .agg #[.slice K kl.length kc, .int .i64 t, .int .i64 z] ∧ kl.length ≤ kc ∧ kc ≤ 9223372036854775807 ∧ rk.Lay E1 W K kl ∧ (∀ n ∈ kl, (Lit.int .i64 n).wf = true) ∧ (Lit.int .i64 t).wf = true ∧ (Lit.int .i64 z).wf = true := by
  obtain ⟨v0, v1, v2, y0, y1, y2, n, rfl, _, _, g0, g1, g2⟩ := Joins.open_agg3 Try.underlying32 (by kernel_rfl) (by kernel_rfl) hval h
  obtain ⟨K, kc, kl, rfl, h1, h2, h3, h4⟩ := ints_trod g0
  obtain ⟨t, rfl, h5⟩ := one_int g1
  obtain ⟨z, rfl, h6⟩ := one_int g2
  exact ⟨K, kc, kl, t, z, rfl, h1, h2, h3, h4, h5, h6⟩
end
end Go.Proofs.Ytoabbcallhghcaa.dk
