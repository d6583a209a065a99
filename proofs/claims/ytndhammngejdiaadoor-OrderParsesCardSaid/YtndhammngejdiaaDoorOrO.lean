/-
  Orders: what is handed in, opened; the table of fields as the program lays it.
-/
import Derived.Test.YtndhammngejdiaaDoorOrK
import Derived.Test.YtndhammngejdiaaDoorStructs
import Derived.Test.YtndhammngejdiaaDoorCards
import Derived.Test.YtndhammngejdiaaDoorTie
import Derived.Deep.DeepHandedRow
import Derived.Lib.LaidTab
import Derived.Lib.SmallJoins

namespace Go.Proofs.YtndhammngejdiaaDoor.od
open Go.ChangeShapes Go.WideShapes Go.ChangeAt Go.RowKit Go.Deep Go.Lib
open base (ret_bool ret_int made up Blk Only Nums)
open bytes (Small small_nil Lay By str)
set_option linter.unusedVariables false
set_option linter.unusedSimpArgs false
section
variable {H : Type} {en : TypeId × Value → H}
theorem one_int {t : TypeId} (ht : Tryd.prog.underlying t = some (.int .i64)) {sp : Nat → Bool} {held : Bool} {bs n0 : Nat} {W : World} {v : Value} {yy : DataW H × List MemPlace}
    (hf : DataW.trod en Tryd.prog W bs sp held n0 t [v] = some yy) : ∃ a, v = .int .i64 a ∧ (Lit.int .i64 a).wf = true := by
  obtain ⟨a, h1, _, h2⟩ := DataW.trod_int ht hf
  simp at h1
  exact ⟨a, h1, h2⟩
theorem one_str {sp : Nat → Bool} {held : Bool} {bs n0 : Nat} {W : World} {v : Value} {yy : DataW H × List MemPlace}
    (hf : DataW.trod en Tryd.prog W bs sp held n0 9 [v] = some yy) : ∃ s, v = .string s ∧ s.size ≤ maxLen := by
  obtain ⟨s, h1, _, h2⟩ := DataW.trod_string Tryd.underlying9 hf
  simp at h1
  exact ⟨s, h1, h2⟩
theorem nums_trod {sp : Nat → Bool} {held : Bool} {bs n0 : Nat} {W : World} {t e : TypeId} {k : IntKind} {v : Value} {yy : DataW H × List MemPlace} {P : Program}
    (ht : P.underlying t = some (.slice e)) (he : P.underlying e = some (.int k)) (hc : P.cellsOf e = 1) (hf : DataW.trod en P W bs sp held n0 t [v] = some yy) :
    ∃ (A : Option Addr) (cap : Nat) (zs : List Int), v = .slice A zs.length cap ∧ zs.length ≤ cap ∧ cap ≤ maxLen ∧ Nums k W A zs ∧ ∀ n ∈ zs, (Lit.int k n).wf = true := by
  rcases open_ints ht he hc hf with ⟨hcs, hx⟩ | ⟨a, len', cap', zs, hcs, _, hl, hm, hz, hx, hcell, hwz⟩
  · simp at hcs
    subst hcs
    exact ⟨none, 0, [], rfl, Nat.le_refl _, by unfold maxLen; omega, fun h => absurd h (by simp), by simp⟩
  · simp at hcs
    subst hcs
    have hle : len' ≤ zs.length := by rw [hz]; split <;> omega
    have hlen : (zs.take len').length = len' := by rw [List.length_take]; omega
    refine ⟨some a, cap', zs.take len', by rw [hlen], by omega, hm, ?_, fun n hn => hwz n (List.mem_of_mem_take hn)⟩
    intro h0
    obtain ⟨b, off, spot⟩ := a
    have g0 := hcell 0 (by omega)
    have hspot : spot = none := by simpa [Addr.add] using World.cell?_spot g0
    subst hspot
    refine ⟨b, off, rfl, by have := World.block_lt_of_cell? W _ g0; simpa [Addr.add] using this, fun j hj => ?_⟩
    have := hcell j (by omega)
    rw [base.addr_add] at this
    rw [this]
    have hj' : j < len' := by omega
    simp [List.getD, hj']
theorem open_reply {sp : Nat → Bool} {held : Bool} {bs b0 : Nat} {r : Reach} {W : World} {v : Value} {d : DataW H} {ps : List MemPlace}
    (hval : Value.okWide Tryd.prog W r b0 44 v) (h : DataW.Trod en Tryd.prog W bs sp held 44 v d ps) :
    ∃ (e n : Int) (A : Option Addr) (c : Nat) (zs : List Int), v = .agg #[.int .i64 e, .int .i64 n, .slice A zs.length c] ∧ W64 e ∧ W64 n ∧ Nums .i64 W A zs ∧ (∀ z ∈ zs, vi.I64 z) ∧ zs.length ≤ c ∧ c ≤ maxLen := by
  obtain ⟨v0, v1, v2, y0, y1, y2, n, rfl, _, _, g0, g1, g2⟩ := Joins.open_agg3 Tryd.underlying44 (by kernel_rfl) (by kernel_rfl) hval h
  obtain ⟨x, rfl, h5⟩ := one_int Tryd.underlying33 g0
  obtain ⟨y, rfl, h6⟩ := one_int Tryd.underlying3 g1
  obtain ⟨A, c, zs, rfl, d1, d2, d3, d4⟩ := nums_trod Tryd.underlying42 Tryd.underlying3 c_int g2
  exact ⟨x, y, A, c, zs, rfl, wf_i64 h5, wf_i64 h6, d3, fun z hz => wf_i64 (d4 z hz), d1, d2⟩
theorem ord_cells {sp : Nat → Bool} {held : Bool} {bs n0 : Nat} {W : World} {cs : List Value} {yy : DataW H × List MemPlace}
    (hf : DataW.trod en Tryd.prog W bs sp held n0 23 cs = some yy) : ∃ (w k a b c d : Int) (t : ByteArray), cs = [.int .i64 w, .int .i64 k, .int .i64 a, .int .i64 b, .int .i64 c, .int .i64 d, .string t] ∧
      (Lit.int .i64 w).wf = true ∧ (Lit.int .i64 k).wf = true ∧ (Lit.int .i64 a).wf = true ∧ (Lit.int .i64 b).wf = true ∧ (Lit.int .i64 c).wf = true ∧ (Lit.int .i64 d).wf = true ∧ t.size ≤ maxLen := by
  obtain ⟨ys, n', hn', hy, hlen, hyl, hf2⟩ := DataW.trod_struct Tryd.underlying23 hf
  have hC : cs.length = 7 := hlen.trans c_ord
  match cs, hC, ys, hyl with
  | [c0, c1, c2, c3, c4, c5, c6], _, [y0, y1, y2, y3, y4, y5, y6], _ =>
    have f0 := hf2 0 _ rfl
    have f1 := hf2 1 _ rfl
    have f2 := hf2 2 _ rfl
    have f3 := hf2 3 _ rfl
    have f4 := hf2 4 _ rfl
    have f5 := hf2 5 _ rfl
    have f6 := hf2 6 _ rfl
    simp only [List.getElem_toArray, List.getElem_cons_zero, List.getElem_cons_succ, c_int, c_str, List.drop_zero, List.drop_succ_cons, List.take_succ_cons, List.take_zero, List.getElem?_cons_zero, List.getElem?_cons_succ] at f0 f1 f2 f3 f4 f5 f6
    obtain ⟨w, rfl, h0⟩ := one_int Tryd.underlying3 f0
    obtain ⟨k, rfl, h1⟩ := one_int Tryd.underlying3 f1
    obtain ⟨a, rfl, h2⟩ := one_int Tryd.underlying3 f2
    obtain ⟨b, rfl, h3⟩ := one_int Tryd.underlying3 f3
    obtain ⟨c, rfl, h4⟩ := one_int Tryd.underlying3 f4
    obtain ⟨d, rfl, h5⟩ := one_int Tryd.underlying3 f5
    obtain ⟨t, rfl, h6⟩ := one_str f6
    exact ⟨w, k, a, b, c, d, t, rfl, h0, h1, h2, h3, h4, h5, h6⟩
theorem open_cmd {sp : Nat → Bool} {held : Bool} {bs b0 : Nat} {r : Reach} {W : World} {v : Value} {d : DataW H} {ps : List MemPlace}
    (hval : Value.okWide Tryd.prog W r b0 25 v) (h : DataW.Trod en Tryd.prog W bs sp held 25 v d ps) :
    ∃ x : Cm, v = .agg #[.int .i64 x.s, .int .i64 x.w, .int .i64 x.k, .int .i64 x.a, .int .i64 x.b, .int .i64 x.c, .int .i64 x.d, .string x.t, .string x.l] ∧ x.Ok := by
  obtain ⟨cs, rfl, hsz⟩ := okWide_struct Tryd.underlying25 hval
  obtain ⟨fuel, hf⟩ := h
  obtain ⟨ys, n', hn', hy, hlen, hyl, hf2⟩ := DataW.trod_struct Tryd.underlying25 hf
  have hC : cs.toList.length = 9 := by rw [Array.length_toList]; exact hsz.trans c_cmd
  obtain ⟨cl⟩ := cs
  simp only [Value.cells] at hf2
  simp only at hC
  match cl, hC, ys, hyl with
  | [c0, c1, c2, c3, c4, c5, c6, c7, c8], _, [y0, y1, y2], _ =>
    have f0 := hf2 0 _ rfl
    have f1 := hf2 1 _ rfl
    have f2 := hf2 2 _ rfl
    simp only [List.getElem_toArray, List.getElem_cons_zero, List.getElem_cons_succ, c_int, c_str, c_ord, List.drop_zero, List.drop_succ_cons, List.take_succ_cons, List.take_zero, List.getElem?_cons_zero, List.getElem?_cons_succ] at f0 f1 f2
    obtain ⟨s, rfl, h0⟩ := one_int Tryd.underlying3 f0
    obtain ⟨w, k, a, b, c, d, t, he, h1, h2, h3, h4, h5, h6, h7⟩ := ord_cells f1
    obtain ⟨l, rfl, h8⟩ := one_str f2
    simp only [List.cons.injEq, and_true] at he
    obtain ⟨rfl, rfl, rfl, rfl, rfl, rfl, rfl⟩ := he
    exact ⟨⟨s, w, k, a, b, c, d, t, l⟩, rfl, ⟨h0, h1, h2, h3, h4, h5, h6, h7, h8⟩⟩
theorem cells_of_strs {W : World} {base : Nat} {sp : Nat → Bool} {held : Bool} {fuel : Nat} {P : Program} {t e : TypeId} {n : Nat} {cs : List Value} {zs : List (List UInt8)} {p : List MemPlace}
    (ht : P.underlying t = some (.array n e)) (he : P.underlying e = some .string) (hce : P.cellsOf e = 1) (hct : P.cellsOf t = n)
    (h : DataW.trod en P W base sp held fuel t cs = some (.agg (zs.map fun z => .lit (.string z)), p)) : cs = zs.map fun z => Value.string ⟨z.toArray⟩ := by
  cases fuel with
  | zero => simp [DataW.trod] at h
  | succ fuel =>
    simp only [DataW.trod, ht, hce, hct, Nat.mul_one] at h
    split at h
    · rename_i hl
      obtain ⟨xs, hm, hx⟩ := Option.map_eq_some_iff.1 h
      have hxs : xs.map (·.1) = zs.map fun z => (DataW.lit (.string z) : DataW H) := by
        have := congrArg Prod.fst hx
        simpa using this
      have hxl : xs.length = n := by simpa using mapM_length hm
      have hzl : zs.length = n := by
        have := congrArg List.length hxs
        simp at this
        omega
      apply List.ext_getElem?
      intro i
      by_cases hi : i < n
      · obtain ⟨b, hb, hf⟩ := mapM_at hm i i (by simp [hi])
        obtain ⟨z, hc, rfl, _⟩ := DataW.trod_string he hf
        have h1 : cs[i]? = some (.string z) := by
          have := congrArg (·[0]?) hc
          simpa [List.getElem?_take, List.getElem?_drop] using this
        have h2 : (xs.map (·.1))[i]? = some (DataW.lit (.string z.data.toList) : DataW H) := by simp [hb]
        rw [hxs] at h2
        simp only [List.getElem?_map, Option.map_eq_some_iff, DataW.lit.injEq, Lit.string.injEq] at h2
        obtain ⟨z', hz', he'⟩ := h2
        subst he'
        simp [h1, hz']
      · rw [List.getElem?_eq_none (by omega), List.getElem?_eq_none (by simp; omega)]
    · cases h
end
theorem gTab : Tryd.prog.globalNamed "deedhold/order.fields" = some 0 := by kernel_rfl
theorem gTabType : (Tryd.prog.globals[0]?).map (·.type) = some 75 := by kernel_rfl
theorem cells28 : Tryd.prog.cellsOf 75 = 28 := by kernel_rfl
def fu : List (List UInt8) := [[], [84], [65, 66], [65, 66], [65, 66, 67, 68], [65], [65, 66], [65, 66, 67, 68], [84], [65], [65, 66], [65, 66, 67], [65], [65], [65, 66, 67], [65], [65], [65], [65, 66], [65, 66, 67], [65, 66], [65, 66], [65, 66, 67, 68], [65], [], [65], [65, 66], []]
theorem fu_fl : ∀ k : Fin 28, (⟨(fu.getD k.1 []).toArray⟩ : ByteArray) = str (fl.getD k.1 []) := by decide
theorem tableOf {W : World} (h : laidMetH Tryd.prog [("deedhold/order.fields", Rows.laid_deedhold_order_fields)] W) : Tab W := by
  obtain ⟨ps, ⟨g', t', cs, fuel, p, q, hg', ht', hvar, hd, _, _⟩, _⟩ := h
  obtain rfl := Option.some.inj (gTab.symm.trans hg')
  obtain rfl := Option.some.inj (gTabType.symm.trans ht')
  have hcs := cells_of_strs (zs := fu) Tryd.underlying75 Tryd.underlying9 c_str cells28 hd
  have c : ∀ k, k < 28 → W.cell? ⟨0, k, none⟩ = some (.string (str (fl.getD k []))) := by
    intro k hk
    rw [World.var?_cell gTab hvar k]
    have e := fu_fl ⟨k, hk⟩
    simp only at e
    rw [← e]
    have : cs[k]? = (cs.toList)[k]? := by simp
    rw [this, hcs]
    have hk2 : k < fu.length := by show k < 28; exact hk
    simp [List.getD, List.getElem?_eq_getElem hk2]
  exact ⟨World.block_lt_of_cell? W _ (c 0 (by omega)), c⟩
end Go.Proofs.YtndhammngejdiaaDoor.od
