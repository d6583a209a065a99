/-
  Pools: the words cloned and compared; Copy and Equal.
-/
import Derived.Test.YteecebklomeklaaDoorPpB
import Derived.Test.YteecebklomeklaaDoorRk
import Derived.Deep.RegionHeld
import Derived.Laws.Cover3
namespace Go.Proofs.YteecebklomeklaaDoor.po
open Go.RowKit
open base (ret_bool ret_int made up Blk Only Nums)
open pnum bytes
set_option linter.unusedVariables false
set_option linter.unusedSimpArgs false

def EU : rk.Enc Nat := ⟨fun d => [.int .u64 (d : Int)], 1, by decide, fun _ => rfl, by
  intro x v hv
  simp at hv
  subst hv
  rfl⟩
theorem TU : rk.Ty EU Tryd.prog 60 63 (.int .u64 0) 8 := ⟨Tryd.underlying60, by kernel_rfl, rfl, by decide⟩
theorem emptyU (w : World) : rk.Own EU (w.alloc (.cells #[] 63)) w.heap.size 63 (.slice (some ⟨w.heap.size, 0, none⟩) 0 0) [] :=
  ⟨rfl, .inr ⟨w.heap.size, 0, #[], rfl, Nat.le_refl _, heap_alloc_new w _, by simp, by unfold maxLen; omega, by simp, rfl⟩⟩
theorem eql_nilU (w : World) (a : Option Addr) (n c : Nat) : (binOp .eql 60 (.slice a n c) (.slice none 0 0)).run Tryd.prog w = .ok (.bool a.isNone) w := by
  simp only [binOp]
  simp [Op.equal, Op.maxDepth, run_equalIn_slice_nil w 9999 60 63 a n c Tryd.underlying60]
theorem RowU.layU {w : World} {gw : Nat} {W : List Nat} (h : RowU w gw W) : rk.Lay EU w (some ⟨gw, 0, none⟩) W := fun h0 => by
  refine ⟨gw, 0, rfl, ?_, fun k hk j hj => ?_⟩
  · obtain ⟨cs, hb, -⟩ := h
    exact hb.lt
  · obtain rfl : j = 0 := by have : j < 1 := hj; omega
    rw [show 0 + k * EU.k + 0 = k by show 0 + k * 1 + 0 = k; omega, h.cell hk]
    simp [EU, List.getD, List.getElem?_eq_getElem hk]
theorem own_row {w : World} {b g n c : Nat} {W : List Nat} (h : rk.Own EU w b 63 (.slice (some ⟨g, 0, none⟩) n c) W) (h0 : 0 < W.length) : RowU w g W := by
  obtain ⟨g', c', cs, e, -, hb, hn, -, -, ht⟩ := h.full h0
  injection e with e1 e2 e3
  injection e1 with e1
  injection e1 with e1
  subst e1
  refine ⟨cs, hb, fun j hj => ?_⟩
  have e : (cs.toList.take (W.length * 1))[j]? = cs[j]? := by
    rw [List.getElem?_take, if_pos (by omega)]
    simp
  rw [← e, show cs.toList.take (W.length * 1) = rk.flat EU W from ht]
  have := rk.flat_get (E := EU) W j hj 0 (by decide)
  rw [show j * EU.k + 0 = j by show j * 1 + 0 = j; omega] at this
  rw [this]
  simp [EU, List.getD, List.getElem?_eq_getElem hj]
def CloneP (W : List Nat) (w : World) (e : Ending) (w' : World) : Prop := ∃ gn cn, e = .returned (.slice (some ⟨gn, 0, none⟩) W.length cn) ∧ RowU w' gn W ∧ w.heap.size ≤ gn ∧ W.length ≤ cn ∧ cn ≤ maxLen ∧ Below w.heap.size w w'
set_option maxRecDepth 100000 in
set_option maxHeartbeats 1000000 in
theorem cloneu_any (gw c : Nat) (W : List Nat) (w : World) (hA : RowU w gw W) (hl : W.length ≤ 100000) :
    Calls Tryd.prog 34 #[.slice (some ⟨gw, 0, none⟩) W.length c] w (CloneP W w) := by
  have OE := Lib.hid (emptyU w)
  have LY := Lib.hid (hA.layU.below (made w (.cells #[] 63)))
  have B6 := Lib.hid (made w (.cells #[] 63))
  clear hA
  have en := eql_nilU w (some ⟨gw, 0, none⟩) W.length c
  dsimp only [Option.isNone] at en
  rcases Nat.eq_zero_or_pos W.length with h0 | h0
  · obtain rfl : W = [] := List.eq_nil_of_length_eq_zero h0
    have hrun : (Builtin.append_ #[60, 60] 60 #[.slice (some ⟨w.heap.size, 0, none⟩) 0 0, .slice (some ⟨gw, 0, none⟩) 0 c]).run Tryd.prog (w.alloc (.cells #[] 63)) = .ok (.slice (some ⟨w.heap.size, 0, none⟩) 0 0) (w.alloc (.cells #[] 63)) := by
      obtain ⟨i, hi, hz0, hz1, hz2⟩ := info_parts TU.info
      simp [Builtin.append_, run_underlying TU.under, sizeOf, typeInfo, hi, Builtin.lenOf, Builtin.firstCells, loadCells, storeCells, hz1, go_sem]
    dsimp only [List.length_nil] at en h0 ⊢
    clear h0
    go_enter Tryd.func34, Tryd.ntmps34
    go_wp2_with fail
    go_ret
    refine ⟨w.heap.size, 0, rfl, ⟨#[], heap_alloc_new w _, fun j hj => by simp at hj⟩, Nat.le_refl _, Nat.le_refl _, by unfold maxLen; omega, B6.out⟩
  · have H0 := Lib.hid h0
    clear h0
    go_enter Tryd.func34, Tryd.ntmps34
    go_wp2_with ((with_reducible show wpList _ _ _ (⟨some 7, _, _, _, _, _⟩ :: _) _ _); go_must (refine rk.wp_app TU (c := c) (n := W.length) rfl _ _ rfl rfl rfl rfl rfl OE.out LY.out (by simp; omega) B6.out.size ?_))
    intro v7 w7 own7 gr7
    have B7 := Lib.hid (B6.out.trans (gr7.below OE.out B6.out.size))
    have O7 := Lib.hid own7
    obtain ⟨gn, cn, cs, rfl, hge, -, hle, hmx, -⟩ := own7.full H0.out
    have GE := Lib.hid (And.intro hge (And.intro hle hmx))
    clear own7 gr7 OE LY B6 hge hle hmx
    go_wp2_with fail
    go_ret
    exact ⟨gn, cn, rfl, own_row O7.out H0.out, GE.out.1, GE.out.2.1, by unfold maxLen; exact GE.out.2.2, B7.out⟩
def EqP (b : Bool) (w : World) (e : Ending) (w' : World) : Prop := e = .returned (.bool b) ∧ Nix w w'
set_option maxHeartbeats 1000000 in
theorem equalu_any (g1 c1 g2 c2 : Nat) (W V : List Nat) (w : World) (h1 : RowU w g1 W) (h2 : RowU w g2 V) (hlen : V.length = W.length) (hl : W.length ≤ 100000) :
    Calls Tryd.prog 35 #[.slice (some ⟨g1, 0, none⟩) W.length c1, .slice (some ⟨g2, 0, none⟩) W.length c2] w (EqP (decide (W = V)) w) := by
  have N := Lib.hid h1
  have M := Lib.hid h2
  have HL := Lib.hid hlen
  have FIN := Lib.hid (fun k (hk : k < W.length) (e : W.getD k 0 ≠ V.getD k 0) => (show decide (W = V) = false from decide_eq_false (fun q => e (by rw [q]))))
  clear h1 h2 hlen
  go_enter Tryd.func35, Tryd.ntmps35
  go_wp2_with fail
  go_loopw [13] (fun j wr => ∃ (k : Nat) (X : World), X = wr ∧ j = .int .i64 k ∧ k ≤ W.length ∧ (∀ i, i < k → W.getD i 0 = V.getD i 0) ∧ Nix w wr) (fun j _ => W.length - (intOf j).toNat)
  case atStart => exact ⟨0, _, rfl, rfl, by omega, fun i hi => by omega, Only.refl _ _⟩
  case round =>
    obtain ⟨k, w1, rfl, rfl, hk, hsame, hb⟩ := hrel
    have HB := Lib.hid hb
    have HS := Lib.hid hsame
    clear hsame
    by_cases hkl : k < W.length
    · have hc := (N.out.only hb id).cell hkl
      have hc2 := (M.out.only hb id).cell (show k < V.length by rw [HL.out]; exact hkl)
      have FK := Lib.hid (FIN.out k hkl)
      have SK := Lib.hid (fun (e : W.getD k 0 = V.getD k 0) => (show ∀ i, i < k + 1 → W.getD i 0 = V.getD i 0 from fun i hi => by
        rcases Nat.lt_or_ge i k with q | q
        · exact HS.out i q
        · obtain rfl : i = k := by omega
          exact e))
      clear hb
      generalize W.getD k 0 = v at *
      generalize V.getD k 0 = u at *
      by_cases hvu : v = u
      · have SK2 := Lib.hid (SK.out hvu)
        subst hvu
        go_wp2_with fail
        go_quiet (fail)
        go_wp2_with fail
        refine ⟨⟨k + 1, _, rfl, by go_num, by omega, SK2.out, HB.out.drewN _⟩, by simp [intOf]; omega⟩
      · have kv : ((v : Int) == (u : Int)) = false := by simp; omega
        have kw : ((v : Int) != (u : Int)) = true := by simp; omega
        have FK2 := Lib.hid (FK.out hvu)
        clear hvu
        go_wp2_with fail
        go_quiet (fail)
        go_wp2_with fail
        go_ret
        exact ⟨by rw [FK2.out]; rfl, HB.out.drewN _⟩
    · clear hb
      have E := Lib.hid (show decide (W = V) = true from decide_eq_true (List.ext_getElem HL.out.symm fun i h1 h2 => by
        have := HS.out i (by omega)
        simpa [List.getD, List.getElem?_eq_getElem h1, List.getElem?_eq_getElem h2] using this))
      go_wp2_with fail
      go_ret
      exact ⟨by rw [E.out]; rfl, HB.out⟩
set_option maxRecDepth 100000 in
set_option maxHeartbeats 1000000 in
theorem pequal_any (g gw : Nat) (W : List Nat) (c : Nat) (x : List Bool) (g2 gw2 : Nat) (V : List Nat) (d : Nat) (y : List Bool) (w : World) (h : PAt w g gw W c x) (h2 : PAt w g2 gw2 V d y) (hl : y.length = x.length) :
    Calls Tryd.prog 22 #[.pointer (some ⟨g, 0, none⟩), .pointer (some ⟨g2, 0, none⟩)] w (EqP (decide (W = V)) w) := by
  have hWV : V.length = W.length := by rw [h2.bits.1, h.bits.1, hl]
  have hWl : W.length ≤ 100000 := by have := h.bits.1; have := h.small; omega
  have EQ := Lib.hid (equalu_any gw c gw2 d W V w.drew h.drew.row h2.drew.row hWV hWl)
  obtain ⟨a0, a1, a2⟩ := h.drew.cells
  obtain ⟨b0, b1, b2⟩ := h2.drew.cells
  rw [hWV] at b2
  rw [hl] at b0
  have HA := Lib.hid (And.intro a0 (And.intro a2 (And.intro b0 b2)))
  unfold EqP at EQ
  clear h h2 hWV hl a0 a1 a2 b0 b1 b2
  go_enter Tryd.func22, Tryd.ntmps22
  go_wp2_with fail
  refine wp_region_held_drew (S := fun ws => ws.cell? ⟨g, 0, none⟩ = some (.int .i64 (x.length : Nat)) ∧ ws.cell? ⟨g, 2, none⟩ = some (.slice (some ⟨gw, 0, none⟩) W.length c) ∧ ws.cell? ⟨g2, 0, none⟩ = some (.int .i64 (x.length : Nat)) ∧ ws.cell? ⟨g2, 2, none⟩ = some (.slice (some ⟨gw2, 0, none⟩) W.length d)) (by kernel_rfl) HA.out (fun hHeld => ?_)
  refine wpAnyH_take (i := 0) (v := ?_) rfl (by kernel_rfl) (by kernel_rfl) (by kernel_rfl) (fun _ _ _ h => h) (Or.inl ⟨by rfl, ?_⟩) (by assumption) ?_
  rotate_left
  · (intro w hSw; (try dsimp only at hSw); first | (go_simp; done) | (go_simp; with_reducible rfl))
  simp only [Act.put, List.getElem_toArray, List.getElem_cons_zero, List.getElem_cons_succ, List.setIfInBounds_toArray, List.set_cons_zero, List.set_cons_succ]
  refine wpAnyH_take (i := 1) (v := ?_) rfl (by kernel_rfl) (by kernel_rfl) (by kernel_rfl) (fun _ _ _ h => h) (Or.inl ⟨by rfl, ?_⟩) (by assumption) ?_
  rotate_left
  · (intro w hSw; (try dsimp only at hSw); first | (go_simp; done) | (go_simp; with_reducible rfl))
  simp only [Act.put, List.getElem_toArray, List.getElem_cons_zero, List.getElem_cons_succ, List.setIfInBounds_toArray, List.set_cons_zero, List.set_cons_succ]
  refine wpAnyH_take (i := 2) (v := ?_) rfl (by kernel_rfl) (by kernel_rfl) (by kernel_rfl) (fun _ _ _ h => h) (Or.inl ⟨by rfl, ?_⟩) (by assumption) ?_
  rotate_left
  · (intro w hSw; (try dsimp only at hSw); first | (go_simp; done) | (go_simp; with_reducible rfl))
  simp only [Act.put, List.getElem_toArray, List.getElem_cons_zero, List.getElem_cons_succ, List.setIfInBounds_toArray, List.set_cons_zero, List.set_cons_succ]
  refine wpAnyH_take (i := 3) (v := ?_) rfl (by kernel_rfl) (by kernel_rfl) (by kernel_rfl) (fun _ _ _ h => h) (Or.inl ⟨by rfl, ?_⟩) (by assumption) ?_
  rotate_left
  · (intro w hSw; (try dsimp only at hSw); first | (go_simp; done) | (go_simp; with_reducible rfl))
  simp only [Act.put, List.getElem_toArray, List.getElem_cons_zero, List.getElem_cons_succ, List.setIfInBounds_toArray, List.set_cons_zero, List.set_cons_succ]
  refine wpAnyH_take (i := 4) (v := ?_) rfl (by kernel_rfl) (by kernel_rfl) (by kernel_rfl) (fun _ _ _ h => h) (Or.inl ⟨by rfl, ?_⟩) (by assumption) ?_
  rotate_left
  · (intro w hSw; (try dsimp only at hSw); first | (go_simp; done) | (go_simp; with_reducible rfl))
  simp only [Act.put, List.getElem_toArray, List.getElem_cons_zero, List.getElem_cons_succ, List.setIfInBounds_toArray, List.set_cons_zero, List.set_cons_succ]
  refine wpAnyH_take (i := 5) (v := ?_) rfl (by kernel_rfl) (by kernel_rfl) (by kernel_rfl) (fun _ _ _ h => h) (Or.inl ⟨by rfl, ?_⟩) (by assumption) ?_
  rotate_left
  · (intro w hSw; (try dsimp only at hSw); first | (go_simp; done) | (go_simp; with_reducible rfl))
  simp only [Act.put, List.getElem_toArray, List.getElem_cons_zero, List.getElem_cons_succ, List.setIfInBounds_toArray, List.set_cons_zero, List.set_cons_succ]
  refine wpAnyH_take (i := 6) (v := ?_) rfl (by kernel_rfl) (by kernel_rfl) (by kernel_rfl) (fun _ _ _ h => h) (Or.inl ⟨by rfl, ?_⟩) (by assumption) ?_
  rotate_left
  · (intro w hSw; (try dsimp only at hSw); first | (go_simp; done) | (go_simp; with_reducible rfl))
  simp only [Act.put, List.getElem_toArray, List.getElem_cons_zero, List.getElem_cons_succ, List.setIfInBounds_toArray, List.set_cons_zero, List.set_cons_succ]
  refine wpAnyH_take (i := 7) (v := ?_) rfl (by kernel_rfl) (by kernel_rfl) (by kernel_rfl) (fun _ _ _ h => h) (Or.inl ⟨by rfl, ?_⟩) (by assumption) ?_
  rotate_left
  · (intro w hSw; (try dsimp only at hSw); first | (go_simp; done) | (go_simp; with_reducible rfl))
  simp only [Act.put, List.getElem_toArray, List.getElem_cons_zero, List.getElem_cons_succ, List.setIfInBounds_toArray, List.set_cons_zero, List.set_cons_succ]
  refine wpAnyH_take (i := 8) (v := ?_) rfl (by kernel_rfl) (by kernel_rfl) (by kernel_rfl) (fun _ _ _ h => h) (Or.inl ⟨by rfl, ?_⟩) (by assumption) ?_
  rotate_left
  · (intro w hSw; (try dsimp only at hSw); first | (go_simp; done) | (go_simp; with_reducible rfl))
  simp only [Act.put, List.getElem_toArray, List.getElem_cons_zero, List.getElem_cons_succ, List.setIfInBounds_toArray, List.set_cons_zero, List.set_cons_succ]
  refine wpAnyH_take (i := 9) (v := ?_) rfl (by kernel_rfl) (by kernel_rfl) (by kernel_rfl) (fun _ _ _ h => h) (Or.inl ⟨by rfl, ?_⟩) (by assumption) ?_
  rotate_left
  · (intro w hSw; (try dsimp only at hSw); first | (go_simp; done) | (go_simp; with_reducible rfl))
  simp only [Act.put, List.getElem_toArray, List.getElem_cons_zero, List.getElem_cons_succ, List.setIfInBounds_toArray, List.set_cons_zero, List.set_cons_succ]
  refine wpAnyH_take (i := 10) (v := ?_) rfl (by kernel_rfl) (by kernel_rfl) (by kernel_rfl) (fun _ _ _ h => h) (Or.inl ⟨by rfl, ?_⟩) (by assumption) ?_
  rotate_left
  · (intro w hSw; (try dsimp only at hSw); first | (go_simp; done) | (go_simp; with_reducible rfl))
  simp only [Act.put, List.getElem_toArray, List.getElem_cons_zero, List.getElem_cons_succ, List.setIfInBounds_toArray, List.set_cons_zero, List.set_cons_succ]
  refine wpAnyH_take (i := 11) (v := ?_) rfl (by kernel_rfl) (by kernel_rfl) (by kernel_rfl) (fun _ _ _ h => h) (Or.inl ⟨by rfl, ?_⟩) (by assumption) ?_
  rotate_left
  · (intro w hSw; (try dsimp only at hSw); first | (go_simp; done) | (go_simp; with_reducible rfl))
  simp only [Act.put, List.getElem_toArray, List.getElem_cons_zero, List.getElem_cons_succ, List.setIfInBounds_toArray, List.set_cons_zero, List.set_cons_succ]
  refine wpAnyH_take (i := 12) (v := ?_) rfl (by kernel_rfl) (by kernel_rfl) (by kernel_rfl) (fun _ _ _ h => h) (Or.inl ⟨by rfl, ?_⟩) (by assumption) ?_
  rotate_left
  · (intro w hSw; (try dsimp only at hSw); first | (go_simp; done) | (go_simp; with_reducible rfl))
  simp only [Act.put, List.getElem_toArray, List.getElem_cons_zero, List.getElem_cons_succ, List.setIfInBounds_toArray, List.set_cons_zero, List.set_cons_succ]
  refine wpAnyH_take (i := 13) (v := ?_) rfl (by kernel_rfl) (by kernel_rfl) (by kernel_rfl) (fun _ _ _ h => h) (Or.inl ⟨by rfl, ?_⟩) (by assumption) ?_
  rotate_left
  · (intro w hSw; (try dsimp only at hSw); first | (go_simp; done) | (go_simp; with_reducible rfl))
  simp only [Act.put, List.getElem_toArray, List.getElem_cons_zero, List.getElem_cons_succ, List.setIfInBounds_toArray, List.set_cons_zero, List.set_cons_succ]
  refine wpAnyH_take (i := 14) (v := ?_) rfl (by kernel_rfl) (by kernel_rfl) (by kernel_rfl) (fun _ _ _ h => h) (Or.inl ⟨by rfl, ?_⟩) (by assumption) ?_
  rotate_left
  · (intro w hSw; (try dsimp only at hSw); first | (go_simp; done) | (go_simp; with_reducible rfl))
  simp only [Act.put, List.getElem_toArray, List.getElem_cons_zero, List.getElem_cons_succ, List.setIfInBounds_toArray, List.set_cons_zero, List.set_cons_succ]
  refine wpAnyH_take (i := 15) (v := ?_) rfl (by kernel_rfl) (by kernel_rfl) (by kernel_rfl) (fun _ _ _ h => h) (Or.inl ⟨by rfl, ?_⟩) (by assumption) ?_
  rotate_left
  · (intro w hSw; (try dsimp only at hSw); first | (go_simp; done) | (go_simp; with_reducible rfl))
  simp only [Act.put, List.getElem_toArray, List.getElem_cons_zero, List.getElem_cons_succ, List.setIfInBounds_toArray, List.set_cons_zero, List.set_cons_succ]
  refine wpAnyH_take (i := 16) (v := ?_) rfl (by kernel_rfl) (by kernel_rfl) (by kernel_rfl) (fun _ _ _ h => h) (Or.inl ⟨by rfl, ?_⟩) (by assumption) ?_
  rotate_left
  · (intro w hSw; (try dsimp only at hSw); first | (go_simp; done) | (go_simp; with_reducible rfl))
  simp only [Act.put, List.getElem_toArray, List.getElem_cons_zero, List.getElem_cons_succ, List.setIfInBounds_toArray, List.set_cons_zero, List.set_cons_succ]
  refine wpAnyH_take (i := 17) (v := ?_) rfl (by kernel_rfl) (by kernel_rfl) (by kernel_rfl) (fun _ _ _ h => h) (Or.inl ⟨by rfl, ?_⟩) (by assumption) ?_
  rotate_left
  · (intro w hSw; (try dsimp only at hSw); first | (go_simp; done) | (go_simp; with_reducible rfl))
  simp only [Act.put, List.getElem_toArray, List.getElem_cons_zero, List.getElem_cons_succ, List.setIfInBounds_toArray, List.set_cons_zero, List.set_cons_succ]
  refine wpAnyH_ready (rs := [18]) (by kernel_rfl) (by simp) ?_
  refine AllReadyH.cons rfl (fun K hK => ?_) AllReadyH.nil
  go_simp
  go_wp2_with (go_at_call 35; refine EQ.out.mono ?_; rintro e w3 ⟨rfl, hn⟩)
  have HN := Lib.hid (show Nix w w3 from (Nix.drew w).trans hn (fun _ _ e => e))
  have c0 : ∀ a v, w.drew.cell? a = some v → w3.cell? a = some v := fun a v e => (hn.below.cell (World.block_lt_of_cell? _ _ e)).trans e
  refine hK.out _ _ ⟨c0 _ _ HA.out.1, c0 _ _ HA.out.2.1, c0 _ _ HA.out.2.2.1, c0 _ _ HA.out.2.2.2⟩ (fun hHeld2 => ?_)
  clear hK K hHeld EQ hn c0
  generalize decide (W = V) = b at *
  refine wpAnyH_take (i := 19) (v := ?_) rfl (by kernel_rfl) (by kernel_rfl) (by kernel_rfl) (fun _ _ _ h => h) (Or.inl ⟨by rfl, ?_⟩) (by assumption) ?_
  rotate_left
  · (intro w hSw; (try dsimp only at hSw); first | (go_simp; done) | (go_simp; with_reducible rfl))
  simp only [Act.put, List.getElem_toArray, List.getElem_cons_zero, List.getElem_cons_succ, List.setIfInBounds_toArray, List.set_cons_zero, List.set_cons_succ]
  refine wpAnyH_take (i := 20) (v := ?_) rfl (by kernel_rfl) (by kernel_rfl) (by kernel_rfl) (fun _ _ _ h => h) (Or.inl ⟨by rfl, ?_⟩) (by assumption) ?_
  rotate_left
  · (intro w hSw; (try dsimp only at hSw); first | (go_simp; done) | (go_simp; with_reducible rfl))
  simp only [Act.put, List.getElem_toArray, List.getElem_cons_zero, List.getElem_cons_succ, List.setIfInBounds_toArray, List.set_cons_zero, List.set_cons_succ]
  refine wpAnyH_done (by kernel_rfl) ?_ _
  clear hHeld2
  go_wp2_with fail
  go_ret
  exact ⟨rfl, HN.out⟩
def CopyP (n : Nat) (x : List Bool) (w : World) (e : Ending) (w' : World) : Prop := ∃ g gw W c, e = .returned (.pointer (some ⟨g, 0, none⟩)) ∧ PAt w' g gw W c x ∧ w.heap.size ≤ g ∧ w.heap.size ≤ gw ∧ Below w.heap.size w w'
set_option maxRecDepth 100000 in
set_option maxHeartbeats 1000000 in
theorem copy_any (g gw : Nat) (W : List Nat) (c : Nat) (x : List Bool) (w : World) (h : PAt w g gw W c x) :
    Calls Tryd.prog 21 #[.pointer (some ⟨g, 0, none⟩)] w (CopyP 0 x w) := by
  have hWl : W.length ≤ 100000 := by have := h.bits.1; have := h.small; omega
  have hmd := made w (.cells #[.int .i64 x.length, .int .i64 (x.count true : Nat), .slice (some ⟨gw, 0, none⟩) W.length c] 62)
  have P2 := Lib.hid (h.below hmd)
  have BX := Lib.hid (Blk.new w 62 #[.int .i64 x.length, .int .i64 (x.count true : Nat), .slice (some ⟨gw, 0, none⟩) W.length c])
  have CL := Lib.hid (cloneu_any gw c W _ (h.below hmd).row hWl)
  obtain ⟨a0, a1, a2⟩ := h.cells
  obtain ⟨b0, b1, b2⟩ := (h.below hmd).cells
  have MD := Lib.hid hmd
  unfold CloneP at CL
  have HH := Lib.hid h
  clear h hmd
  go_enter Tryd.func21, Tryd.ntmps21
  go_wp2_with fail
  refine CL.out.mono ?_
  rintro e w2 ⟨gn, cn, rfl, hrow, hge, hle, hmx, hb⟩
  have B2 := Lib.hid (BX.out.below hb BX.out.lt)
  have d2 := B2.out.cell 2
  have f2 := B2.out.free 2
  have RR := Lib.hid hrow
  have GE := Lib.hid (show w.heap.size < gn from by rw [asz] at hge; omega)
  have HL := Lib.hid (And.intro hle hmx)
  have HB := Lib.hid (up MD.out hb MD.out.size)
  clear hrow hge hle hmx hb b0 b1 b2 a0 a1 a2 CL
  go_wp2_with fail
  go_ret
  have hne : gn ≠ w.heap.size := by have := GE.out; omega
  refine ⟨w.heap.size, gn, W, cn, rfl, ⟨B2.out.put 2 _, RR.out.far hne _, HH.out.bits, HL.out.1, HL.out.2, HH.out.small, ⟨by have := HH.out.blk.lt; omega, by have := GE.out; omega⟩⟩, Nat.le_refl _, Nat.le_of_lt GE.out, HB.out.setCell (p := ⟨w.heap.size, 2, none⟩) (Nat.le_refl _) _⟩
end Go.Proofs.YteecebklomeklaaDoor.po
