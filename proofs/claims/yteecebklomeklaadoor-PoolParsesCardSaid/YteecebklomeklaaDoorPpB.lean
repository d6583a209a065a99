/-
  Pools: told again from bytes; the words cloned and compared.
-/
import Derived.Test.YteecebklomeklaaDoorPpA
import Derived.Test.YteecebklomeklaaDoorPrA
import Derived.Lib.SliceRun
import Derived.Lib.BitFns
namespace Go.Proofs.YteecebklomeklaaDoor.po
open Go.RowKit
open base (ret_bool ret_int made up Blk Only Nums)
open pnum bytes
set_option linter.unusedVariables false
set_option linter.unusedSimpArgs false

set_option maxRecDepth 100000 in
set_option maxHeartbeats 1000000 in
theorem pop_lib (c : Nat) (w : World) (hc : c < 256) : Calls Tryd.prog 33 #[.int .u8 (c : Nat)] w fun e w' => e = .returned (.int .i64 (Lib.onesCount c)) ∧ w' = w := by
  have h0 : (0 : Int) ≤ (c : Int) := by omega
  have h1 : (c : Int) ≤ 255 := by omega
  have e := Lib.pop8_int (c : Int) h0 h1
  rw [Int.toNat_natCast] at e
  rw [← e]
  clear e
  go_enter Tryd.func33, Tryd.ntmps33
  go_wp2
  go_ret
  refine ⟨?_, rfl⟩
  kernel_rfl
theorem pop_eq : ∀ c : Fin 256, Lib.onesCount c.val = pop8 c.val := by decide +kernel
theorem pop_any (c : Nat) (w : World) (hc : c < 256) : Calls Tryd.prog 33 #[.int .u8 (c : Nat)] w fun e w' => e = .returned (.int .i64 (pop8 c : Nat)) ∧ w' = w := by
  have := pop_lib c w hc
  rw [pop_eq ⟨c, hc⟩] at this
  exact this
theorem pop8_le (c : Nat) : pop8 c ≤ 8 := Nat.le_trans List.countP_le_length (by simp)
/-- clear of a slice of words -/
def zer (W : List Nat) (o : Nat) : Nat → List Nat
  | 0 => W
  | m + 1 => zer (W.set o 0) (o + 1) m
theorem zer_len : ∀ (m o : Nat) (W : List Nat), (zer W o m).length = W.length
  | 0, _, _ => rfl
  | m + 1, o, W => by rw [zer, zer_len, List.length_set]
theorem zer_at : ∀ (m o : Nat) (W : List Nat) (j : Nat), o + m ≤ W.length → (zer W o m).getD j 0 = if o ≤ j ∧ j < o + m then 0 else W.getD j 0
  | 0, o, W, j, _ => by rw [if_neg (by omega)]; rfl
  | m + 1, o, W, j, h => by
    rw [zer, zer_at m (o + 1) _ j (by rw [List.length_set]; omega)]
    by_cases hj : j = o
    · subst hj
      rw [if_neg (by omega), if_pos (by omega), pnum.getD_set_same _ _ _ _ (by omega)]
    · rw [pnum.getD_set_ne _ _ _ _ _ (fun e => hj e.symm)]
      by_cases h1 : o ≤ j ∧ j < o + (m + 1)
      · rw [if_pos h1, if_pos (by omega)]
      · rw [if_neg h1, if_neg (by omega)]
theorem zer_all (W : List Nat) : zer W 0 W.length = List.replicate W.length 0 := by
  apply List.ext_getElem
  · rw [zer_len, List.length_replicate]
  · intro j h1 h2
    have := zer_at W.length 0 W j (by omega)
    rw [zer_len] at h1
    rw [if_pos (by omega)] at this
    simpa [List.getD, List.getElem?_eq_getElem (show j < (zer W 0 W.length).length by rw [zer_len]; exact h1)] using this
theorem RowU.zer_ {gw : Nat} : ∀ (m o : Nat) (w : World) (W : List Nat), RowU w gw W → o + m ≤ W.length → RowU (w.setCells gw o (List.replicate m (.int .u64 0))) gw (zer W o m)
  | 0, _, _, _, h, _ => h
  | m + 1, o, w, W, h, hl => by
    have h1 := h.put (j := o) (by omega) 0
    exact RowU.zer_ m (o + 1) _ _ h1 (by rw [List.length_set]; omega)
theorem only_cells {gw : Nat} : ∀ (vs : List Value) (o : Nat) (w : World), Only (fun k => k = gw) w (w.setCells gw o vs)
  | [], _, w => Only.refl _ w
  | v :: vs, o, w => by
    have h1 : Only (fun k => k = gw) w (w.setCell ⟨gw, o, none⟩ v) := (Only.refl (fun k => k = gw) w).setCell (p := ⟨gw, o, none⟩) (.inl rfl) _
    exact h1.trans (only_cells vs (o + 1) _) (fun _ _ e => e)
theorem clear_any {gw c : Nat} {W : List Nat} (w : World) (h : RowU w gw W) :
    ∃ w', (∀ ty, (Builtin.clear_ #[60] ty #[.slice (some ⟨gw, 0, none⟩) W.length c]).run Tryd.prog w = .ok (.tuple #[]) w') ∧ RowU w' gw (List.replicate W.length 0) ∧ Only (fun k => k = gw) w w' := by
  rcases Nat.eq_zero_or_pos W.length with h0 | h0
  · refine ⟨w, fun ty => ?_, ?_, Only.refl _ w⟩
    · rw [h0]
      have hz : ∀ w, (zeroValue 63).run Tryd.prog w = .ok (.int .u64 0) w := fun w => by first | exact Tryd.zeroValue63 w | kernel_rfl
      simp [Builtin.clear_, run_underlying Tryd.underlying60, hz, Builtin.zeroCells, go_sem]
    · rw [h0]
      obtain ⟨cs, hb, -⟩ := h
      exact ⟨cs, hb, fun j hj => by simp at hj⟩
  · have hz : ∀ w, (zeroValue 63).run Tryd.prog w = .ok (.int .u64 0) w := fun w => by first | exact Tryd.zeroValue63 w | kernel_rfl
    refine ⟨_, fun ty => Lib.run_clear_slice w _ _ ty _ Tryd.underlying60 hz rfl rfl gw 0 _ _ h0 (fun j hj => by rw [Nat.zero_add, h.cell hj]; rfl) (fun j hj => h.free _), ?_, only_cells _ _ _⟩
    have := RowU.zer_ W.length 0 w W h (by omega)
    rw [zer_all] at this
    exact this
end Go.Proofs.YteecebklomeklaaDoor.po
