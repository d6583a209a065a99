/-
  Contracts of the reference of access: With, Without (lists of the call's own).
-/
import Derived.Test.YtemkhblogmdleaaDoorAccJ
import Derived.Test.YtemkhblogmdleaaDoorIs
namespace Go.Proofs.YtemkhblogmdleaaDoor.acw
open Go.RowKit
open base (ret_bool ret_int made up Blk Only)
open rk il
set_option linter.unusedVariables false
set_option linter.unusedSimpArgs false

theorem layI {w : World} {A : Option Addr} {l : List Int} (h : Lay il.E1 w A l) {k : Nat} (hk : k < l.length) : ∃ b off, A = some ⟨b, off, none⟩ ∧ b < w.heap.size ∧ w.cell? ⟨b, off + k, none⟩ = some (.int .i64 l[k]) := by
  obtain ⟨b, off, e, hlt, hc⟩ := h (by omega)
  refine ⟨b, off, e, hlt, ?_⟩
  have := hc k hk 0 (by decide)
  rwa [show off + k * il.E1.k + 0 = off + k by rw [show il.E1.k = 1 from rfl]; omega] at this
/-- a list without a number -/
def rwo (l : List Int) (p : Int) : List Int := l.filter (fun x => x != p)
theorem rwo_snoc (l : List Int) (p : Int) {k : Nat} (hk : k < l.length) : rwo (l.take (k + 1)) p = if l[k] = p then rwo (l.take k) p else rwo (l.take k) p ++ [l[k]] := by
  unfold rwo
  rw [List.take_succ_eq_append_getElem hk, List.filter_append]
  by_cases e : l[k] = p
  · simp [e]
  · simp [e]
set_option maxRecDepth 100000 in
set_option maxHeartbeats 2000000 in
theorem rwithout_any (A : Option Addr) (c : Nat) (l : List Int) (p : Int) (w : World) (hA : Lay il.E1 w A l) (hl : l.length ≤ 100000) :
    Calls Tryd.prog 22 #[.slice A l.length c, .int .i64 p] w (NewP (rwo l p) w) := by
  have HA := Lib.hid hA
  have SN := Lib.hid (fun k (hk : k < l.length) => rwo_snoc l p hk)
  have IL := Lib.hid (fun k => Nat.le_trans (List.length_filter_le (fun x => x != p) (l.take k)) (List.length_take_le' k l))
  have TT := Lib.hid (show rwo (l.take l.length) p = rwo l p by rw [List.take_length])
  have T0 := Lib.hid (show rwo (l.take 0) p = [] from rfl)
  obtain ⟨J, hJ⟩ : ∃ J : Nat → List Int, J = fun k => rwo (l.take k) p := ⟨_, rfl⟩
  have e1 : ∀ k, rwo (l.take k) p = J k := fun k => by rw [hJ]
  have e2 : ∀ k, (l.take k).filter (fun x => x != p) = J k := e1
  simp only [e1, e2] at SN IL TT T0
  rw [← TT.out]
  clear e1 e2 hJ TT hA
  go_enter Tryd.func22, Tryd.ntmps22
  go_wp2_with fail
  go_loopw [5, 6] (fun o j wr => ∃ (k : Nat) (W : World), W = wr ∧ k ≤ l.length ∧ j = .int .i64 k ∧ OwnI wr w.heap.size o (J k) ∧ Below w.heap.size w wr) (fun _ j _ => l.length - (intOf j).toNat)
  case atStart => exact ⟨0, _, rfl, by omega, rfl, by rw [T0.out]; exact Own.nil _ _ _, Below.refl _ _⟩
  case round =>
    obtain ⟨k, w5, rfl, hk, rfl, hown, hb5⟩ := hrel
    have O5 := Lib.hid hown
    have B5 := Lib.hid hb5
    obtain ⟨Av, cv, rfl, -⟩ := hown.open_
    by_cases hkl : k < l.length
    · obtain ⟨bb, off, rfl, -, e0⟩ := layI (HA.out.below hb5) hkl
      have TK := Lib.hid (SN.out k hkl)
      have JL := Lib.hid (show (J k).length + 1 ≤ 100000000 by have := IL.out k; omega)
      clear hown hb5
      generalize l[k] = z at *
      by_cases q : z = p
      · rw [if_pos q] at TK
        have q1 : (z != p) = false := by simp [q]
        clear q
        go_wp2_with fail
        refine ⟨⟨k + 1, _, rfl, by omega, by go_num, by rw [TK.out]; exact O5.out, B5.out⟩, by simp [intOf]; omega⟩
      · rw [if_neg q] at TK
        have q1 : (z != p) = true := by simp [q]
        clear q
        have O6 := Lib.hid (O5.out.below (made w5 (.cells #[.int .i64 z] 3)))
        have LY := Lib.hid (Lay.lit (E := il.E1) (w5.alloc (.cells #[.int .i64 z] 3)) z 3 w5.heap.size (Blk.new _ _ _))
        have B6 := Lib.hid (up B5.out (made w5 (.cells #[.int .i64 z] 3)) B5.out.size)
        go_wp2_with ((with_reducible show wpList _ _ _ (⟨some 25, _, _, _, _, _⟩ :: _) _ _); go_must (refine wp_app il.TI (c := 1) (n := 1) rfl _ _ rfl rfl rfl rfl rfl O6.out LY.out JL.out B6.out.size ?_))
        intro v7 w7 own7 gr7
        have B7 := Lib.hid (B6.out.trans (gr7.below O6.out B6.out.size))
        rw [← TK.out] at own7
        have O7 := Lib.hid own7
        obtain ⟨A2, c2, rfl, -⟩ := own7.open_
        clear own7 gr7 O6 LY B6 e0
        go_wp2_with fail
        refine ⟨⟨k + 1, _, rfl, by omega, by go_num, O7.out, B7.out⟩, by simp [intOf]; omega⟩
    · obtain rfl : k = l.length := by omega
      clear hown hb5
      go_wp2_with fail
      go_ret
      exact ⟨_, rfl, O5.out, B5.out⟩
end Go.Proofs.YtemkhblogmdleaaDoor.acw
