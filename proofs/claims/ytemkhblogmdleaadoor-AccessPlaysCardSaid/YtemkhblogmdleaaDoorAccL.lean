/-
  Contracts of the reference of access: With.
-/
import Derived.Test.YtemkhblogmdleaaDoorAccK
namespace Go.Proofs.YtemkhblogmdleaaDoor.acw
open Go.RowKit
open base (ret_bool ret_int made up Blk Only)
open rk il
set_option linter.unusedVariables false
set_option linter.unusedSimpArgs false

/-- is it put in already; the list so far -/
def wst (l : List Int) (p : Int) : Bool × List Int := l.foldl (fun s x => if !s.1 && decide (p < x) then (true, (s.2 ++ [p]) ++ [x]) else (s.1, s.2 ++ [x])) (false, [])
theorem wst_snoc (l : List Int) (p : Int) {k : Nat} (hk : k < l.length) : wst (l.take (k + 1)) p = if !(wst (l.take k) p).1 && decide (p < l[k]) then (true, ((wst (l.take k) p).2 ++ [p]) ++ [l[k]]) else ((wst (l.take k) p).1, (wst (l.take k) p).2 ++ [l[k]]) := by
  unfold wst
  rw [List.take_succ_eq_append_getElem hk, List.foldl_append]
  rfl
theorem wst_len (l : List Int) (p : Int) : ∀ k, k ≤ l.length → (wst (l.take k) p).2.length = if (wst (l.take k) p).1 then k + 1 else k
  | 0, _ => rfl
  | k + 1, hk => by
    have h := wst_len l p k (by omega)
    rw [wst_snoc l p (by omega)]
    by_cases q : (!(wst (l.take k) p).1 && decide (p < l[k])) = true
    · rw [if_pos q]
      rw [Bool.and_eq_true, Bool.not_eq_true'] at q
      rw [q.1] at h
      simp at h
      simp [h]
    · rw [if_neg q]
      simp only [List.length_append, List.length_singleton, h]
      split <;> rfl
def rwi (l : List Int) (p : Int) : List Int := if (wst l p).1 then (wst l p).2 else (wst l p).2 ++ [p]
set_option maxRecDepth 100000 in
set_option maxHeartbeats 2000000 in
theorem rwith_any (A : Option Addr) (c : Nat) (l : List Int) (p : Int) (w : World) (hA : Lay il.E1 w A l) (hl : l.length ≤ 100000) :
    Calls Tryd.prog 21 #[.slice A l.length c, .int .i64 p] w (NewP (rwi l p) w) := by
  have HA := Lib.hid hA
  have SN := Lib.hid (fun k (hk : k < l.length) => wst_snoc l p hk)
  have IL := Lib.hid (fun k (hk : k ≤ l.length) => (show (wst (l.take k) p).2.length ≤ k + 1 by rw [wst_len l p k hk]; split <;> omega))
  have TT := Lib.hid (show rwi l p = if (wst (l.take l.length) p).1 then (wst (l.take l.length) p).2 else (wst (l.take l.length) p).2 ++ [p] by rw [List.take_length]; rfl)
  have T0 := Lib.hid (show wst (l.take 0) p = (false, []) from rfl)
  generalize rwi l p = R at *
  obtain ⟨J, hJ⟩ : ∃ J : Nat → Bool × List Int, J = fun k => wst (l.take k) p := ⟨_, rfl⟩
  have e1 : ∀ k, wst (l.take k) p = J k := fun k => by rw [hJ]
  simp only [e1] at SN IL TT T0
  clear e1 hJ hA
  go_enter Tryd.func21, Tryd.ntmps21
  go_wp2_with fail
  go_loopw [5, 6, 7] (fun o d j wr => ∃ (k : Nat) (W : World), W = wr ∧ k ≤ l.length ∧ j = .int .i64 k ∧ d = .bool (J k).1 ∧ OwnI wr w.heap.size o (J k).2 ∧ Below w.heap.size w wr) (fun _ _ j _ => l.length - (intOf j).toNat)
  case atStart => exact ⟨0, _, rfl, by omega, rfl, by rw [T0.out], by rw [T0.out]; exact Own.nil _ _ _, Below.refl _ _⟩
  case round =>
    obtain ⟨k, w5, rfl, hk, rfl, rfl, hown, hb5⟩ := hrel
    have O5 := Lib.hid hown
    have B5 := Lib.hid hb5
    have JL := Lib.hid (show (J k).2.length + 1 ≤ 100000000 by have := IL.out k hk; omega)
    have JL2 := Lib.hid (show ((J k).2 ++ [p]).length + 1 ≤ 100000000 by have := IL.out k hk; simp; omega)
    by_cases hkl : k < l.length
    · obtain ⟨bb, off, rfl, -, e0⟩ := layI (HA.out.below hb5) hkl
      have TK := Lib.hid (SN.out k hkl)
      have HAD := Lib.hid (fun ws (h : Below w.heap.size w ws) => (show ws.cell? ⟨bb, off + k, none⟩ = some (.int .i64 l[k]) from by
        obtain ⟨b', o', ee, -, y0⟩ := layI (HA.out.below h) hkl
        injection ee with ee
        injection ee with ee1 ee2
        subst ee1 ee2
        exact y0))
      obtain ⟨Av, cv, rfl, -⟩ := hown.open_
      clear hown hb5
      obtain ⟨s2, hs2⟩ : ∃ s2, s2 = J (k + 1) := ⟨_, rfl⟩
      rw [← hs2] at TK
      have JQ := Lib.hid hs2.symm
      clear hs2
      generalize l[k] = z at *
      generalize J k = s at *
      obtain ⟨dn, M⟩ := s
      dsimp only at *
      by_cases q : dn = false ∧ p < z
      · obtain ⟨rfl, q2⟩ := q
        have q1 : decide (z > p) = true := decide_eq_true q2
        rw [if_pos (by simp [q2])] at TK
        obtain rfl := TK.out
        clear q2 TK
        have O6 := Lib.hid (O5.out.below (made w5 (.cells #[.int .i64 p] 3)))
        have LY := Lib.hid (Lay.lit (E := il.E1) (w5.alloc (.cells #[.int .i64 p] 3)) p 3 w5.heap.size (Blk.new _ _ _))
        have B6 := Lib.hid (up B5.out (made w5 (.cells #[.int .i64 p] 3)) B5.out.size)
        go_wp2_with ((with_reducible show wpList _ _ _ (⟨some 27, _, _, _, _, _⟩ :: _) _ _); go_must (refine wp_app il.TI (c := 1) (n := 1) rfl _ _ rfl rfl rfl rfl rfl O6.out LY.out JL.out B6.out.size ?_))
        intro v7 w7 own7 gr7
        have B7 := Lib.hid (B6.out.trans (gr7.below O6.out B6.out.size))
        have O7 := Lib.hid own7
        obtain ⟨A2, c2, rfl, -⟩ := own7.open_
        clear own7 gr7 O6 LY B6 e0
        generalize M ++ [p] = M2 at *
        have e0 := HAD.out _ B7.out
        have O8 := Lib.hid (O7.out.below (made w7 (.cells #[.int .i64 z] 3)))
        have LZ := Lib.hid (Lay.lit (E := il.E1) (w7.alloc (.cells #[.int .i64 z] 3)) z 3 w7.heap.size (Blk.new _ _ _))
        have B8 := Lib.hid (up B7.out (made w7 (.cells #[.int .i64 z] 3)) B7.out.size)
        go_wp2_with ((with_reducible show wpList _ _ _ (⟨some 34, _, _, _, _, _⟩ :: _) _ _); go_must (refine wp_app il.TI (c := 1) (n := 1) rfl _ _ rfl rfl rfl rfl rfl O8.out LZ.out JL2.out B8.out.size ?_))
        intro v9 w9 own9 gr9
        have B9 := Lib.hid (B8.out.trans (gr9.below O8.out B8.out.size))
        have O9 := Lib.hid own9
        obtain ⟨A3, c3, rfl, -⟩ := own9.open_
        clear own9 gr9 O8 LZ B8 e0
        go_wp2_with fail
        refine ⟨⟨k + 1, _, rfl, by omega, by go_num, by rw [JQ.out], by rw [JQ.out]; exact O9.out, B9.out⟩, by simp [intOf]; omega⟩
      · rw [if_neg (by intro h; simp at h; exact q h)] at TK
        obtain rfl := TK.out
        clear TK
        have O6 := Lib.hid (O5.out.below (made w5 (.cells #[.int .i64 z] 3)))
        have LY := Lib.hid (Lay.lit (E := il.E1) (w5.alloc (.cells #[.int .i64 z] 3)) z 3 w5.heap.size (Blk.new _ _ _))
        have B6 := Lib.hid (up B5.out (made w5 (.cells #[.int .i64 z] 3)) B5.out.size)
        cases dn with
        | true =>
          clear q
          go_wp2_with ((with_reducible show wpList _ _ _ (⟨some 34, _, _, _, _, _⟩ :: _) _ _); go_must (refine wp_app il.TI (c := 1) (n := 1) rfl _ _ rfl rfl rfl rfl rfl O6.out LY.out JL.out B6.out.size ?_))
          intro v7 w7 own7 gr7
          have B7 := Lib.hid (B6.out.trans (gr7.below O6.out B6.out.size))
          have O7 := Lib.hid own7
          obtain ⟨A2, c2, rfl, -⟩ := own7.open_
          clear own7 gr7 O6 LY B6 e0
          go_wp2_with fail
          refine ⟨⟨k + 1, _, rfl, by omega, by go_num, by rw [JQ.out], by rw [JQ.out]; exact O7.out, B7.out⟩, by simp [intOf]; omega⟩
        | false =>
          have q1 : decide (z > p) = false := decide_eq_false (fun h => q ⟨rfl, h⟩)
          clear q
          go_wp2_with ((with_reducible show wpList _ _ _ (⟨some 34, _, _, _, _, _⟩ :: _) _ _); go_must (refine wp_app il.TI (c := 1) (n := 1) rfl _ _ rfl rfl rfl rfl rfl O6.out LY.out JL.out B6.out.size ?_))
          intro v7 w7 own7 gr7
          have B7 := Lib.hid (B6.out.trans (gr7.below O6.out B6.out.size))
          have O7 := Lib.hid own7
          obtain ⟨A2, c2, rfl, -⟩ := own7.open_
          clear own7 gr7 O6 LY B6 e0
          go_wp2_with fail
          refine ⟨⟨k + 1, _, rfl, by omega, by go_num, by rw [JQ.out], by rw [JQ.out]; exact O7.out, B7.out⟩, by simp [intOf]; omega⟩
    · obtain rfl : k = l.length := by omega
      generalize J l.length = s at *
      obtain ⟨dn, M⟩ := s
      dsimp only at *
      obtain ⟨Av, cv, rfl, -⟩ := hown.open_
      clear hown hb5
      cases dn with
      | true =>
        rw [if_pos rfl] at TT
        obtain rfl := TT.out
        go_wp2_with fail
        go_ret
        exact ⟨_, rfl, O5.out, B5.out⟩
      | false =>
        rw [if_neg (by decide)] at TT
        obtain rfl := TT.out
        have O6 := Lib.hid (O5.out.below (made w5 (.cells #[.int .i64 p] 3)))
        have LY := Lib.hid (Lay.lit (E := il.E1) (w5.alloc (.cells #[.int .i64 p] 3)) p 3 w5.heap.size (Blk.new _ _ _))
        have B6 := Lib.hid (up B5.out (made w5 (.cells #[.int .i64 p] 3)) B5.out.size)
        go_wp2_with ((with_reducible show wpList _ _ _ (⟨some 40, _, _, _, _, _⟩ :: _) _ _); go_must (refine wp_app il.TI (c := 1) (n := 1) rfl _ _ rfl rfl rfl rfl rfl O6.out LY.out JL.out B6.out.size ?_))
        intro v7 w7 own7 gr7
        have B7 := Lib.hid (B6.out.trans (gr7.below O6.out B6.out.size))
        have O7 := Lib.hid own7
        obtain ⟨A2, c2, rfl, -⟩ := own7.open_
        clear own7 gr7 O6 LY B6
        go_wp2_with fail
        go_ret
        exact ⟨_, rfl, O7.out, B7.out⟩
end Go.Proofs.YtemkhblogmdleaaDoor.acw
