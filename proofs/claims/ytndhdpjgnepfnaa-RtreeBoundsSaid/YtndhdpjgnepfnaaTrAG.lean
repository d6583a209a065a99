/-
  R-trees: Insert, Bounds.
-/
import Derived.Test.YtndhdpjgnepfnaaTrAF
namespace Go.Proofs.Ytndhdpjgnepfnaa.tr
open Go.RowKit
open base (ret_bool ret_int made up Blk Only)
open rk (Lay)
open rect
set_option linter.unusedVariables false
set_option linter.unusedSimpArgs false
attribute [local go_sem] Oper.semAt_some

/-- a tree that has the things S -/
def Tr (w : World) (t : Nat) (S : List Th) (F : Nat → Prop) : Prop := ∃ h root v X, TAt w t h S.length root v X ∧ (h = 0 ∨ 2 ≤ X.length) ∧ (all X).Perm S ∧ ∀ k, F k ↔ k = t ∨ foot root v X k
theorem Tr.below {w w' : World} {t : Nat} {S : List Th} {F : Nat → Prop} (h : Tr w t S F) (hb : Below w.heap.size w w') : Tr w' t S F := by
  obtain ⟨h, root, v, X, a1, a2, a3, a4⟩ := h
  exact ⟨h, root, v, X, a1.below hb, a2, a3, a4⟩
theorem Tr.lt {w : World} {t : Nat} {S : List Th} {F : Nat → Prop} (h : Tr w t S F) : ∀ k, F k → k < w.heap.size := fun k hk => by
  obtain ⟨h, root, v, X, a1, a2, a3, a4⟩ := h
  rcases (a4 k).1 hk with rfl | q
  · exact a1.blk.lt
  · exact a1.nd.lt k q
theorem Tr.only {w w' : World} {t : Nat} {S : List Th} {F T : Nat → Prop} (h : Tr w t S F) (ho : Only T w w') (hd : ∀ k, F k → ¬ T k) : Tr w' t S F := by
  obtain ⟨h, root, v, X, a1, a2, a3, a4⟩ := h
  exact ⟨h, root, v, X, a1.keep (ho.block t a1.blk.lt (hd t ((a4 t).2 (.inl rfl)))) (fun k hk => ho.block k (a1.nd.lt k hk) (hd k ((a4 k).2 (.inr hk)))), a2, a3, a4⟩
theorem Tr.right {w : World} {t : Nat} {S : List Th} {F : Nat → Prop} (h : Tr w t S F) : ∀ d ∈ S, d.1.right = true := fun d hd => by
  obtain ⟨h, root, v, X, a1, a2, a3, a4⟩ := h
  exact a1.nd.things d.1 (List.mem_map.2 ⟨d, a3.mem_iff.2 hd, rfl⟩)
/-- what a call that turns a tree leaves -/
def InsP (t : Nat) (S : List Th) (F : Nat → Prop) (d : Th) (w : World) (e : Ending) (w' : World) : Prop :=
  (d.1.right = false ∧ e = .returned (.int .i64 11) ∧ Below w.heap.size w w') ∨ (d.1.right = true ∧ d ∈ S ∧ e = .returned (.int .i64 13) ∧ Below w.heap.size w w') ∨
  (d.1.right = true ∧ d ∉ S ∧ e = .returned (.int .i64 0) ∧ ∃ F', Tr w' t (S ++ [d]) F' ∧ Only F w w' ∧ ∀ k, F' k → F k ∨ w.heap.size ≤ k)
set_option maxRecDepth 100000 in
set_option maxHeartbeats 4000000 in
theorem insert_any (t : Nat) (S : List Th) (F : Nat → Prop) (r : Bx) (val : Int) (w : World) (ht : Tr w t S F) (hl : S.length ≤ 900) :
    Calls Try.prog 29 #[.pointer (some ⟨t, 0, none⟩), (.agg #[.int .i64 r.x, .int .i64 r.y, .int .i64 r.w, .int .i64 r.h]), .int .i64 val] w (InsP t S F (r, val) w) := by
  obtain ⟨h, root, v, X, a1, a2, a3, a4⟩ := ht
  obtain ⟨w1, hw1⟩ : ∃ w1, w.alloc (.cells #[.int .i64 r.x, .int .i64 r.y, .int .i64 r.w, .int .i64 r.h] 28) = w1 := ⟨_, rfl⟩
  have M1 := Lib.hid (show Below w.heap.size w w1 from by rw [← hw1]; exact made w _)
  have RB := Lib.hid (show Blk w1 w.heap.size 28 #[.int .i64 r.x, .int .i64 r.y, .int .i64 r.w, .int .i64 r.h] from by rw [← hw1]; exact Blk.new _ _ _)
  have T1 := Lib.hid (a1.below M1.out)
  have A2 := Lib.hid a2
  have A3 := Lib.hid a3
  have A4 := Lib.hid a4
  have HL := Lib.hid hl
  have HH := Lib.hid (a1.high (by rw [a3.length_eq]; omega))
  have RG := Lib.hid (right_any r.x r.y r.w r.h w1)
  have HW1 := Lib.hid hw1
  clear a1 a2 a3 a4 hw1 hl
  go_enter Try.func29, Try.ntmps29
  go_upto_region 1 with fail
  have hw1 := HW1.out
  simp only [hw1]
  clear hw1 HW1
  obtain ⟨x0, x1, x2, x3⟩ := RB.out.four
  go_wp2_with fail
  refine RG.out.mono ?_
  rintro e w2 ⟨rfl, hb2⟩
  have B2 := Lib.hid (show Below w1.heap.size w1 w2 from hb2)
  clear hb2 RG x0 x1 x2 x3
  have UN2 := Lib.hid (up M1.out B2.out M1.out.size)
  obtain ⟨rr, hrr⟩ : ∃ rr, rightB r.x r.y r.w r.h = rr := ⟨_, rfl⟩
  rw [hrr]
  have HRR := Lib.hid (show r.right = rr from hrr)
  clear hrr
  cases rr with
  | false =>
    go_wp2_with fail
    go_ret
    exact .inl ⟨HRR.out, rfl, UN2.out⟩
  | true =>
    have T2 := Lib.hid (T1.out.below B2.out)
    have HA := Lib.hid (has_any t h S.length root v X r val w2 T2.out HRR.out T2.out.nd.things)
    obtain ⟨x0, x1, x2, x3⟩ := (RB.out.below B2.out RB.out.lt).four
    go_wp2_with fail
    refine HA.out.mono ?_
    rintro e w3 ⟨rfl, hb3⟩
    have B3 := Lib.hid hb3
    have UN3 := Lib.hid (up UN2.out B3.out UN2.out.size)
    have T3 := Lib.hid (T2.out.below B3.out)
    have B13 := Lib.hid (up B2.out B3.out B2.out.size)
    clear hb3 HA x0 x1 x2 x3
    by_cases hm : (r, val) ∈ all X
    · rw [decide_eq_true hm]
      have HM := Lib.hid (A3.out.mem_iff.1 hm)
      clear hm
      go_wp2_with fail
      go_ret
      exact .inr (.inl ⟨HRR.out, HM.out, rfl, UN3.out⟩)
    · rw [decide_eq_false hm]
      have HM := Lib.hid (fun q => hm (A3.out.mem_iff.2 q))
      clear hm
      have AD := Lib.hid (tadd_any t h S.length root 0 v X ⟨r, none, val⟩ none [(r, val)] (fun _ => False) w3 T3.out (Nat.zero_le _) (by have := HH.out; omega) ⟨rfl, rfl, fun _ q => q, HRR.out⟩ rfl (fun _ q => q.elim) (fun q => q))
      dsimp only at AD
      obtain ⟨x0, x1, x2, x3⟩ := (RB.out.below B13.out RB.out.lt).four
      go_wp2_with fail
      refine AD.out.mono ?_
      rintro e w4 ⟨rfl, h', root', v', X', b1, b2, b3, b4, b5, b6, b7, b8⟩
      have c2 := b1.blk.cell 2
      have f2 := b1.blk.free 2
      have wk : IntKind.i64.wrap ((S.length : Int) + 1) = (S.length : Int) + 1 := IntWalk.i64_in _ (by have := HL.out; omega)
      have tb : TAt (w4.setCell ⟨t, 2, none⟩ (.int .i64 ((S.length : Int) + 1))) t h' (S ++ [(r, val)]).length root' v' X' := by
        have o2 : Only (fun k => k = t) w4 (w4.setCell ⟨t, 2, none⟩ (.int .i64 ((S.length : Int) + 1))) := (Only.refl (fun k => k = t) w4).setCell (p := ⟨t, 2, none⟩) (.inl rfl) _
        have p2 := b1.blk.put 2 (.int .i64 ((S.length : Int) + 1))
        simp only [List.setIfInBounds_toArray, List.set_cons_zero, List.set_cons_succ] at p2
        have e : ((S ++ [(r, val)]).length : Int) = (S.length : Int) + 1 := by simp
        exact ⟨by rw [e]; exact p2, b1.nd.only o2 (fun k hk e => b1.apart (e ▸ hk)), b1.most, b1.least, b1.apart⟩
      have FIN := Lib.hid (show ∃ F', Tr (w4.setCell ⟨t, 2, none⟩ (.int .i64 ((S.length : Int) + 1))) t (S ++ [(r, val)]) F' ∧ Only F w (w4.setCell ⟨t, 2, none⟩ (.int .i64 ((S.length : Int) + 1))) ∧ ∀ k, F' k → F k ∨ w.heap.size ≤ k from
        ⟨fun k => k = t ∨ foot root' v' X' k, ⟨h', root', v', X', tb, by
          by_cases hh : h' = 0
          · exact .inl hh
          · right
            rcases b2 with q | q
            · have := b5 q.symm
              rcases A2.out with q' | q' <;> omega
            · exact b4 (by omega), b6.trans (A3.out.append_right _), fun k => Iff.rfl⟩,
         ((((Only.refl F w).below UN3.out (fun k hk hk2 => absurd hk (by omega))).trans b7 (fun k _ q => (A4.out k).2 q)).setCell (p := ⟨t, 2, none⟩) (.inl ((A4.out t).2 (.inl rfl))) _),
         fun k hk => by
          rcases hk with rfl | hk
          · exact .inl ((A4.out k).2 (.inl rfl))
          · rcases b8 k hk with q | q | q
            · exact .inl ((A4.out k).2 (.inr q))
            · exact q.elim
            · exact .inr (by have := UN3.out.size; omega)⟩)
      clear AD b1 b2 b3 b4 b5 b6 b7 b8 tb x0 x1 x2 x3
      go_wp2_with fail
      go_ret
      exact .inr (.inr ⟨HRR.out, HM.out, rfl, FIN.out⟩)
/-- Delete, told of things -/
def DelT (t : Nat) (S : List Th) (F : Nat → Prop) (d : Th) (w : World) (e : Ending) (w' : World) : Prop :=
  (d ∉ S ∧ e = .returned (.int .i64 14) ∧ Below w.heap.size w w') ∨ (d ∈ S ∧ e = .returned (.int .i64 0) ∧ ∃ F' S', Tr w' t S' F' ∧ S.Perm (d :: S') ∧ Only F w w' ∧ ∀ k, F' k → F k ∨ w.heap.size ≤ k)
theorem Tr.delete (t : Nat) (S : List Th) (F : Nat → Prop) (r : Bx) (val : Int) (w : World) (ht : Tr w t S F) (hl : S.length ≤ 900) :
    Calls Try.prog 30 #[.pointer (some ⟨t, 0, none⟩), (.agg #[.int .i64 r.x, .int .i64 r.y, .int .i64 r.w, .int .i64 r.h]), .int .i64 val] w (DelT t S F (r, val) w) := by
  obtain ⟨h, root, v, X, a1, a2, a3, a4⟩ := ht
  have hlen := a3.length_eq
  rw [← hlen] at a1
  refine (delete_any t h root v X r val w a1 a2 (by omega)).mono ?_
  rintro e w' (⟨rfl, h1, h2⟩ | ⟨rfl, h', root', v', X', b1, b2, b3, b4, b5⟩)
  · exact .inl ⟨fun q => h2 (a3.mem_iff.2 q), rfl, h1⟩
  · have hl2 := b3.length_eq
    simp only [List.length_cons] at hl2
    rw [hl2, Nat.add_sub_cancel] at b1
    exact .inr ⟨a3.mem_iff.1 (b3.mem_iff.2 List.mem_cons_self), rfl, fun k => k = t ∨ foot root' v' X' k, all X', ⟨h', root', v', X', b1, b2, List.Perm.refl _, fun k => Iff.rfl⟩, a3.symm.trans b3, b4.mono (fun k _ q => (a4 k).2 q), fun k hk => by
      rcases hk with rfl | hk
      · exact .inl ((a4 k).2 (.inl rfl))
      · exact (b5 k hk).imp (fun q => (a4 k).2 (.inr q)) id⟩
end Go.Proofs.Ytndhdpjgnepfnaa.tr
