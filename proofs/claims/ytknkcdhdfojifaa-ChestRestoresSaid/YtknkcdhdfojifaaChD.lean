/-
  Chests: contracts of what changes them.
-/
import Derived.Test.YtknkcdhdfojifaaChC
namespace Go.Proofs.Ytknkcdhdfojifaa.ch
open Go.RowKit
open base (ret_bool ret_int made up Blk Only)
open rk mk
set_option linter.unusedVariables false
set_option linter.unusedSimpArgs false

/-- an append that is carried out: its run is known -/
theorem op_app {P : Program} {ts : TypeId} {o : Oper} {a : Act} {w w' : World} {K : Act → World → Prop} {Q : Exit → Act → World → Prop} (s x : Operand)
    (ho : o.op = .call { callee := .builtin .append, args := #[s, x], argTypes := #[ts, ts] }) (hty : o.type = ts) {v X v' : Value} (h1 : a.eval s = v) (h2 : a.eval x = X)
    (hr : (Builtin.append_ #[ts, ts] ts #[v, X]).run P w = .ok v' w') (k : K (a.put o.dst v') w') : Oper.wp P o a w K Q := by
  unfold Oper.wp execOp
  simp only [ho, resolve, invoke, builtin, Sem.run_bind, Sem.run_pure, Result.andThen_ok, List.map_toArray, List.map_cons, List.map_nil, h1, h2, hty, hr]
  exact k
theorem CAt.drew {w : World} {B g b c : Nat} {L : List C2} (h : CAt w B g b L c) : CAt w.drew B g b L c := h.below (Below.refl _ w).drew
set_option maxRecDepth 100000 in
set_option maxHeartbeats 2000000 in
theorem build_no {B g b c : Nat} {L : List C2} {n r : Int} {w : World} (h : CAt w B g b L c) (hw : (Lit.int .i64 n).wf = true) (he : buildErr L n r ≠ 0) :
    Calls Try.prog 19 #[.pointer (some ⟨g, 0, none⟩), .int .i64 n, .int .i64 r] w fun e w' => e = .returned (.tuple #[.int .i64 0, .int .i64 (buildErr L n r)]) ∧ w = w' := by
  have LE := Lib.hid (len_any h hw)
  have RI := Lib.hid (right_any r w)
  have AE := Lib.hid (show buildErr L n r = if n < 1 then 10 else if oki r = false then 11 else if 4 ≤ (nd L n).length then 12 else 0 from rfl)
  have HE := Lib.hid he
  generalize buildErr L n r = er at *
  generalize (nd L n).length = z at *
  clear h hw he
  by_cases q1 : n < 1
  · have e1 := AE.out
    rw [if_pos q1] at e1
    subst e1
    go_enter Try.func19, Try.ntmps19
    go_wp2_with fail
    go_ret2
    exact ⟨rfl, rfl⟩
  cases q2 : oki r with
  | false =>
    have e1 := AE.out
    rw [if_neg q1, if_pos q2] at e1
    subst e1
    rw [q2] at RI
    go_enter Try.func19, Try.ntmps19
    go_wp2_with fail
    refine RI.out.mono ?_
    rintro e w1 ⟨rfl, rfl⟩
    go_wp2_with fail
    go_ret2
    exact ⟨rfl, rfl⟩
  | true =>
    rw [q2] at RI
    have e1 := AE.out
    rw [if_neg q1, q2, if_neg (by decide)] at e1
    by_cases q3 : 4 ≤ z
    · rw [if_pos q3] at e1
      subst e1
      go_enter Try.func19, Try.ntmps19
      go_wp2_with fail
      refine RI.out.mono ?_
      rintro e w1 ⟨rfl, rfl⟩
      go_wp2_with fail
      refine LE.out.mono ?_
      rintro e w1 ⟨rfl, rfl⟩
      go_wp2_with fail
      go_ret2
      exact ⟨rfl, rfl⟩
    · rw [if_neg q3] at e1
      exact absurd e1 HE.out
theorem build_ok {L : List C2} {n r : Int} (h : buildErr L n r = 0) : ¬ n < 1 ∧ oki r = true ∧ (nd L n).length < 4 := by
  unfold buildErr at h
  split at h
  · exact absurd h (by decide)
  split at h
  · exact absurd h (by decide)
  split at h
  · exact absurd h (by decide)
  rename_i a b d
  exact ⟨a, by simpa using b, by omega⟩
set_option maxRecDepth 100000 in
set_option maxHeartbeats 2000000 in
theorem build_yes {B g b c : Nat} {L : List C2} {n r : Int} {w : World} (h : CAt w B g b L c) (hw : (Lit.int .i64 n).wf = true) (hl : L.length ≤ 100000) (hc : c ≤ 100000) (hB : B ≤ w.heap.size) (he : buildErr L n r = 0) :
    Calls Try.prog 19 #[.pointer (some ⟨g, 0, none⟩), .int .i64 n, .int .i64 r] w fun e w' => e = .returned (.tuple #[.int .i64 (((nd L n).length + 1 : Nat) : Int), .int .i64 0]) ∧ ∃ c', CAt w' B g b (L ++ [(n, r)]) c' ∧ Tch B b w w' ∧ c' ≤ c + 1 := by
  obtain ⟨q1, q2, q3⟩ := build_ok he
  have LE := Lib.hid (len_any h hw)
  have RI := Lib.hid (right_any r w)
  rw [q2] at RI
  obtain ⟨A, cc, v', W2, W3, c', lk, lk1, happ, hrun, hb2, h3, ht, hc'⟩ := h.drew.append r hw hl hc hB
  have LE3 := Lib.hid (len_any h3 hw)
  have en : (nd (L ++ [(n, r)]) n).length = (nd L n).length + 1 := by rw [nd_snoc, if_pos rfl]; simp
  rw [en] at LE3
  have H3 := Lib.hid h3
  have T3 := Lib.hid (show Tch B b w W3 from Tch.later (Below.refl _ w).drew ht)
  have S0 := Lib.hid (show w.drew.cell? ⟨g, 0, none⟩ = some (.map (some b)) ∧ (Instr.lookup 52 (.map (some b)) (.int .i64 n) false).run Try.prog w.drew = .ok (.slice A (nd L n).length cc) w.drew from ⟨h.drew.blk.cell 0, lk⟩)
  have hm1 := made w.drew (.cells #[.int .i64 r] 3)
  have S1 := Lib.hid (show (w.alloc (.cells #[.int .i64 r] 3)).drew.cell? ⟨g, 0, none⟩ = some (.map (some b)) from (h.drew.blk.below hm1 h.drew.blk.lt).cell 0)
  have S2 := Lib.hid (hb2.cell 0)
  have LK1 := Lib.hid (show (Instr.lookup 52 (.map (some b)) (.int .i64 n) false).run Try.prog ((w.alloc (.cells #[.int .i64 r] 3)).drew) = .ok (.slice A (nd L n).length cc) ((w.alloc (.cells #[.int .i64 r] 3)).drew) from lk1)
  have HAP := Lib.hid (show (Builtin.append_ #[43, 43] 43 #[.slice A (nd L n).length cc, .slice (some ⟨w.heap.size, 0, none⟩) 1 1]).run Try.prog ((w.alloc (.cells #[.int .i64 r] 3)).drew) = .ok v' W2 from happ)
  have HRN := Lib.hid hrun
  clear lk lk1 happ hrun hb2 h3 ht hm1 en h he
  generalize (nd L n).length = z at *
  go_enter Try.func19, Try.ntmps19
  go_wp2_with fail
  refine RI.out.mono ?_
  rintro e w1 ⟨rfl, rfl⟩
  go_wp2_with fail
  refine LE.out.mono ?_
  rintro e w1 ⟨rfl, rfl⟩
  go_upto_region 7 with fail
  refine wp_region_held_drew (S := fun ws => ws.cell? ⟨g, 0, none⟩ = some (.map (some b))) (by kernel_rfl) S0.out.1 (fun hHeld => ?_)
  refine wpAnyH_take (i := 0) (v := ?_) rfl (by kernel_rfl) (by kernel_rfl) (by kernel_rfl) (fun _ _ _ h => h) (Or.inl ⟨by rfl, ?_⟩) (by assumption) ?_
  rotate_left
  · (intro w hSw; (try dsimp only at hSw); first | (go_simp; done) | (go_simp; with_reducible rfl))
  simp only [Act.put, List.getElem_toArray, List.getElem_cons_zero, List.getElem_cons_succ, List.setIfInBounds_toArray, List.set_cons_zero, List.set_cons_succ]
  refine wpAnyH_take (i := 1) (v := ?_) rfl (by kernel_rfl) (by kernel_rfl) (by kernel_rfl) (fun _ _ _ h => h) (Or.inl ⟨by rfl, ?_⟩) (by assumption) ?_
  rotate_left
  · (intro w hSw; (try dsimp only at hSw); first | (go_simp; done) | (go_simp; with_reducible rfl))
  simp only [Act.put, List.getElem_toArray, List.getElem_cons_zero, List.getElem_cons_succ, List.setIfInBounds_toArray, List.set_cons_zero, List.set_cons_succ]
  refine wpAnyH_take (i := 2) (v := ?_) rfl (by kernel_rfl) (by kernel_rfl) (by kernel_rfl) (fun _ _ _ h => h) (Or.inl ⟨by rfl, ?_⟩) (by assumption) ?_
  rotate_left
  · (intro w hSw; (try dsimp only at hSw); first | (go_simp; done) | (go_simp; with_reducible rfl))
  simp only [Act.put, List.getElem_toArray, List.getElem_cons_zero, List.getElem_cons_succ, List.setIfInBounds_toArray, List.set_cons_zero, List.set_cons_succ]
  refine wpAnyH_take (i := 3) (v := ?_) rfl (by kernel_rfl) (by kernel_rfl) (by kernel_rfl) (fun _ _ _ h => h) (Or.inl ⟨by rfl, ?_⟩) (by assumption) ?_
  rotate_left
  · (intro w hSw; (try dsimp only at hSw); first | (go_simp; done) | (go_simp; with_reducible rfl))
  simp only [Act.put, List.getElem_toArray, List.getElem_cons_zero, List.getElem_cons_succ, List.setIfInBounds_toArray, List.set_cons_zero, List.set_cons_succ]
  refine wpAnyH_take (i := 4) (v := ?_) rfl (by kernel_rfl) (by kernel_rfl) (by kernel_rfl) (fun _ _ _ h => h) (Or.inl ⟨by rfl, ?_⟩) (by assumption) ?_
  rotate_left
  · (intro w hSw; (try dsimp only at hSw); first | (go_simp; done) | (go_simp; with_reducible rfl))
  simp only [Act.put, List.getElem_toArray, List.getElem_cons_zero, List.getElem_cons_succ, List.setIfInBounds_toArray, List.set_cons_zero, List.set_cons_succ]
  refine wpAnyH_take (i := 5) (v := ?_) rfl (by kernel_rfl) (by kernel_rfl) (by kernel_rfl) (fun _ _ _ h => h) (Or.inl ⟨by rfl, ?_⟩) (by assumption) ?_
  rotate_left
  · (intro w hSw; (try dsimp only at hSw); first | (go_simp; done) | (go_simp; with_reducible rfl))
  simp only [Act.put, List.getElem_toArray, List.getElem_cons_zero, List.getElem_cons_succ, List.setIfInBounds_toArray, List.set_cons_zero, List.set_cons_succ]
  refine wpAnyH_take (i := 6) (v := ?_) rfl (by kernel_rfl) (by kernel_rfl) (by kernel_rfl) (fun _ _ _ h => h) (Or.inl ⟨by rfl, ?_⟩) (by assumption) ?_
  rotate_left
  · (intro w hSw; (try dsimp only at hSw); first | (go_simp; done) | (go_simp; with_reducible rfl))
  simp only [Act.put, List.getElem_toArray, List.getElem_cons_zero, List.getElem_cons_succ, List.setIfInBounds_toArray, List.set_cons_zero, List.set_cons_succ]
  refine wpAnyH_take (i := 7) (v := ?_) rfl (by kernel_rfl) (by kernel_rfl) (by kernel_rfl) (fun _ _ _ h => h) (Or.inl ⟨by rfl, ?_⟩) (by assumption) ?_
  rotate_left
  · (intro w hSw; (try dsimp only at hSw); first | (go_simp; done) | (go_simp; with_reducible rfl))
  simp only [Act.put, List.getElem_toArray, List.getElem_cons_zero, List.getElem_cons_succ, List.setIfInBounds_toArray, List.set_cons_zero, List.set_cons_succ]
  refine wpAnyH_take (i := 8) (v := ?_) rfl (by kernel_rfl) (by kernel_rfl) (by kernel_rfl) (fun _ _ _ h => h) (Or.inl ⟨by rfl, ?_⟩) (by assumption) ?_
  rotate_left
  · (intro w hSw; (try dsimp only at hSw); first | (go_simp; done) | (go_simp; with_reducible rfl))
  simp only [Act.put, List.getElem_toArray, List.getElem_cons_zero, List.getElem_cons_succ, List.setIfInBounds_toArray, List.set_cons_zero, List.set_cons_succ]
  refine wpAnyH_take (i := 9) (v := ?_) rfl (by kernel_rfl) (by kernel_rfl) (by kernel_rfl) (fun _ _ _ h => h) (Or.inl ⟨by rfl, ?_⟩) (by assumption) ?_
  rotate_left
  · (intro w hSw; (try dsimp only at hSw); first | (go_simp; done) | (go_simp; with_reducible rfl))
  simp only [Act.put, List.getElem_toArray, List.getElem_cons_zero, List.getElem_cons_succ, List.setIfInBounds_toArray, List.set_cons_zero, List.set_cons_succ]
  refine wpAnyH_take (i := 11) (v := ?_) rfl (by kernel_rfl) (by kernel_rfl) (by kernel_rfl) (fun _ _ _ h => h) (Or.inl ⟨by rfl, ?_⟩) (by assumption) ?_
  rotate_left
  · (intro w hSw; (try dsimp only at hSw); first | (go_simp; done) | (go_simp; with_reducible rfl))
  simp only [Act.put, List.getElem_toArray, List.getElem_cons_zero, List.getElem_cons_succ, List.setIfInBounds_toArray, List.set_cons_zero, List.set_cons_succ]
  refine wpAnyH_ready (rs := [10, 12]) (by kernel_rfl) (by simp) ?_
  refine AllReadyH.cons rfl (fun K hK => ?_) (AllReadyH.cons rfl (fun K hK => ?_) AllReadyH.nil)
  · have lk := S0.out.2
    go_simp
    refine hK.out _ _ S0.out.1 (fun hH1 => ?_)
    clear hK K hHeld lk
    refine wpAnyH_ready (rs := [12]) (by kernel_rfl) (by simp) ?_
    refine AllReadyH.cons rfl (fun K hK => ?_) AllReadyH.nil
    go_simp
    refine hK.out _ _ S1.out (fun hH2 => ?_)
    clear hK K hH1
    generalize (w.alloc (.cells #[.int .i64 r] 3)).drew = W1 at *
    have happ := HAP.out
    refine wpAnyH_ready (rs := [13]) (by kernel_rfl) (by simp) ?_
    refine AllReadyH.cons rfl (fun K hK => ?_) AllReadyH.nil
    rw [if_pos (by rfl)]
    refine op_app (.tmp 30) (.tmp 32) rfl rfl rfl rfl happ ?_
    simp only [Act.put, List.setIfInBounds_toArray, List.set_cons_zero, List.set_cons_succ]
    refine hK.out _ _ S2.out (fun hH3 => ?_)
    clear hK K hH2 happ HAP
    have hrun := HRN.out
    refine wpAnyH_ready (rs := [14]) (by kernel_rfl) (by simp) ?_
    refine AllReadyH.cons rfl (fun K hK => ?_) AllReadyH.nil
    go_simp
    refine hK.out _ _ (H3.out.blk.cell 0) (fun hH4 => ?_)
    clear hK K hH3 hrun HRN
    refine wpAnyH_done (by kernel_rfl) ?_ _
    clear hH4 S0 S1 S2
    go_wp2_with fail
    refine LE3.out.mono ?_
    rintro e w1 ⟨rfl, rfl⟩
    go_wp2_with fail
    go_ret2
    exact ⟨rfl, _, H3.out, T3.out, hc'⟩
  · go_simp
    refine hK.out _ _ S1.out (fun hH1 => ?_)
    clear hK K hHeld
    generalize (w.alloc (.cells #[.int .i64 r] 3)).drew = W1 at *
    have lk := LK1.out
    refine wpAnyH_ready (rs := [10]) (by kernel_rfl) (by simp) ?_
    refine AllReadyH.cons rfl (fun K hK => ?_) AllReadyH.nil
    go_simp
    refine hK.out _ _ S1.out (fun hH2 => ?_)
    clear hK K hH1 lk
    have happ := HAP.out
    refine wpAnyH_ready (rs := [13]) (by kernel_rfl) (by simp) ?_
    refine AllReadyH.cons rfl (fun K hK => ?_) AllReadyH.nil
    rw [if_pos (by rfl)]
    refine op_app (.tmp 30) (.tmp 32) rfl rfl rfl rfl happ ?_
    simp only [Act.put, List.setIfInBounds_toArray, List.set_cons_zero, List.set_cons_succ]
    refine hK.out _ _ S2.out (fun hH3 => ?_)
    clear hK K hH2 happ HAP
    have hrun := HRN.out
    refine wpAnyH_ready (rs := [14]) (by kernel_rfl) (by simp) ?_
    refine AllReadyH.cons rfl (fun K hK => ?_) AllReadyH.nil
    go_simp
    refine hK.out _ _ (H3.out.blk.cell 0) (fun hH4 => ?_)
    clear hK K hH3 hrun HRN
    refine wpAnyH_done (by kernel_rfl) ?_ _
    clear hH4 S0 S1 S2
    go_wp2_with fail
    refine LE3.out.mono ?_
    rintro e w1 ⟨rfl, rfl⟩
    go_wp2_with fail
    go_ret2
    exact ⟨rfl, _, H3.out, T3.out, hc'⟩
end Go.Proofs.Ytknkcdhdfojifaa.ch
