/-
  R-trees: Check.
-/
import Derived.Test.YtndhdpjgnepfnaaTrAH
namespace Go.Proofs.Ytndhdpjgnepfnaa.tr
open Go.RowKit Go.Shelf
open base (ret_bool ret_int made up Blk Only)
open rk (Lay)
open rect rgm
set_option linter.unusedVariables false
set_option linter.unusedSimpArgs false
attribute [local go_sem] Oper.semAt_some

theorem tl_all {h g : Nat} {w : World} {v : Value} {X : List Ex} (hn : NdOf (Ent h) w g v X) : tl Bx.right X = all X := by
  unfold tl
  rw [List.filter_eq_self]
  exact fun d hd => hn.things d.1 (List.mem_map.2 ⟨d, hd, rfl⟩)
/-- the box of a call of Check -/
structure KS (w : World) (m : Nat) (W : World) : Prop where
  b0 : Blk W w.heap.size 3 #[.int .i64 m]
  below : Below w.heap.size w W
theorem KS.only {w W W' : World} {m : Nat} {T : Nat → Prop} (h : KS w m W) (ho : Only T W W') (hT : ∀ k, k < w.heap.size + 1 → ¬ T k) : KS w m W' :=
  ⟨h.b0.only ho (hT _ (by omega)), h.below.trans (Only.to_below ho (fun i hi => hT i (by omega)) h.below.size)⟩
set_option maxRecDepth 100000 in
set_option maxHeartbeats 4000000 in
theorem check_any (t : Nat) (S : List Th) (F : Nat → Prop) (w : World) (ht : Tr w t S F) (hl : S.length ≤ 1000) : Calls Try.prog 11 #[.pointer (some ⟨t, 0, none⟩)] w fun e w' => e = .returned (.bool true) ∧ Below w.heap.size w w' := by
  obtain ⟨h, root, v, X, a1, a2, a3, a4⟩ := ht
  have hlen := a3.length_eq
  have hh := a1.high (by omega)
  obtain ⟨w2, hw2⟩ : ∃ w2, w.alloc (.cells #[.int .i64 0] 3) = w2 := ⟨_, rfl⟩
  have A0 : KS w 0 w2 := by
    rw [← hw2]
    exact ⟨Blk.new _ _ _, made w _⟩
  have Z2 := Lib.hid (show w2.heap.size = w.heap.size + 1 by rw [← hw2, asz])
  have A2 := Lib.hid A0
  have LM := Lib.hid (all_make t w2)
  have Q2 := Lib.hid (a1.below A0.below)
  have GW := Lib.hid (And.intro a1.blk.lt a1.nd.lt)
  have TLA := Lib.hid (show (tl Bx.right X).length = S.length from by rw [tl_all a1.nd, hlen])
  have HL := Lib.hid hl
  have H2 := Lib.hid (And.intro a2 hh)
  have HW2 := Lib.hid hw2
  clear A0 a1 a2 a3 a4 hlen hl hh hw2
  refine (callsIn_wide (n := 3)).1 ?_
  refine callsIn_of_wp_marks Try.func11 rfl trivial ?_ rfl
  simp only [Try.ntmps11, List.size_toArray, List.length_cons, List.length_nil, Nat.reduceAdd, Nat.reduceSub, Array.replicate_succ, Array.replicate_zero, List.push_toArray, List.append_toArray, List.nil_append, List.cons_append]
  refine wpIn_wide.2 (calm_wp ?_)
  go_upto_region 2 with fail
  have hw2 := HW2.out
  try simp only [hw2]
  clear hw2 HW2
  go_wp2_with fail
  refine LM.out.mono ?_
  rintro e w3 ⟨B, rfl, hBB, hx3, hb3⟩
  have X3 := Lib.hid hx3
  have BB := Lib.hid hBB
  have A3 := Lib.hid (A2.out.only (T := fun k => w2.heap.size ≤ k) ((Only.refl _ w2).below hb3 (fun i hi h => h)) (fun k hk => by have := Z2.out; omega))
  have Q3 := Lib.hid (Q2.out.below hb3)
  have Z3 := Lib.hid (show w.heap.size + 1 ≤ w3.heap.size from by have := Z2.out; have := hb3.size; omega)
  clear hx3 hb3 LM A2 Q2 hBB
  unfold seqV
  go_wp2_with fail
  refine (wpIn_wide (n := 3)).1 ?_
  refine' wp_things5 Bx.right (.func 35) #[] #[] searchR_ok B t h S.length root v X rfl rfl X3.out Q3.out (fun m W => m ≤ S.length ∧ KS w m W ∧ TAt W t h S.length root v X) (fun c W => False) (fun j => j = w.heap.size) _ ?hS ⟨Nat.zero_le _, A3.out, Q3.out⟩ ?hJs ?hEs ?assign ?body ?done ?stop
  case hS =>
    have z2 := Z2.out
    have z3 := Z3.out
    have gw := GW.out.1
    have bb := BB.out
    have hbl : ∀ j, w.heap.size ≤ j → ¬ foot root v X j := fun j hj e => by have := GW.out.2 j e; omega
    rintro j rfl
    exact ⟨by omega, by omega, hbl _ (by omega), by omega, by omega⟩
  case hJs =>
    rintro m W W' ⟨h0, h1, h2⟩ ho
    have z3 := Z3.out
    exact ⟨h0, h1.only ho (fun k hk => by omega), h2.keep (ho.block t h2.blk.lt (by have := GW.out.1; omega)) (fun k hk => ho.block k (h2.nd.lt k hk) (by have := GW.out.2 k hk; omega))⟩
  case hEs =>
    rintro c W W' h ho
    exact h
  case assign =>
    intro d W K hK
    simp only [targs, List.zip_toArray, List.zip_cons_cons, List.zip_nil_right, List.foldl_toArray, List.foldl_cons, List.foldl_nil, List.setIfInBounds_toArray, List.set_cons_succ, List.set_cons_zero]
    gi_wp2
    exact hK
  case body =>
    rintro m d Wc hm hd ⟨hmS, ha, hta⟩ hlt
    rw [TLA.out] at hm
    have c0 := ha.b0.cell 0
    have f0 := ha.b0.free 0
    have wk : IntKind.i64.wrap ((m : Int) + 1) = (m : Int) + 1 := IntWalk.i64_in _ (by have := HL.out; omega)
    have e1 : ((m + 1 : Nat) : Int) = (m : Int) + 1 := by omega
    have FIN := Lib.hid (show (m + 1) ≤ S.length ∧ KS w (m + 1) (Wc.setCell ⟨w.heap.size, 0, none⟩ (.int .i64 ((m : Int) + 1))) ∧ TAt (Wc.setCell ⟨w.heap.size, 0, none⟩ (.int .i64 ((m : Int) + 1))) t h S.length root v X from
      ⟨by omega, ⟨by rw [e1]; exact ha.b0.put 0 _, ha.below.setCell (p := ⟨w.heap.size, 0, none⟩) (Nat.le_refl _) _⟩, hta.keep (Below.heap_setCell Wc _ _ _ (by have := GW.out.1; show t ≠ w.heap.size; omega)) (fun k hk => Below.heap_setCell Wc _ _ _ (by have := GW.out.2 k hk; show k ≠ w.heap.size; omega))⟩)
    clear hm hd ha hlt hta hmS e1
    gi_wp2
    exact ⟨one_only _ _ _, FIN.out⟩
  case done =>
    rintro W ⟨hl, ha, hta⟩ hs hK
    rw [TLA.out] at ha
    have KD := Lib.hid hK
    have HA := Lib.hid ha
    have HTA := Lib.hid hta
    have DW := Lib.hid (show w.heap.size ≤ w3.heap.size from by have := Z3.out; omega)
    have BL := Lib.hid (show Below W.heap.size W (W.drewN 1) from base.below_drewN (Below.refl _ W) 1)
    have RK := Lib.hid (right_ok h (by have := H2.out.2; omega) root v X true (W.drewN 1) (hta.below BL.out).nd hta.most (by
      rcases H2.out.1 with q | q
      · exact .inl ⟨rfl, q⟩
      · exact .inr q))
    have q1 : ((S.length : Int) == (S.length : Int)) = true := by rw [beq_iff_eq]
    clear hl ha hs hK hta
    go_wp2_with fail
    have SS := Lib.hid (fun W' (hW : Below W.heap.size W W') => (show W'.cell? ⟨w.heap.size, 0, none⟩ = some (.int .i64 (S.length : Nat)) ∧ W'.cell? ⟨t, 0, none⟩ = some (.pointer (some ⟨root, 0, none⟩)) ∧ W'.cell? ⟨t, 1, none⟩ = some (.int .i64 h) ∧ W'.cell? ⟨t, 2, none⟩ = some (.int .i64 (S.length : Nat)) from
      ⟨(HA.out.b0.below hW HA.out.b0.lt).cell 0, (HTA.out.below hW).blk.cell 0, (HTA.out.below hW).blk.cell 1, (HTA.out.below hW).blk.cell 2⟩))
    refine wp_region_held_drew (S := fun ws => ws.cell? ⟨w.heap.size, 0, none⟩ = some (.int .i64 (S.length : Nat)) ∧ ws.cell? ⟨t, 0, none⟩ = some (.pointer (some ⟨root, 0, none⟩)) ∧ ws.cell? ⟨t, 1, none⟩ = some (.int .i64 h) ∧ ws.cell? ⟨t, 2, none⟩ = some (.int .i64 (S.length : Nat))) (by kernel_rfl) (SS.out _ BL.out) (fun hHeld => ?_)
    refine wpAnyH_take (i := 0) (v := ?_) rfl (by kernel_rfl) (by kernel_rfl) (by kernel_rfl) (fun _ _ _ h => h) (Or.inl ⟨by rfl, ?_⟩) (by assumption) ?_
    rotate_left
    · (intro w hSw; (try dsimp only at hSw); first | (go_simp; done) | (go_simp; with_reducible rfl))
    simp only [Act.put, List.getElem_toArray, List.getElem_cons_zero, List.getElem_cons_succ, List.setIfInBounds_toArray, List.set_cons_zero, List.set_cons_succ]
    refine wpAnyH_take (i := 1) (v := ?_) rfl (by kernel_rfl) (by kernel_rfl) (by kernel_rfl) (fun _ _ _ h => h) (Or.inl ⟨by rfl, ?_⟩) (by assumption) ?_
    rotate_left
    · (intro w hSw; (try dsimp only at hSw); first | (go_simp; done) | (go_simp; with_reducible rfl))
    simp only [Act.put, List.getElem_toArray, List.getElem_cons_zero, List.getElem_cons_succ, List.setIfInBounds_toArray, List.set_cons_zero, List.set_cons_succ]
    refine wpAnyH_take (i := 2) (v := ?_) rfl (by kernel_rfl) (by kernel_rfl) (by kernel_rfl) (fun _ _ _ h => h) (Or.inl ⟨by rfl, ?_⟩) (by assumption) ?_
    rotate_left
    · (intro w hSw; (try dsimp only at hSw); first | (go_simp; done) | (go_simp; with_reducible rfl))
    simp only [Act.put, List.getElem_toArray, List.getElem_cons_zero, List.getElem_cons_succ, List.setIfInBounds_toArray, List.set_cons_zero, List.set_cons_succ]
    refine wpAnyH_take (i := 3) (v := ?_) rfl (by kernel_rfl) (by kernel_rfl) (by kernel_rfl) (fun _ _ _ h => h) (Or.inl ⟨by rfl, ?_⟩) (by assumption) ?_
    rotate_left
    · (intro w hSw; (try dsimp only at hSw); first | (go_simp; done) | (go_simp; with_reducible rfl))
    simp only [Act.put, List.getElem_toArray, List.getElem_cons_zero, List.getElem_cons_succ, List.setIfInBounds_toArray, List.set_cons_zero, List.set_cons_succ]
    refine wpAnyH_take (i := 4) (v := ?_) rfl (by kernel_rfl) (by kernel_rfl) (by kernel_rfl) (fun _ _ _ h => h) (Or.inl ⟨by rfl, ?_⟩) (by assumption) ?_
    rotate_left
    · (intro w hSw; (try dsimp only at hSw); first | (go_simp; done) | (go_simp; with_reducible rfl))
    simp only [Act.put, List.getElem_toArray, List.getElem_cons_zero, List.getElem_cons_succ, List.setIfInBounds_toArray, List.set_cons_zero, List.set_cons_succ]
    refine wpAnyH_take (i := 5) (v := ?_) rfl (by kernel_rfl) (by kernel_rfl) (by kernel_rfl) (fun _ _ _ h => h) (Or.inl ⟨by rfl, ?_⟩) (by assumption) ?_
    rotate_left
    · (intro w hSw; (try dsimp only at hSw); first | (go_simp; done) | (go_simp; with_reducible rfl))
    simp only [Act.put, List.getElem_toArray, List.getElem_cons_zero, List.getElem_cons_succ, List.setIfInBounds_toArray, List.set_cons_zero, List.set_cons_succ]
    refine wpAnyH_take (i := 6) (v := ?_) rfl (by kernel_rfl) (by kernel_rfl) (by kernel_rfl) (fun _ _ _ h => h) (Or.inl ⟨by rfl, ?_⟩) (by assumption) ?_
    rotate_left
    · (intro w hSw; (try dsimp only at hSw); first | (go_simp; done) | (go_simp; with_reducible rfl))
    simp only [Act.put, List.getElem_toArray, List.getElem_cons_zero, List.getElem_cons_succ, List.setIfInBounds_toArray, List.set_cons_zero, List.set_cons_succ]
    refine wpAnyH_take (i := 7) (v := ?_) rfl (by kernel_rfl) (by kernel_rfl) (by kernel_rfl) (fun _ _ _ h => h) (Or.inl ⟨by rfl, ?_⟩) (by assumption) ?_
    rotate_left
    · (intro w hSw; (try dsimp only at hSw); first | (go_simp; done) | (go_simp; with_reducible rfl))
    simp only [Act.put, List.getElem_toArray, List.getElem_cons_zero, List.getElem_cons_succ, List.setIfInBounds_toArray, List.set_cons_zero, List.set_cons_succ]
    refine wpAnyH_take (i := 8) (v := ?_) rfl (by kernel_rfl) (by kernel_rfl) (by kernel_rfl) (fun _ _ _ h => h) (Or.inl ⟨by rfl, ?_⟩) (by assumption) ?_
    rotate_left
    · (intro w hSw; (try dsimp only at hSw); first | (go_simp; done) | (go_simp; with_reducible rfl))
    simp only [Act.put, List.getElem_toArray, List.getElem_cons_zero, List.getElem_cons_succ, List.setIfInBounds_toArray, List.set_cons_zero, List.set_cons_succ]
    refine wpAnyH_take (i := 9) (v := ?_) rfl (by kernel_rfl) (by kernel_rfl) (by kernel_rfl) (fun _ _ _ h => h) (Or.inl ⟨by rfl, ?_⟩) (by assumption) ?_
    rotate_left
    · (intro w hSw; (try dsimp only at hSw); first | (go_simp; done) | (go_simp; with_reducible rfl))
    simp only [Act.put, List.getElem_toArray, List.getElem_cons_zero, List.getElem_cons_succ, List.setIfInBounds_toArray, List.set_cons_zero, List.set_cons_succ]
    refine wpAnyH_take (i := 10) (v := ?_) rfl (by kernel_rfl) (by kernel_rfl) (by kernel_rfl) (fun _ _ _ h => h) (Or.inl ⟨by rfl, ?_⟩) (by assumption) ?_
    rotate_left
    · (intro w hSw; (try dsimp only at hSw); first | (go_simp; done) | (go_simp; with_reducible rfl))
    simp only [Act.put, List.getElem_toArray, List.getElem_cons_zero, List.getElem_cons_succ, List.setIfInBounds_toArray, List.set_cons_zero, List.set_cons_succ]
    refine wpAnyH_take (i := 11) (v := ?_) rfl (by kernel_rfl) (by kernel_rfl) (by kernel_rfl) (fun _ _ _ h => h) (Or.inl ⟨by rfl, ?_⟩) (by assumption) ?_
    rotate_left
    · (intro w hSw; (try dsimp only at hSw); first | (go_simp; done) | (go_simp; with_reducible rfl))
    simp only [Act.put, List.getElem_toArray, List.getElem_cons_zero, List.getElem_cons_succ, List.setIfInBounds_toArray, List.set_cons_zero, List.set_cons_succ]
    refine wpAnyH_take (i := 12) (v := ?_) rfl (by kernel_rfl) (by kernel_rfl) (by kernel_rfl) (fun _ _ _ h => h) (Or.inl ⟨by rfl, ?_⟩) (by assumption) ?_
    rotate_left
    · (intro w hSw; (try dsimp only at hSw); first | (go_simp; done) | (go_simp; with_reducible rfl))
    simp only [Act.put, List.getElem_toArray, List.getElem_cons_zero, List.getElem_cons_succ, List.setIfInBounds_toArray, List.set_cons_zero, List.set_cons_succ]
    refine wpAnyH_take (i := 13) (v := ?_) rfl (by kernel_rfl) (by kernel_rfl) (by kernel_rfl) (fun _ _ _ h => h) (Or.inl ⟨by rfl, ?_⟩) (by assumption) ?_
    rotate_left
    · (intro w hSw; (try dsimp only at hSw); first | (go_simp; done) | (go_simp; with_reducible rfl))
    simp only [Act.put, List.getElem_toArray, List.getElem_cons_zero, List.getElem_cons_succ, List.setIfInBounds_toArray, List.set_cons_zero, List.set_cons_succ]
    refine wpAnyH_take (i := 14) (v := ?_) rfl (by kernel_rfl) (by kernel_rfl) (by kernel_rfl) (fun _ _ _ h => h) (Or.inl ⟨by rfl, ?_⟩) (by assumption) ?_
    rotate_left
    · (intro w hSw; (try dsimp only at hSw); first | (go_simp; done) | (go_simp; with_reducible rfl))
    simp only [Act.put, List.getElem_toArray, List.getElem_cons_zero, List.getElem_cons_succ, List.setIfInBounds_toArray, List.set_cons_zero, List.set_cons_succ]
    refine wpAnyH_ready (rs := [15]) (by kernel_rfl) (by simp) ?_
    refine AllReadyH.cons rfl (fun K hK => ?_) AllReadyH.nil
    go_simp
    refine RK.out.mono ?_
    rintro e w5 ⟨rfl, hb5⟩
    have B5 := Lib.hid (show Below W.heap.size W w5 from BL.out.trans hb5)
    refine hK.out _ _ (SS.out _ B5.out) (fun hHeld2 => ?_)
    clear hK K hHeld hb5
    refine wpAnyH_take (i := 16) (v := ?_) rfl (by kernel_rfl) (by kernel_rfl) (by kernel_rfl) (fun _ _ _ h => h) (Or.inl ⟨by rfl, ?_⟩) (by assumption) ?_
    rotate_left
    · (intro w hSw; (try dsimp only at hSw); first | (go_simp; done) | (go_simp; with_reducible rfl))
    simp only [Act.put, List.getElem_toArray, List.getElem_cons_zero, List.getElem_cons_succ, List.setIfInBounds_toArray, List.set_cons_zero, List.set_cons_succ]
    refine wpAnyH_take (i := 17) (v := ?_) rfl (by kernel_rfl) (by kernel_rfl) (by kernel_rfl) (fun _ _ _ h => h) (Or.inl ⟨by rfl, ?_⟩) (by assumption) ?_
    rotate_left
    · (intro w hSw; (try dsimp only at hSw); first | (go_simp; done) | (go_simp; with_reducible rfl))
    simp only [Act.put, List.getElem_toArray, List.getElem_cons_zero, List.getElem_cons_succ, List.setIfInBounds_toArray, List.set_cons_zero, List.set_cons_succ]
    refine wpAnyH_done (by kernel_rfl) ?_ _
    clear hHeld2
    go_wp2_with fail
    have KE := Lib.hid ((B5.out.block w3.heap.size (by have := (Array.getElem?_eq_some_iff.1 KD.out).1; exact this)).trans KD.out)
    have HQ := Lib.hid (HA.out.below.trans (B5.out.mono HA.out.below.size))
    refine ⟨by simp, .inl ⟨_, _, rfl, run_takeDeferred KE.out, ?_⟩⟩
    refine ⟨.bool true, ?_, rfl, HQ.out.trans (belowK_b (w := w) (Nat.le_refl _) _ w3.heap.size _ _ DW.out KE.out rfl rfl)⟩
    simp [results, Try.f11, go_sem]
  case stop =>
    rintro c W h hs hK
    exact h.elim
end Go.Proofs.Ytndhdpjgnepfnaa.tr
