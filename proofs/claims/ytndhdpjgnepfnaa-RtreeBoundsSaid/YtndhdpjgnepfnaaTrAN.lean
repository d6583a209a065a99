/-
  R-trees: Bounds.
-/
import Derived.Test.YtndhdpjgnepfnaaTrAM
namespace Go.Proofs.Ytndhdpjgnepfnaa.tr
open Go.RowKit
open base (ret_bool ret_int made up Blk Only)
open rk (Lay)
open rect
set_option linter.unusedVariables false
set_option linter.unusedSimpArgs false
attribute [local go_sem] Oper.semAt_some

theorem bb_cons' {b : Bx} {l : List Bx} (hb : b.right = true) (hl : ∀ c ∈ l, c.right = true) (h0 : l ≠ []) : bb (b :: l) = jo b (bb l) := by
  have := bb_app (l := [b]) (m := l) (fun c hc => by rw [List.mem_singleton] at hc; subst hc; exact hb) hl (by simp) h0
  rw [bb_cons hb (l := [])] at this
  exact this
/-- in whatever order -/
theorem bb_perm {l m : List Bx} (h : l.Perm m) : (∀ b ∈ l, b.right = true) → bb l = bb m := by
  induction h with
  | nil => intro _; rfl
  | @cons a l1 l2 hp ih =>
    intro hr
    have ha := hr a List.mem_cons_self
    have hl := fun c hc => hr c (List.mem_cons_of_mem _ hc)
    by_cases h0 : l1 = []
    · subst h0
      rw [List.nil_perm.1 hp]
    · have h2 : l2 ≠ [] := fun e => h0 (by rw [e] at hp; exact List.perm_nil.1 hp)
      rw [bb_cons' ha hl h0, bb_cons' ha (fun c hc => hl c (hp.mem_iff.2 hc)) h2, ih hl]
  | swap a b l =>
    intro hr
    have hb := hr b List.mem_cons_self
    have ha := hr a (List.mem_cons_of_mem _ List.mem_cons_self)
    rw [bb_cons hb, bb_cons ha]
    show l.foldl jo (jo b a) = l.foldl jo (jo a b)
    rw [jo_comm ha hb]
  | trans h1 h2 ih1 ih2 =>
    intro hr
    rw [ih1 hr, ih2 (fun c hc => hr c (h1.mem_iff.2 hc))]
set_option maxRecDepth 100000 in
set_option maxHeartbeats 4000000 in
theorem bounds_any (t h n root : Nat) (v : Value) (X : List Ex) (w : World) (ht : TAt w t h n root v X) (hn : n ≤ 1000) :
    Calls Try.prog 26 #[.pointer (some ⟨t, 0, none⟩)] w fun e w' => e = .returned (.tuple #[(.agg #[.int .i64 ((bb ((all X).map Prod.fst)).x), .int .i64 ((bb ((all X).map Prod.fst)).y), .int .i64 ((bb ((all X).map Prod.fst)).w), .int .i64 ((bb ((all X).map Prod.fst)).h)]), .bool (decide (0 < n))]) ∧ Below w.heap.size w w' := by
  obtain ⟨w1, hw1⟩ : ∃ w1, w.alloc zc = w1 := ⟨_, rfl⟩
  have M1 := Lib.hid (show Below w.heap.size w w1 from by rw [← hw1]; exact made w _)
  have RB := Lib.hid (show Blk w1 w.heap.size 28 #[.int .i64 0, .int .i64 0, .int .i64 0, .int .i64 0] from by rw [← hw1]; exact Blk.new _ _ _)
  have HT := Lib.hid (ht.below M1.out)
  have TL := Lib.hid ht.blk.lt
  have HW1 := Lib.hid hw1
  have dn : decide ((n : Int) > 0) = decide (0 < n) := by
    by_cases q : 0 < n
    · rw [decide_eq_true q, decide_eq_true (by omega)]
    · rw [decide_eq_false q, decide_eq_false (by omega)]
  have DN := Lib.hid dn
  clear ht hw1 dn
  go_enter Try.func26, Try.ntmps26
  go_upto_region 1 with fail
  have hw1 := HW1.out
  unfold zc at hw1
  simp only [hw1]
  clear hw1 HW1
  generalize hrb : w.heap.size = rb at *
  have HRB := Lib.hid hrb
  clear hrb
  have SS := Lib.hid (fun (W : World) (hW : Blk W t 64 #[.pointer (some ⟨root, 0, none⟩), .int .i64 h, .int .i64 n]) => (show W.cell? ⟨t, 0, none⟩ = some (.pointer (some ⟨root, 0, none⟩)) ∧ W.cell? ⟨t, 2, none⟩ = some (.int .i64 n) from ⟨hW.cell 0, hW.cell 2⟩))
  obtain ⟨A, c, hv, hna⟩ := HT.out.nd.nat
  have BX := Lib.hid (nbox_any root c A (ens X) (w1.drewN 1) (hna.below (base.below_drewN (Below.refl _ w1) 1)) (by rw [ens_len]; have := HT.out.most; omega))
  rw [HT.out.nd.box] at BX
  clear hna hv
  generalize hB : bb ((all X).map Prod.fst) = B at *
  have HBQ := Lib.hid hB
  clear hB
  refine wp_region_held_drew (S := (fun ws => ws.cell? ⟨t, 0, none⟩ = some (.pointer (some ⟨root, 0, none⟩)) ∧ ws.cell? ⟨t, 2, none⟩ = some (.int .i64 n))) (by kernel_rfl) (SS.out w1 HT.out.blk) (fun hHeld => ?_)
  refine wpAnyH_take (i := 0) (v := ?_) rfl (by kernel_rfl) (by kernel_rfl) (by kernel_rfl) (fun _ _ _ h => h) (Or.inl ⟨by rfl, ?_⟩) (by assumption) ?_
  rotate_left
  · (intro w hSw; (try dsimp only at hSw); first | (go_simp; done) | (go_simp; with_reducible rfl))
  simp only [Act.put, List.getElem_toArray, List.getElem_cons_zero, List.getElem_cons_succ, List.setIfInBounds_toArray, List.set_cons_zero, List.set_cons_succ]
  refine wpAnyH_take (i := 1) (v := ?_) rfl (by kernel_rfl) (by kernel_rfl) (by kernel_rfl) (fun _ _ _ h => h) (Or.inl ⟨by rfl, ?_⟩) (by assumption) ?_
  rotate_left
  · (intro w hSw; (try dsimp only at hSw); first | (go_simp; done) | (go_simp; with_reducible rfl))
  simp only [Act.put, List.getElem_toArray, List.getElem_cons_zero, List.getElem_cons_succ, List.setIfInBounds_toArray, List.set_cons_zero, List.set_cons_succ]
  refine wpAnyH_take (i := 2) (v := ?_) rfl (by kernel_rfl) (by kernel_rfl) (by kernel_rfl) (fun _ _ _ h => h) (Or.inl ⟨by rfl, ?_⟩) (by assumption) ?_
  rotate_left
  · (intro w hSw; (try dsimp only at hSw); first | (go_simp; done) | (go_simp; with_reducible rfl))
  simp only [Act.put, List.getElem_toArray, List.getElem_cons_zero, List.getElem_cons_succ, List.setIfInBounds_toArray, List.set_cons_zero, List.set_cons_succ]
  refine wpAnyH_take (i := 3) (v := ?_) rfl (by kernel_rfl) (by kernel_rfl) (by kernel_rfl) (fun _ _ _ h => h) (Or.inl ⟨by rfl, ?_⟩) (by assumption) ?_
  rotate_left
  · (intro w hSw; (try dsimp only at hSw); first | (go_simp; done) | (go_simp; with_reducible rfl))
  simp only [Act.put, List.getElem_toArray, List.getElem_cons_zero, List.getElem_cons_succ, List.setIfInBounds_toArray, List.set_cons_zero, List.set_cons_succ]
  refine wpAnyH_take (i := 5) (v := ?_) rfl (by kernel_rfl) (by kernel_rfl) (by kernel_rfl) (fun _ _ _ h => h) (Or.inl ⟨by rfl, ?_⟩) (by assumption) ?_
  rotate_left
  · (intro w hSw; (try dsimp only at hSw); first | (go_simp; done) | (go_simp; with_reducible rfl))
  simp only [Act.put, List.getElem_toArray, List.getElem_cons_zero, List.getElem_cons_succ, List.setIfInBounds_toArray, List.set_cons_zero, List.set_cons_succ]
  refine wpAnyH_take (i := 6) (v := ?_) rfl (by kernel_rfl) (by kernel_rfl) (by kernel_rfl) (fun _ _ _ h => h) (Or.inl ⟨by rfl, ?_⟩) (by assumption) ?_
  rotate_left
  · (intro w hSw; (try dsimp only at hSw); first | (go_simp; done) | (go_simp; with_reducible rfl))
  simp only [Act.put, List.getElem_toArray, List.getElem_cons_zero, List.getElem_cons_succ, List.setIfInBounds_toArray, List.set_cons_zero, List.set_cons_succ]
  refine wpAnyH_take (i := 7) (v := ?_) rfl (by kernel_rfl) (by kernel_rfl) (by kernel_rfl) (fun _ _ _ h => h) (Or.inl ⟨by rfl, ?_⟩) (by assumption) ?_
  rotate_left
  · (intro w hSw; (try dsimp only at hSw); first | (go_simp; done) | (go_simp; with_reducible rfl))
  simp only [Act.put, List.getElem_toArray, List.getElem_cons_zero, List.getElem_cons_succ, List.setIfInBounds_toArray, List.set_cons_zero, List.set_cons_succ]
  refine wpAnyH_take (i := 8) (v := ?_) rfl (by kernel_rfl) (by kernel_rfl) (by kernel_rfl) (fun _ _ _ h => h) (Or.inl ⟨by rfl, ?_⟩) (by assumption) ?_
  rotate_left
  · (intro w hSw; (try dsimp only at hSw); first | (go_simp; done) | (go_simp; with_reducible rfl))
  simp only [Act.put, List.getElem_toArray, List.getElem_cons_zero, List.getElem_cons_succ, List.setIfInBounds_toArray, List.set_cons_zero, List.set_cons_succ]
  refine wpAnyH_take (i := 9) (v := ?_) rfl (by kernel_rfl) (by kernel_rfl) (by kernel_rfl) (fun _ _ _ h => h) (Or.inl ⟨by rfl, ?_⟩) (by assumption) ?_
  rotate_left
  · (intro w hSw; (try dsimp only at hSw); first | (go_simp; done) | (go_simp; with_reducible rfl))
  simp only [Act.put, List.getElem_toArray, List.getElem_cons_zero, List.getElem_cons_succ, List.setIfInBounds_toArray, List.set_cons_zero, List.set_cons_succ]
  refine wpAnyH_ready (rs := [4]) (by kernel_rfl) (by simp) ?_
  refine AllReadyH.cons rfl (fun K hK => ?_) AllReadyH.nil
  go_simp
  refine BX.out.mono ?_
  rintro e w2 ⟨rfl, hb2⟩
  have B2 := Lib.hid (show Below w1.heap.size w1 w2 from (base.below_drewN (Below.refl w1.heap.size w1) 1).trans hb2)
  have T2 := Lib.hid (HT.out.blk.below B2.out HT.out.blk.lt)
  have R2 := Lib.hid (RB.out.below B2.out RB.out.lt)
  refine hK.out _ _ (SS.out w2 T2.out) (fun hHeld2 => ?_)
  clear hK K hHeld hb2 BX
  have f0 := R2.out.free 0
  have f1 := R2.out.free 1
  have f2 := R2.out.free 2
  have f3 := R2.out.free 3
  obtain ⟨x0, x1, x2, x3⟩ := R2.out.four
  refine wpAnyH_ready (rs := [10]) (by kernel_rfl) (by simp) ?_
  refine AllReadyH.cons rfl (fun K hK => ?_) AllReadyH.nil
  go_simp
  have R3 := Lib.hid (blk4 R2.out (.int .i64 B.x) (.int .i64 B.y) (.int .i64 B.w) (.int .i64 B.h))
  have O3 := Lib.hid (only4 w2 rb (.int .i64 B.x) (.int .i64 B.y) (.int .i64 B.w) (.int .i64 B.h))
  refine hK.out _ _ (SS.out _ (T2.out.only O3.out (fun q => by have := TL.out; omega))) (fun hHeld => ?_)
  clear hK K hHeld2 f0 f1 f2 f3 x0 x1 x2 x3
  refine wpAnyH_take (i := 11) (v := ?_) rfl (by kernel_rfl) (by kernel_rfl) (by kernel_rfl) (fun _ _ _ h => h) (Or.inl ⟨by rfl, ?_⟩) (by assumption) ?_
  rotate_left
  · (intro w hSw; (try dsimp only at hSw); first | (go_simp; done) | (go_simp; with_reducible rfl))
  simp only [Act.put, List.getElem_toArray, List.getElem_cons_zero, List.getElem_cons_succ, List.setIfInBounds_toArray, List.set_cons_zero, List.set_cons_succ]
  refine wpAnyH_done (by kernel_rfl) ?_ _
  clear hHeld
  generalize (((w2.setCell ⟨rb, 0, none⟩ (.int .i64 B.x)).setCell ⟨rb, 1, none⟩ (.int .i64 B.y)).setCell ⟨rb, 2, none⟩ (.int .i64 B.w)).setCell ⟨rb, 3, none⟩ (.int .i64 B.h) = w3 at *
  go_wp2_with fail
  obtain ⟨r0, r1, r2, r3⟩ := R3.out.four
  have hb : Below w.heap.size w w3 := by
    have h1 : Below w.heap.size w w2 := up (by rw [HRB.out]; exact M1.out) B2.out (by have := M1.out.size; rw [← HRB.out] at *; omega)
    exact h1.trans (O3.out.to_below (B := w.heap.size) (fun i hi q => by have := HRB.out; omega) h1.size)
  exact bodyPost_ret (v := .tuple #[(.agg #[.int .i64 B.x, .int .i64 B.y, .int .i64 B.w, .int .i64 B.h]), .bool (decide (0 < n))]) (by simp [results, Try.results26, go_sem, r0, r1, r2, r3]) rfl ⟨by rw [HBQ.out], hb⟩
end Go.Proofs.Ytndhdpjgnepfnaa.tr
