/-
  R-trees: the part that a rectangle goes to: one of the two.
-/
import Derived.Test.YtndhdpjgnepfnaaTrE
namespace Go.Proofs.Ytndhdpjgnepfnaa.tr
open Go.RowKit
open base (ret_bool ret_int made up Blk Only)
open rect
set_option linter.unusedVariables false
set_option linter.unusedSimpArgs false
attribute [local go_sem] Oper.semAt_some

def BetP (a b : Nat) (w : World) (e : Ending) (w' : World) : Prop := (e = .returned (.pointer (some ⟨a, 0, none⟩)) ∨ e = .returned (.pointer (some ⟨b, 0, none⟩))) ∧ Below w.heap.size w w'
theorem bet_if {a b : Nat} {w w' : World} {p : Prop} [Decidable p] (h : Below w.heap.size w w') : BetP a b w (.returned (if p then .pointer (some ⟨b, 0, none⟩) else .pointer (some ⟨a, 0, none⟩))) w' := by
  split
  · exact ⟨.inr rfl, h⟩
  · exact ⟨.inl rfl, h⟩
theorem boxes_right {L : List En} (h : ∀ e ∈ L, e.b.right = true) : ∀ b ∈ boxes L, b.right = true := fun b hb => by
  obtain ⟨e, he, rfl⟩ := List.mem_map.1 hb
  exact h e he
theorem boxes_ne {L : List En} (h : 0 < L.length) : boxes L ≠ [] := fun e => by
  have := congrArg List.length e
  simp [boxes] at this
  subst this
  simp at h
set_option maxRecDepth 100000 in
set_option maxHeartbeats 8000000 in
theorem better_any (a b c d : Nat) (A B : Option Addr) (L M : List En) (r : Bx) (w : World) (h : NAt w a A L c) (h' : NAt w b B M d) (h0 : 0 < L.length) (h1 : 0 < M.length) (hl : L.length ≤ 1000) (hm : M.length ≤ 1000) (hL : ∀ e ∈ L, e.b.right = true) (hM : ∀ e ∈ M, e.b.right = true) (hr : r.right = true) :
    Calls Try.prog 63 #[.pointer (some ⟨a, 0, none⟩), .pointer (some ⟨b, 0, none⟩), (.agg #[.int .i64 r.x, .int .i64 r.y, .int .i64 r.w, .int .i64 r.h])] w (BetP a b w) := by
  obtain ⟨w1, hw1⟩ : ∃ w1, w.alloc (.cells #[.int .i64 r.x, .int .i64 r.y, .int .i64 r.w, .int .i64 r.h] 28) = w1 := ⟨_, rfl⟩
  have M1 := Lib.hid (show Below w.heap.size w w1 from by rw [← hw1]; exact made w _)
  have R1 := Lib.hid (show Blk w1 w.heap.size 28 #[.int .i64 r.x, .int .i64 r.y, .int .i64 r.w, .int .i64 r.h] from by rw [← hw1]; exact Blk.new _ _ _)
  have N1 := Lib.hid (h.below M1.out)
  have N2 := Lib.hid (h'.below M1.out)
  have X1 := Lib.hid (nbox_any a c A L w1 N1.out hl)
  have X2 := Lib.hid (fun W (hW : Below w1.heap.size w1 W) => nbox_any b d B M W (N2.out.below hW) hm)
  have r1 := bb_right (boxes_right hL) (boxes_ne h0)
  have r2 := bb_right (boxes_right hM) (boxes_ne h1)
  generalize bb (boxes L) = B1 at *
  generalize bb (boxes M) = B2 at *
  have G1 := Lib.hid (fun W => growth_any B1 r W r1 hr)
  have G2 := Lib.hid (fun W => growth_any B2 r W r2 hr)
  have A1 := Lib.hid (fun W => area_any B1 W r1)
  have A2 := Lib.hid (fun W => area_any B2 W r2)
  generalize gr B1 r = X at *
  generalize gr B2 r = Y at *
  generalize ar B1 = U at *
  generalize ar B2 = V at *
  have HW1 := Lib.hid hw1
  clear hw1 h h' hL hM hr hl hm r1 r2 h0 h1
  go_enter Try.func63, Try.ntmps63
  go_upto_region 1 with fail
  have hw1 := HW1.out
  simp only [hw1]
  clear hw1 HW1
  go_wp2_with fail
  refine X1.out.mono ?_
  rintro e w2 ⟨rfl, hb2⟩
  have K2 := Lib.hid hb2
  clear hb2 X1
  go_wp2_with fail
  refine (X2.out w2 K2.out).mono ?_
  rintro e w3 ⟨rfl, hb3⟩
  have K3 := Lib.hid (show Below w1.heap.size w1 w3 from up K2.out hb3 K2.out.size)
  clear hb3 X2 K2
  obtain ⟨w4, hw4⟩ : ∃ w4, w3.alloc (.cells #[.int .i64 B1.x, .int .i64 B1.y, .int .i64 B1.w, .int .i64 B1.h] 28) = w4 := ⟨_, rfl⟩
  obtain ⟨w5, hw5⟩ : ∃ w5, w4.alloc (.cells #[.int .i64 B2.x, .int .i64 B2.y, .int .i64 B2.w, .int .i64 B2.h] 28) = w5 := ⟨_, rfl⟩
  have m4 : Below w3.heap.size w3 w4 := by rw [← hw4]; exact made w3 _
  have m5 : Below w4.heap.size w4 w5 := by rw [← hw5]; exact made w4 _
  have z4 : w4.heap.size = w3.heap.size + 1 := by rw [← hw4, asz]
  have P4 : Blk w4 w3.heap.size 28 #[.int .i64 B1.x, .int .i64 B1.y, .int .i64 B1.w, .int .i64 B1.h] := by rw [← hw4]; exact Blk.new _ _ _
  have Q5 := Lib.hid (show Blk w5 (w3.heap.size + 1) 28 #[.int .i64 B2.x, .int .i64 B2.y, .int .i64 B2.w, .int .i64 B2.h] from by rw [← z4, ← hw5]; exact Blk.new _ _ _)
  have P5 := Lib.hid (P4.below m5 P4.lt)
  have K5 := Lib.hid (show Below w1.heap.size w1 w5 from up (up K3.out m4 K3.out.size) m5 (Nat.le_trans K3.out.size m4.size))
  have HW4 := Lib.hid hw4
  have HW5 := Lib.hid hw5
  clear hw4 hw5 m4 m5 z4 P4
  go_upto_region 2 with fail
  have hw4 := HW4.out
  have hw5 := HW5.out
  simp only [hw4, hw5]
  clear hw4 hw5 HW4 HW5
  have SS := Lib.hid (fun W (hW : Below w5.heap.size w5 W) => (show (fun ws => ws.cell? ⟨w.heap.size, 0, none⟩ = some (.int .i64 r.x) ∧ ws.cell? ⟨w.heap.size, 1, none⟩ = some (.int .i64 r.y) ∧ ws.cell? ⟨w.heap.size, 2, none⟩ = some (.int .i64 r.w) ∧ ws.cell? ⟨w.heap.size, 3, none⟩ = some (.int .i64 r.h) ∧ ws.cell? ⟨w3.heap.size, 0, none⟩ = some (.int .i64 B1.x) ∧ ws.cell? ⟨w3.heap.size, 1, none⟩ = some (.int .i64 B1.y) ∧ ws.cell? ⟨w3.heap.size, 2, none⟩ = some (.int .i64 B1.w) ∧ ws.cell? ⟨w3.heap.size, 3, none⟩ = some (.int .i64 B1.h) ∧ ws.cell? ⟨w3.heap.size + 1, 0, none⟩ = some (.int .i64 B2.x) ∧ ws.cell? ⟨w3.heap.size + 1, 1, none⟩ = some (.int .i64 B2.y) ∧ ws.cell? ⟨w3.heap.size + 1, 2, none⟩ = some (.int .i64 B2.w) ∧ ws.cell? ⟨w3.heap.size + 1, 3, none⟩ = some (.int .i64 B2.h) ∧ ws.cell? ⟨a, 0, none⟩ = some (.slice A L.length c) ∧ ws.cell? ⟨b, 0, none⟩ = some (.slice B M.length d)) W from
    ⟨(R1.out.below (up K5.out hW K5.out.size) R1.out.lt).cell 0, (R1.out.below (up K5.out hW K5.out.size) R1.out.lt).cell 1, (R1.out.below (up K5.out hW K5.out.size) R1.out.lt).cell 2, (R1.out.below (up K5.out hW K5.out.size) R1.out.lt).cell 3, (P5.out.below hW P5.out.lt).cell 0, (P5.out.below hW P5.out.lt).cell 1, (P5.out.below hW P5.out.lt).cell 2, (P5.out.below hW P5.out.lt).cell 3, (Q5.out.below hW Q5.out.lt).cell 0, (Q5.out.below hW Q5.out.lt).cell 1, (Q5.out.below hW Q5.out.lt).cell 2, (Q5.out.below hW Q5.out.lt).cell 3, (N1.out.below (up K5.out hW K5.out.size)).blk.cell 0, (N2.out.below (up K5.out hW K5.out.size)).blk.cell 0⟩))
  have BF := Lib.hid (fun W (hW : Below w5.heap.size w5 W) => (show Below w.heap.size w W from up M1.out (up K5.out hW K5.out.size) M1.out.size))
  have D5 := Lib.hid (show Below w5.heap.size w5 w5.drew from base.below_drewN (Below.refl _ w5) 1)
  clear P5 Q5 N1 N2 R1 K3
  refine wp_region_held_drew (S := (fun ws => ws.cell? ⟨w.heap.size, 0, none⟩ = some (.int .i64 r.x) ∧ ws.cell? ⟨w.heap.size, 1, none⟩ = some (.int .i64 r.y) ∧ ws.cell? ⟨w.heap.size, 2, none⟩ = some (.int .i64 r.w) ∧ ws.cell? ⟨w.heap.size, 3, none⟩ = some (.int .i64 r.h) ∧ ws.cell? ⟨w3.heap.size, 0, none⟩ = some (.int .i64 B1.x) ∧ ws.cell? ⟨w3.heap.size, 1, none⟩ = some (.int .i64 B1.y) ∧ ws.cell? ⟨w3.heap.size, 2, none⟩ = some (.int .i64 B1.w) ∧ ws.cell? ⟨w3.heap.size, 3, none⟩ = some (.int .i64 B1.h) ∧ ws.cell? ⟨w3.heap.size + 1, 0, none⟩ = some (.int .i64 B2.x) ∧ ws.cell? ⟨w3.heap.size + 1, 1, none⟩ = some (.int .i64 B2.y) ∧ ws.cell? ⟨w3.heap.size + 1, 2, none⟩ = some (.int .i64 B2.w) ∧ ws.cell? ⟨w3.heap.size + 1, 3, none⟩ = some (.int .i64 B2.h) ∧ ws.cell? ⟨a, 0, none⟩ = some (.slice A L.length c) ∧ ws.cell? ⟨b, 0, none⟩ = some (.slice B M.length d))) (by kernel_rfl) (SS.out _ D5.out) (fun hHeld => ?_)
  generalize w5.drew = w6 at *
  refine wpAnyH_take (i := 0) (v := ?_) rfl (by kernel_rfl) (by kernel_rfl) (by kernel_rfl) (fun _ _ _ h => h) (Or.inl ⟨by rfl, ?_⟩) (by assumption) ?_
  rotate_left
  · (intro w hSw; (try dsimp only at hSw); first | (go_simp; done) | (go_simp; with_reducible rfl))
  simp only [Act.put, List.getElem_toArray, List.getElem_cons_zero, List.getElem_cons_succ, List.setIfInBounds_toArray, List.set_cons_zero, List.set_cons_succ]
  refine wpAnyH_take (i := 1) (v := ?_) rfl (by kernel_rfl) (by kernel_rfl) (by kernel_rfl) (fun _ _ _ h => h) (Or.inl ⟨by rfl, ?_⟩) (by assumption) ?_
  rotate_left
  · (intro w hSw; (try dsimp only at hSw); first | (go_simp; done) | (go_simp; with_reducible rfl))
  simp only [Act.put, List.getElem_toArray, List.getElem_cons_zero, List.getElem_cons_succ, List.setIfInBounds_toArray, List.set_cons_zero, List.set_cons_succ]
  refine wpAnyH_take (i := 3) (v := ?_) rfl (by kernel_rfl) (by kernel_rfl) (by kernel_rfl) (fun _ _ _ h => h) (Or.inl ⟨by rfl, ?_⟩) (by assumption) ?_
  rotate_left
  · (intro w hSw; (try dsimp only at hSw); first | (go_simp; done) | (go_simp; with_reducible rfl))
  simp only [Act.put, List.getElem_toArray, List.getElem_cons_zero, List.getElem_cons_succ, List.setIfInBounds_toArray, List.set_cons_zero, List.set_cons_succ]
  refine wpAnyH_take (i := 4) (v := ?_) rfl (by kernel_rfl) (by kernel_rfl) (by kernel_rfl) (fun _ _ _ h => h) (Or.inl ⟨by rfl, ?_⟩) (by assumption) ?_
  rotate_left
  · (intro w hSw; (try dsimp only at hSw); first | (go_simp; done) | (go_simp; with_reducible rfl))
  simp only [Act.put, List.getElem_toArray, List.getElem_cons_zero, List.getElem_cons_succ, List.setIfInBounds_toArray, List.set_cons_zero, List.set_cons_succ]
  refine wpAnyH_ready (rs := [2]) (by kernel_rfl) (by simp) ?_
  refine AllReadyH.cons rfl (fun K hK => ?_) AllReadyH.nil
  go_simp
  refine (G1.out _).mono ?_
  rintro e w7 ⟨rfl, hb7⟩
  have D7 := Lib.hid (D5.out.trans (hb7.mono D5.out.size))
  refine hK.out _ _ (SS.out _ D7.out) (fun hHeld2 => ?_)
  clear hK K hHeld hb7 G1
  refine wpAnyH_ready (rs := [5]) (by kernel_rfl) (by simp) ?_
  refine AllReadyH.cons rfl (fun K hK => ?_) AllReadyH.nil
  go_simp
  refine (G2.out _).mono ?_
  rintro e w8 ⟨rfl, hb8⟩
  have D8 := Lib.hid (D7.out.trans (hb8.mono D7.out.size))
  refine hK.out _ _ (SS.out _ D8.out) (fun hHeld => ?_)
  clear hK K hHeld2 hb8 G2
  refine wpAnyH_take (i := 6) (v := ?_) rfl (by kernel_rfl) (by kernel_rfl) (by kernel_rfl) (fun _ _ _ h => h) (Or.inl ⟨by rfl, ?_⟩) (by assumption) ?_
  rotate_left
  · (intro w hSw; (try dsimp only at hSw); first | (go_simp; done) | (go_simp; with_reducible rfl))
  simp only [Act.put, List.getElem_toArray, List.getElem_cons_zero, List.getElem_cons_succ, List.setIfInBounds_toArray, List.set_cons_zero, List.set_cons_succ]
  refine wpAnyH_take (i := 7) (v := ?_) rfl (by kernel_rfl) (by kernel_rfl) (by kernel_rfl) (fun _ _ _ h => h) (Or.inl ⟨by rfl, ?_⟩) (by assumption) ?_
  rotate_left
  · (intro w hSw; (try dsimp only at hSw); first | (go_simp; done) | (go_simp; with_reducible rfl))
  simp only [Act.put, List.getElem_toArray, List.getElem_cons_zero, List.getElem_cons_succ, List.setIfInBounds_toArray, List.set_cons_zero, List.set_cons_succ]
  refine wpAnyH_done (by kernel_rfl) ?_ _
  clear hHeld
  by_cases hXY : X = Y
  · have q1 : (X != Y) = false := by simp [hXY]
    have q2 : (X == Y) = true := by simp [hXY]
    have D9 := Lib.hid (show Below w5.heap.size w5 w8.drew from base.below_drewN D8.out 1)
    clear hXY
    go_wp2_with fail
    refine wp_region_held_drew (S := (fun ws => ws.cell? ⟨w.heap.size, 0, none⟩ = some (.int .i64 r.x) ∧ ws.cell? ⟨w.heap.size, 1, none⟩ = some (.int .i64 r.y) ∧ ws.cell? ⟨w.heap.size, 2, none⟩ = some (.int .i64 r.w) ∧ ws.cell? ⟨w.heap.size, 3, none⟩ = some (.int .i64 r.h) ∧ ws.cell? ⟨w3.heap.size, 0, none⟩ = some (.int .i64 B1.x) ∧ ws.cell? ⟨w3.heap.size, 1, none⟩ = some (.int .i64 B1.y) ∧ ws.cell? ⟨w3.heap.size, 2, none⟩ = some (.int .i64 B1.w) ∧ ws.cell? ⟨w3.heap.size, 3, none⟩ = some (.int .i64 B1.h) ∧ ws.cell? ⟨w3.heap.size + 1, 0, none⟩ = some (.int .i64 B2.x) ∧ ws.cell? ⟨w3.heap.size + 1, 1, none⟩ = some (.int .i64 B2.y) ∧ ws.cell? ⟨w3.heap.size + 1, 2, none⟩ = some (.int .i64 B2.w) ∧ ws.cell? ⟨w3.heap.size + 1, 3, none⟩ = some (.int .i64 B2.h) ∧ ws.cell? ⟨a, 0, none⟩ = some (.slice A L.length c) ∧ ws.cell? ⟨b, 0, none⟩ = some (.slice B M.length d))) (by kernel_rfl) (SS.out _ D9.out) (fun hHeld => ?_)
    generalize w8.drew = w9 at *
    refine wpAnyH_take (i := 0) (v := ?_) rfl (by kernel_rfl) (by kernel_rfl) (by kernel_rfl) (fun _ _ _ h => h) (Or.inl ⟨by rfl, ?_⟩) (by assumption) ?_
    rotate_left
    · (intro w hSw; (try dsimp only at hSw); first | (go_simp; done) | (go_simp; with_reducible rfl))
    simp only [Act.put, List.getElem_toArray, List.getElem_cons_zero, List.getElem_cons_succ, List.setIfInBounds_toArray, List.set_cons_zero, List.set_cons_succ]
    refine wpAnyH_take (i := 2) (v := ?_) rfl (by kernel_rfl) (by kernel_rfl) (by kernel_rfl) (fun _ _ _ h => h) (Or.inl ⟨by rfl, ?_⟩) (by assumption) ?_
    rotate_left
    · (intro w hSw; (try dsimp only at hSw); first | (go_simp; done) | (go_simp; with_reducible rfl))
    simp only [Act.put, List.getElem_toArray, List.getElem_cons_zero, List.getElem_cons_succ, List.setIfInBounds_toArray, List.set_cons_zero, List.set_cons_succ]
    refine wpAnyH_ready (rs := [1]) (by kernel_rfl) (by simp) ?_
    refine AllReadyH.cons rfl (fun K hK => ?_) AllReadyH.nil
    go_simp
    refine (A1.out _).mono ?_
    rintro e wa ⟨rfl, hba⟩
    have Da := Lib.hid (D9.out.trans (hba.mono D9.out.size))
    refine hK.out _ _ (SS.out _ Da.out) (fun hHeld2 => ?_)
    clear hK K hHeld hba A1
    refine wpAnyH_ready (rs := [3]) (by kernel_rfl) (by simp) ?_
    refine AllReadyH.cons rfl (fun K hK => ?_) AllReadyH.nil
    go_simp
    refine (A2.out _).mono ?_
    rintro e wb ⟨rfl, hbb⟩
    have Db := Lib.hid (Da.out.trans (hbb.mono Da.out.size))
    refine hK.out _ _ (SS.out _ Db.out) (fun hHeld => ?_)
    clear hK K hHeld2 hbb A2
    refine wpAnyH_take (i := 4) (v := ?_) rfl (by kernel_rfl) (by kernel_rfl) (by kernel_rfl) (fun _ _ _ h => h) (Or.inl ⟨by rfl, ?_⟩) (by assumption) ?_
    rotate_left
    · (intro w hSw; (try dsimp only at hSw); first | (go_simp; done) | (go_simp; with_reducible rfl))
    simp only [Act.put, List.getElem_toArray, List.getElem_cons_zero, List.getElem_cons_succ, List.setIfInBounds_toArray, List.set_cons_zero, List.set_cons_succ]
    refine wpAnyH_take (i := 5) (v := ?_) rfl (by kernel_rfl) (by kernel_rfl) (by kernel_rfl) (fun _ _ _ h => h) (Or.inl ⟨by rfl, ?_⟩) (by assumption) ?_
    rotate_left
    · (intro w hSw; (try dsimp only at hSw); first | (go_simp; done) | (go_simp; with_reducible rfl))
    simp only [Act.put, List.getElem_toArray, List.getElem_cons_zero, List.getElem_cons_succ, List.setIfInBounds_toArray, List.set_cons_zero, List.set_cons_succ]
    refine wpAnyH_done (by kernel_rfl) ?_ _
    clear hHeld
    by_cases hUV : U = V
    · have q3 : (U != V) = false := by simp [hUV]
      have q4 : (U == V) = true := by simp [hUV]
      have Dc := Lib.hid (show Below w5.heap.size w5 wb.drew from base.below_drewN Db.out 1)
      clear hUV
      go_wp2_with fail
      refine wp_region_held_drew (S := (fun ws => ws.cell? ⟨w.heap.size, 0, none⟩ = some (.int .i64 r.x) ∧ ws.cell? ⟨w.heap.size, 1, none⟩ = some (.int .i64 r.y) ∧ ws.cell? ⟨w.heap.size, 2, none⟩ = some (.int .i64 r.w) ∧ ws.cell? ⟨w.heap.size, 3, none⟩ = some (.int .i64 r.h) ∧ ws.cell? ⟨w3.heap.size, 0, none⟩ = some (.int .i64 B1.x) ∧ ws.cell? ⟨w3.heap.size, 1, none⟩ = some (.int .i64 B1.y) ∧ ws.cell? ⟨w3.heap.size, 2, none⟩ = some (.int .i64 B1.w) ∧ ws.cell? ⟨w3.heap.size, 3, none⟩ = some (.int .i64 B1.h) ∧ ws.cell? ⟨w3.heap.size + 1, 0, none⟩ = some (.int .i64 B2.x) ∧ ws.cell? ⟨w3.heap.size + 1, 1, none⟩ = some (.int .i64 B2.y) ∧ ws.cell? ⟨w3.heap.size + 1, 2, none⟩ = some (.int .i64 B2.w) ∧ ws.cell? ⟨w3.heap.size + 1, 3, none⟩ = some (.int .i64 B2.h) ∧ ws.cell? ⟨a, 0, none⟩ = some (.slice A L.length c) ∧ ws.cell? ⟨b, 0, none⟩ = some (.slice B M.length d))) (by kernel_rfl) (SS.out _ Dc.out) (fun hHeld => ?_)
      generalize wb.drew = wc at *
      refine wpAnyH_take (i := 0) (v := ?_) rfl (by kernel_rfl) (by kernel_rfl) (by kernel_rfl) (fun _ _ _ h => h) (Or.inl ⟨by rfl, ?_⟩) (by assumption) ?_
      rotate_left
      · (intro w hSw; (try dsimp only at hSw); first | (go_simp; done) | (go_simp; with_reducible rfl))
      simp only [Act.put, List.getElem_toArray, List.getElem_cons_zero, List.getElem_cons_succ, List.setIfInBounds_toArray, List.set_cons_zero, List.set_cons_succ]
      refine wpAnyH_take (i := 1) (v := ?_) rfl (by kernel_rfl) (by kernel_rfl) (by kernel_rfl) (fun _ _ _ h => h) (Or.inl ⟨by rfl, ?_⟩) (by assumption) ?_
      rotate_left
      · (intro w hSw; (try dsimp only at hSw); first | (go_simp; done) | (go_simp; with_reducible rfl))
      simp only [Act.put, List.getElem_toArray, List.getElem_cons_zero, List.getElem_cons_succ, List.setIfInBounds_toArray, List.set_cons_zero, List.set_cons_succ]
      refine wpAnyH_take (i := 2) (v := ?_) rfl (by kernel_rfl) (by kernel_rfl) (by kernel_rfl) (fun _ _ _ h => h) (Or.inl ⟨by rfl, ?_⟩) (by assumption) ?_
      rotate_left
      · (intro w hSw; (try dsimp only at hSw); first | (go_simp; done) | (go_simp; with_reducible rfl))
      simp only [Act.put, List.getElem_toArray, List.getElem_cons_zero, List.getElem_cons_succ, List.setIfInBounds_toArray, List.set_cons_zero, List.set_cons_succ]
      refine wpAnyH_take (i := 3) (v := ?_) rfl (by kernel_rfl) (by kernel_rfl) (by kernel_rfl) (fun _ _ _ h => h) (Or.inl ⟨by rfl, ?_⟩) (by assumption) ?_
      rotate_left
      · (intro w hSw; (try dsimp only at hSw); first | (go_simp; done) | (go_simp; with_reducible rfl))
      simp only [Act.put, List.getElem_toArray, List.getElem_cons_zero, List.getElem_cons_succ, List.setIfInBounds_toArray, List.set_cons_zero, List.set_cons_succ]
      refine wpAnyH_take (i := 4) (v := ?_) rfl (by kernel_rfl) (by kernel_rfl) (by kernel_rfl) (fun _ _ _ h => h) (Or.inl ⟨by rfl, ?_⟩) (by assumption) ?_
      rotate_left
      · (intro w hSw; (try dsimp only at hSw); first | (go_simp; done) | (go_simp; with_reducible rfl))
      simp only [Act.put, List.getElem_toArray, List.getElem_cons_zero, List.getElem_cons_succ, List.setIfInBounds_toArray, List.set_cons_zero, List.set_cons_succ]
      refine wpAnyH_take (i := 5) (v := ?_) rfl (by kernel_rfl) (by kernel_rfl) (by kernel_rfl) (fun _ _ _ h => h) (Or.inl ⟨by rfl, ?_⟩) (by assumption) ?_
      rotate_left
      · (intro w hSw; (try dsimp only at hSw); first | (go_simp; done) | (go_simp; with_reducible rfl))
      simp only [Act.put, List.getElem_toArray, List.getElem_cons_zero, List.getElem_cons_succ, List.setIfInBounds_toArray, List.set_cons_zero, List.set_cons_succ]
      refine wpAnyH_take (i := 6) (v := ?_) rfl (by kernel_rfl) (by kernel_rfl) (by kernel_rfl) (fun _ _ _ h => h) (Or.inl ⟨by rfl, ?_⟩) (by assumption) ?_
      rotate_left
      · (intro w hSw; (try dsimp only at hSw); first | (go_simp; done) | (go_simp; with_reducible rfl))
      simp only [Act.put, List.getElem_toArray, List.getElem_cons_zero, List.getElem_cons_succ, List.setIfInBounds_toArray, List.set_cons_zero, List.set_cons_succ]
      refine wpAnyH_take (i := 7) (v := ?_) rfl (by kernel_rfl) (by kernel_rfl) (by kernel_rfl) (fun _ _ _ h => h) (Or.inl ⟨by rfl, ?_⟩) (by assumption) ?_
      rotate_left
      · (intro w hSw; (try dsimp only at hSw); first | (go_simp; done) | (go_simp; with_reducible rfl))
      simp only [Act.put, List.getElem_toArray, List.getElem_cons_zero, List.getElem_cons_succ, List.setIfInBounds_toArray, List.set_cons_zero, List.set_cons_succ]
      refine wpAnyH_take (i := 8) (v := ?_) rfl (by kernel_rfl) (by kernel_rfl) (by kernel_rfl) (fun _ _ _ h => h) (Or.inl ⟨by rfl, ?_⟩) (by assumption) ?_
      rotate_left
      · (intro w hSw; (try dsimp only at hSw); first | (go_simp; done) | (go_simp; with_reducible rfl))
      simp only [Act.put, List.getElem_toArray, List.getElem_cons_zero, List.getElem_cons_succ, List.setIfInBounds_toArray, List.set_cons_zero, List.set_cons_succ]
      refine wpAnyH_take (i := 9) (v := ?_) rfl (by kernel_rfl) (by kernel_rfl) (by kernel_rfl) (fun _ _ _ h => h) (Or.inl ⟨by rfl, ?_⟩) (by assumption) ?_
      rotate_left
      · (intro w hSw; (try dsimp only at hSw); first | (go_simp; done) | (go_simp; with_reducible rfl))
      simp only [Act.put, List.getElem_toArray, List.getElem_cons_zero, List.getElem_cons_succ, List.setIfInBounds_toArray, List.set_cons_zero, List.set_cons_succ]
      refine wpAnyH_take (i := 10) (v := ?_) rfl (by kernel_rfl) (by kernel_rfl) (by kernel_rfl) (fun _ _ _ h => h) (Or.inl ⟨by rfl, ?_⟩) (by assumption) ?_
      rotate_left
      · (intro w hSw; (try dsimp only at hSw); first | (go_simp; done) | (go_simp; with_reducible rfl))
      simp only [Act.put, List.getElem_toArray, List.getElem_cons_zero, List.getElem_cons_succ, List.setIfInBounds_toArray, List.set_cons_zero, List.set_cons_succ]
      refine wpAnyH_take (i := 11) (v := ?_) rfl (by kernel_rfl) (by kernel_rfl) (by kernel_rfl) (fun _ _ _ h => h) (Or.inl ⟨by rfl, ?_⟩) (by assumption) ?_
      rotate_left
      · (intro w hSw; (try dsimp only at hSw); first | (go_simp; done) | (go_simp; with_reducible rfl))
      simp only [Act.put, List.getElem_toArray, List.getElem_cons_zero, List.getElem_cons_succ, List.setIfInBounds_toArray, List.set_cons_zero, List.set_cons_succ]
      have ls := lesser_any (.pointer (some ⟨a, 0, none⟩)) (.pointer (some ⟨b, 0, none⟩)) (L.length : Int) (M.length : Int) wc
      have fin := bet_if (a := a) (b := b) (p := (M.length : Int) < (L.length : Int)) (BF.out _ Dc.out)
      generalize (if (M.length : Int) < (L.length : Int) then Value.pointer (some ⟨b, 0, none⟩) else Value.pointer (some ⟨a, 0, none⟩)) = V9 at *
      have LS := Lib.hid ls
      have F := Lib.hid fin
      clear ls fin
      refine wpAnyH_ready (rs := [12]) (by kernel_rfl) (by simp) ?_
      refine AllReadyH.cons rfl (fun K hK => ?_) AllReadyH.nil
      go_simp
      refine LS.out.mono ?_
      rintro e wc ⟨rfl, rfl⟩
      refine hK.out _ _ (SS.out _ Dc.out) (fun hHeld2 => ?_)
      clear hK K hHeld LS
      refine wpAnyH_take (i := 13) (v := ?_) rfl (by kernel_rfl) (by kernel_rfl) (by kernel_rfl) (fun _ _ _ h => h) (Or.inl ⟨by rfl, ?_⟩) (by assumption) ?_
      rotate_left
      · (intro w hSw; (try dsimp only at hSw); first | (go_simp; done) | (go_simp; with_reducible rfl))
      simp only [Act.put, List.getElem_toArray, List.getElem_cons_zero, List.getElem_cons_succ, List.setIfInBounds_toArray, List.set_cons_zero, List.set_cons_succ]
      refine wpAnyH_done (by kernel_rfl) ?_ _
      clear hHeld2
      go_wp2_with fail
      go_ret
      exact F.out
    · have q3 : (U != V) = true := by simp; exact hUV
      have q4 : (U == V) = false := by simpa using hUV
      have LS := Lib.hid (lesser_any (.pointer (some ⟨a, 0, none⟩)) (.pointer (some ⟨b, 0, none⟩)) U V wb)
      clear hUV
      go_wp2_with fail
      refine LS.out.mono ?_
      rintro e wb ⟨rfl, rfl⟩
      have F := Lib.hid (bet_if (a := a) (b := b) (p := V < U) (BF.out _ Db.out))
      clear LS
      generalize (if V < U then Value.pointer (some ⟨b, 0, none⟩) else Value.pointer (some ⟨a, 0, none⟩)) = V9 at *
      go_wp2_with fail
      go_ret
      exact F.out
  · have q1 : (X != Y) = true := by simp; exact hXY
    have q2 : (X == Y) = false := by simpa using hXY
    have LS := Lib.hid (lesser_any (.pointer (some ⟨a, 0, none⟩)) (.pointer (some ⟨b, 0, none⟩)) X Y w8)
    clear hXY
    go_wp2_with fail
    refine LS.out.mono ?_
    rintro e w8 ⟨rfl, rfl⟩
    have F := Lib.hid (bet_if (a := a) (b := b) (p := Y < X) (BF.out _ D8.out))
    clear LS
    generalize (if Y < X then Value.pointer (some ⟨b, 0, none⟩) else Value.pointer (some ⟨a, 0, none⟩)) = V9 at *
    go_wp2_with fail
    go_ret
    exact F.out
end Go.Proofs.Ytndhdpjgnepfnaa.tr
