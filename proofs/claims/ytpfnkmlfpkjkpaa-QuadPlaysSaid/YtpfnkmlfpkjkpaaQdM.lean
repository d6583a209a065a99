/-
  Quads: Set sets.
-/
import Derived.Test.YtpfnkmlfpkjkpaaQdL
namespace Go.Proofs.Ytpfnkmlfpkjkpaa.qd
open Go.RowKit Go.Shelf
open base (ret_bool ret_int made up Blk Only)
open rect rgm
set_option linter.unusedVariables false
set_option linter.unusedSimpArgs false
attribute [local go_sem] Oper.semAt_some

/-- the quad behind a setting -/
structure QSet (w w' : World) (g k : Nat) (q q' : Q) (a b c d : Int) (v : Nat) : Prop where
  at_ : QAt w' g k q'
  sem : Sem k 0 0 a b c d v q q'
  only : Only (fun m => m = g ∨ q.blocks m) w w'
  new : ∀ m, q'.blocks m → q.blocks m ∨ w.heap.size ≤ m
theorem QSet.mk_ {w w3 w' : World} {g k : Nat} {q q' : Q} {a b c d : Int} {v : Nat} {cb : Array Value} (h : QAt w g k q) (hb : Below w.heap.size w w3) (hc : Blk w3 g 72 cb) (hs : SetP w3 w' g 1 72 cb q q') (hm : Sem k 0 0 a b c d v q q') : QSet w w' g k q q' a b c d v := by
  have h3 := h.below hb
  obtain ⟨cb', hb', hz, he⟩ := hs.blk
  refine ⟨⟨⟨cb', hb'⟩, ?_, hs.is, hs.sep, hs.nb, hm.fits, hm.canon, hm.small, h.le⟩, hm, ?_, fun m hq => ?_⟩
  · have := h3.c0
    rw [hc.cell] at this
    rw [hb'.cell, he 0 (by omega) (by omega)]
    exact this
  · exact ((Only.refl (fun m => m = g ∨ q.blocks m) w).below hb (fun i hi h => by omega)).trans hs.only (fun _ _ e => e)
  · rcases hs.new m hq with e | e
    · exact .inl e
    · exact .inr (Nat.le_trans hb.size e)
set_option maxRecDepth 100000 in
set_option maxHeartbeats 4000000 in
theorem qset_yes (g k : Nat) (q : Q) (a b c d : Int) (v : Nat) (w : World) (h : QAt w g k q) (hi : inB 0 0 ((2 ^ k : Nat) : Int) a b c d) (hv : v < 256) :
    Calls Try.prog 28 #[.pointer (some ⟨g, 0, none⟩), (.agg #[.int .i64 a, .int .i64 b, .int .i64 c, .int .i64 d]), .int .i64 v] w fun e w' => e = .returned (.int .i64 0) ∧ ∃ q', QSet w w' g k q q' a b c d v := by
  obtain ⟨w1, hw1⟩ : ∃ w1, w.alloc (.cells #[.int .i64 a, .int .i64 b, .int .i64 c, .int .i64 d] 42) = w1 := ⟨_, rfl⟩
  have M1 := Lib.hid (show Below w.heap.size w w1 from by rw [← hw1]; exact made w _)
  have BX := h.box
  have B1 : Blk w1 w.heap.size 42 #[.int .i64 a, .int .i64 b, .int .i64 c, .int .i64 d] := by rw [← hw1]; exact Blk.new w _ _
  have S1 := Lib.hid (S5.mk (h.below M1.out) B1)
  have SC := Lib.hid S1.out.cells
  have CB := Lib.hid (fun (W : World) (hc : W.cell? ⟨g, 0, none⟩ = some (.int .i64 ((2 ^ k : Nat) : Int))) => box_any g ((2 ^ k : Nat) : Int) W hc)
  have CI := Lib.hid (fun (W : World) => rect_in 0 0 ((2 ^ k : Nat) : Int) a b c d W BX)
  have GQ := Lib.hid h
  have HR := Lib.hid hi.1
  have HV := Lib.hid hv
  have dI := decide_eq_true hi
  have d1 : decide ((v : Int) < 0) = false := decide_eq_false (by omega)
  have d2 : decide (255 < (v : Int)) = false := decide_eq_false (by omega)
  have CS := Lib.hid (fun (W : World) (cb : Array Value) (h : QAt W g k q) (hb : Blk W g 72 cb) => set_ok k q g 1 72 cb 0 0 a b c d v W h.is h.sep h.nb hb h.fits h.canon h.small h.box hi.1 hv)
  clear hi hv
  clear h BX B1
  go_enter Try.func28, Try.ntmps28
  go_upto_region 1 with fail
  try simp only [hw1]
  have SD := Lib.hid (show S5 w1.drew g w.heap.size k q a b c d from S1.out.drewN 1)
  have MD := Lib.hid (show Below w.heap.size w w1.drew from base.below_drewN M1.out 1)
  refine wp_region_held_drew (S := fun ws => ws.cell? ⟨g, 0, none⟩ = some (.int .i64 ((2 ^ k : Nat) : Int)) ∧ ws.cell? ⟨w.heap.size, 0, none⟩ = some (.int .i64 a) ∧ ws.cell? ⟨w.heap.size, 1, none⟩ = some (.int .i64 b) ∧ ws.cell? ⟨w.heap.size, 2, none⟩ = some (.int .i64 c) ∧ ws.cell? ⟨w.heap.size, 3, none⟩ = some (.int .i64 d)) (by kernel_rfl) SD.out.cells (fun hHeld => ?_)
  clear hw1 SC
  generalize w1.drew = wd at *
  refine wpAnyH_take (i := 0) (v := ?_) rfl (by kernel_rfl) (by kernel_rfl) (by kernel_rfl) (fun _ _ _ h => h) (Or.inl ⟨by rfl, ?_⟩) (by assumption) ?_
  rotate_left
  · (intro w hSw; (try dsimp only at hSw); first | (go_simp; done) | (go_simp; with_reducible rfl))
  simp only [Act.put, List.getElem_toArray, List.getElem_cons_zero, List.getElem_cons_succ, List.setIfInBounds_toArray, List.set_cons_zero, List.set_cons_succ]
  refine wpAnyH_take (i := 1) (v := ?_) rfl (by kernel_rfl) (by kernel_rfl) (by kernel_rfl) (fun _ _ _ h => h) (Or.inl ⟨by rfl, ?_⟩) (by assumption) ?_
  rotate_left
  · (intro w hSw; (try dsimp only at hSw); first | (go_simp; done) | (go_simp; with_reducible rfl))
  simp only [Act.put, List.getElem_toArray, List.getElem_cons_zero, List.getElem_cons_succ, List.setIfInBounds_toArray, List.set_cons_zero, List.set_cons_succ]
  refine wpAnyH_ready (rs := [2]) (by kernel_rfl) (by simp) ?_
  refine AllReadyH.cons rfl (fun K hK => ?_) AllReadyH.nil
  go_simp
  refine (CB.out _ SD.out.cells.1).mono ?_
  rintro e w3 ⟨rfl, hb3⟩
  have S3 := Lib.hid (SD.out.below hb3)
  have M3 := Lib.hid (up MD.out hb3 MD.out.size)
  refine hK.out _ _ S3.out.cells (fun hHeld2 => ?_)
  clear hK K hHeld hb3
  refine wpAnyH_ready (rs := [3]) (by kernel_rfl) (by simp) ?_
  refine AllReadyH.cons rfl (fun K hK => ?_) AllReadyH.nil
  go_simp
  refine (CI.out _).mono ?_
  rintro e w4 ⟨rfl, hb4⟩
  have S4 := Lib.hid (S3.out.below hb4)
  have M4 := Lib.hid (up M3.out hb4 M3.out.size)
  refine hK.out _ _ S4.out.cells (fun hHeld => ?_)
  clear hK K hHeld2 hb4
  simp only [dI]
  refine wpAnyH_take (i := 4) (v := ?_) rfl (by kernel_rfl) (by kernel_rfl) (by kernel_rfl) (fun _ _ _ h => h) (Or.inl ⟨by rfl, ?_⟩) (by assumption) ?_
  rotate_left
  · (intro w hSw; (try dsimp only at hSw); first | (go_simp; done) | (go_simp; with_reducible rfl))
  simp only [Act.put, List.getElem_toArray, List.getElem_cons_zero, List.getElem_cons_succ, List.setIfInBounds_toArray, List.set_cons_zero, List.set_cons_succ]
  refine wpAnyH_take (i := 5) (v := ?_) rfl (by kernel_rfl) (by kernel_rfl) (by kernel_rfl) (fun _ _ _ h => h) (Or.inl ⟨by rfl, ?_⟩) (by assumption) ?_
  rotate_left
  · (intro w hSw; (try dsimp only at hSw); first | (go_simp; done) | (go_simp; with_reducible rfl))
  simp only [Act.put, List.getElem_toArray, List.getElem_cons_zero, List.getElem_cons_succ, List.setIfInBounds_toArray, List.set_cons_zero, List.set_cons_succ]
  refine wpAnyH_take (i := 6) (v := ?_) rfl (by kernel_rfl) (by kernel_rfl) (by kernel_rfl) (fun _ _ _ h => h) (Or.inl ⟨by rfl, ?_⟩) (by assumption) ?_
  rotate_left
  · (intro w hSw; (try dsimp only at hSw); first | (go_simp; done) | (go_simp; with_reducible rfl))
  simp only [Act.put, List.getElem_toArray, List.getElem_cons_zero, List.getElem_cons_succ, List.setIfInBounds_toArray, List.set_cons_zero, List.set_cons_succ]
  refine wpAnyH_take (i := 7) (v := ?_) rfl (by kernel_rfl) (by kernel_rfl) (by kernel_rfl) (fun _ _ _ h => h) (Or.inl ⟨by rfl, ?_⟩) (by assumption) ?_
  rotate_left
  · (intro w hSw; (try dsimp only at hSw); first | (go_simp; done) | (go_simp; with_reducible rfl))
  simp only [Act.put, List.getElem_toArray, List.getElem_cons_zero, List.getElem_cons_succ, List.setIfInBounds_toArray, List.set_cons_zero, List.set_cons_succ]
  refine wpAnyH_take (i := 8) (v := ?_) rfl (by kernel_rfl) (by kernel_rfl) (by kernel_rfl) (fun _ _ _ h => h) (Or.inl ⟨by rfl, ?_⟩) (by assumption) ?_
  rotate_left
  · (intro w hSw; (try dsimp only at hSw); first | (go_simp; done) | (go_simp; with_reducible rfl))
  simp only [Act.put, List.getElem_toArray, List.getElem_cons_zero, List.getElem_cons_succ, List.setIfInBounds_toArray, List.set_cons_zero, List.set_cons_succ]
  refine wpAnyH_take (i := 9) (v := ?_) rfl (by kernel_rfl) (by kernel_rfl) (by kernel_rfl) (fun _ _ _ h => h) (Or.inl ⟨by rfl, ?_⟩) (by assumption) ?_
  rotate_left
  · (intro w hSw; (try dsimp only at hSw); first | (go_simp; done) | (go_simp; with_reducible rfl))
  simp only [Act.put, List.getElem_toArray, List.getElem_cons_zero, List.getElem_cons_succ, List.setIfInBounds_toArray, List.set_cons_zero, List.set_cons_succ]
  refine wpAnyH_take (i := 10) (v := ?_) rfl (by kernel_rfl) (by kernel_rfl) (by kernel_rfl) (fun _ _ _ h => h) (Or.inl ⟨by rfl, ?_⟩) (by assumption) ?_
  rotate_left
  · (intro w hSw; (try dsimp only at hSw); first | (go_simp; done) | (go_simp; with_reducible rfl))
  simp only [Act.put, List.getElem_toArray, List.getElem_cons_zero, List.getElem_cons_succ, List.setIfInBounds_toArray, List.set_cons_zero, List.set_cons_succ]
  refine wpAnyH_take (i := 11) (v := ?_) rfl (by kernel_rfl) (by kernel_rfl) (by kernel_rfl) (fun _ _ _ h => h) (Or.inl ⟨by rfl, ?_⟩) (by assumption) ?_
  rotate_left
  · (intro w hSw; (try dsimp only at hSw); first | (go_simp; done) | (go_simp; with_reducible rfl))
  simp only [Act.put, List.getElem_toArray, List.getElem_cons_zero, List.getElem_cons_succ, List.setIfInBounds_toArray, List.set_cons_zero, List.set_cons_succ]
  refine wpAnyH_take (i := 12) (v := ?_) rfl (by kernel_rfl) (by kernel_rfl) (by kernel_rfl) (fun _ _ _ h => h) (Or.inl ⟨by rfl, ?_⟩) (by assumption) ?_
  rotate_left
  · (intro w hSw; (try dsimp only at hSw); first | (go_simp; done) | (go_simp; with_reducible rfl))
  simp only [Act.put, List.getElem_toArray, List.getElem_cons_zero, List.getElem_cons_succ, List.setIfInBounds_toArray, List.set_cons_zero, List.set_cons_succ]
  refine wpAnyH_done (by kernel_rfl) ?_ _
  clear hHeld
  go_upto_region 3 with fail
  have SE := Lib.hid (show S5 w4.drew g w.heap.size k q a b c d from S4.out.drewN 1)
  have ME := Lib.hid (show Below w.heap.size w w4.drew from base.below_drewN M4.out 1)
  refine wp_region_held_drew (S := fun ws => ws.cell? ⟨g, 0, none⟩ = some (.int .i64 ((2 ^ k : Nat) : Int)) ∧ ws.cell? ⟨w.heap.size, 0, none⟩ = some (.int .i64 a) ∧ ws.cell? ⟨w.heap.size, 1, none⟩ = some (.int .i64 b) ∧ ws.cell? ⟨w.heap.size, 2, none⟩ = some (.int .i64 c) ∧ ws.cell? ⟨w.heap.size, 3, none⟩ = some (.int .i64 d)) (by kernel_rfl) SE.out.cells (fun hHeld => ?_)
  generalize w4.drew = we at *
  refine wpAnyH_take (i := 0) (v := ?_) rfl (by kernel_rfl) (by kernel_rfl) (by kernel_rfl) (fun _ _ _ h => h) (Or.inl ⟨by rfl, ?_⟩) (by assumption) ?_
  rotate_left
  · (intro w hSw; (try dsimp only at hSw); first | (go_simp; done) | (go_simp; with_reducible rfl))
  simp only [Act.put, List.getElem_toArray, List.getElem_cons_zero, List.getElem_cons_succ, List.setIfInBounds_toArray, List.set_cons_zero, List.set_cons_succ]
  refine wpAnyH_take (i := 1) (v := ?_) rfl (by kernel_rfl) (by kernel_rfl) (by kernel_rfl) (fun _ _ _ h => h) (Or.inl ⟨by rfl, ?_⟩) (by assumption) ?_
  rotate_left
  · (intro w hSw; (try dsimp only at hSw); first | (go_simp; done) | (go_simp; with_reducible rfl))
  simp only [Act.put, List.getElem_toArray, List.getElem_cons_zero, List.getElem_cons_succ, List.setIfInBounds_toArray, List.set_cons_zero, List.set_cons_succ]
  refine wpAnyH_take (i := 2) (v := ?_) rfl (by kernel_rfl) (by kernel_rfl) (by kernel_rfl) (fun _ _ _ h => h) (Or.inl ⟨by rfl, ?_⟩) (by assumption) ?_
  rotate_left
  · (intro w hSw; (try dsimp only at hSw); first | (go_simp; done) | (go_simp; with_reducible rfl))
  simp only [Act.put, List.getElem_toArray, List.getElem_cons_zero, List.getElem_cons_succ, List.setIfInBounds_toArray, List.set_cons_zero, List.set_cons_succ]
  refine wpAnyH_take (i := 3) (v := ?_) rfl (by kernel_rfl) (by kernel_rfl) (by kernel_rfl) (fun _ _ _ h => h) (Or.inl ⟨by rfl, ?_⟩) (by assumption) ?_
  rotate_left
  · (intro w hSw; (try dsimp only at hSw); first | (go_simp; done) | (go_simp; with_reducible rfl))
  simp only [Act.put, List.getElem_toArray, List.getElem_cons_zero, List.getElem_cons_succ, List.setIfInBounds_toArray, List.set_cons_zero, List.set_cons_succ]
  refine wpAnyH_take (i := 5) (v := ?_) rfl (by kernel_rfl) (by kernel_rfl) (by kernel_rfl) (fun _ _ _ h => h) (Or.inl ⟨by rfl, ?_⟩) (by assumption) ?_
  rotate_left
  · (intro w hSw; (try dsimp only at hSw); first | (go_simp; done) | (go_simp; with_reducible rfl))
  simp only [Act.put, List.getElem_toArray, List.getElem_cons_zero, List.getElem_cons_succ, List.setIfInBounds_toArray, List.set_cons_zero, List.set_cons_succ]
  refine wpAnyH_take (i := 6) (v := ?_) rfl (by kernel_rfl) (by kernel_rfl) (by kernel_rfl) (fun _ _ _ h => h) (Or.inl ⟨by rfl, ?_⟩) (by assumption) ?_
  rotate_left
  · (intro w hSw; (try dsimp only at hSw); first | (go_simp; done) | (go_simp; with_reducible rfl))
  simp only [Act.put, List.getElem_toArray, List.getElem_cons_zero, List.getElem_cons_succ, List.setIfInBounds_toArray, List.set_cons_zero, List.set_cons_succ]
  refine wpAnyH_ready (rs := [4]) (by kernel_rfl) (by simp) ?_
  refine AllReadyH.cons rfl (fun K hK => ?_) AllReadyH.nil
  go_simp
  refine (CB.out _ SE.out.cells.1).mono ?_
  rintro e w5 ⟨rfl, hb5⟩
  have S6 := Lib.hid (SE.out.below hb5)
  have M6 := Lib.hid (up ME.out hb5 ME.out.size)
  refine hK.out _ _ S6.out.cells (fun hHeld2 => ?_)
  clear hK K hHeld hb5
  refine wpAnyH_ready (rs := [7]) (by kernel_rfl) (by simp) ?_
  refine AllReadyH.cons rfl (fun K hK => ?_) AllReadyH.nil
  go_simp
  obtain ⟨cb, hcb⟩ := S6.out.q.blk
  refine (CS.out _ cb S6.out.q hcb).mono ?_
  rintro e w7 ⟨⟨r7, rfl⟩, q', hs7, hm7⟩
  have FIN := Lib.hid (QSet.mk_ GQ.out M6.out hcb hs7 hm7)
  have S7 : S5 w7 g w.heap.size k q' a b c d := ⟨FIN.out.at_, S6.out.rb.only hs7.only (fun e => by
    rcases e with e | e
    · have := GQ.out.lt; omega
    · have := GQ.out.is.blk_lt e; omega)⟩
  refine hK.out _ _ S7.cells (fun hHeld => ?_)
  clear hK K hHeld2 hs7 hm7 S7
  refine wpAnyH_done (by kernel_rfl) ?_ _
  clear hHeld
  go_wp2_with fail
  go_ret
  exact ⟨rfl, q', FIN.out⟩
end Go.Proofs.Ytpfnkmlfpkjkpaa.qd
