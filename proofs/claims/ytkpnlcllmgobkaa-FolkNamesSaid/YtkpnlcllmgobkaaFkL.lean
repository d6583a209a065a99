/-
  One call of both: the accounts and the two lists.
-/
import Derived.Test.YtkpnlcllmgobkaaFkK
namespace Go.Proofs.Ytkpnlcllmgobkaa.fk
open Go.RowKit
open base (ret_bool ret_int made up Blk Only)
open rk mk
set_option linter.unusedVariables false
set_option linter.unusedSimpArgs false
variable {B g b gx : Nat} {w w1 w2 w' : World} {L : List FR} {h a d n : Int} {s : ByteArray}

def StepP (B g b gx : Nat) (s : St) (w : World) (e : Ending) (w' : World) : Prop := e = .returned (.bool true) ∧ FAt w' B g b s.1 s.2 (tt s) ∧ XAt w' B gx s.1 s.2 ∧ Below B w w'
theorem XAt.pchg {C : Nat} {w w1 : World} (H : XAt w B gx L h) (hb : Chg C PK w w1) : XAt w1 B gx L h := H.chg hb
theorem drewB (w : World) : Below w.heap.size w w.drew := (Below.refl _ _).drew

set_option maxRecDepth 100000 in
set_option maxHeartbeats 4000000 in
theorem step_1 (G : Gd (L, h)) (H : FAt w B g b L h (tt (L, h))) (X : XAt w B gx L h) (hB : B ≤ w.heap.size) (hs : s.size ≤ maxLen) :
    Calls Try.prog 8 #[.pointer (some ⟨g, 0, none⟩), .pointer (some ⟨gx, 0, none⟩), .agg #[.int .i64 1, .int .i64 a, .int .i64 d, .int .i64 n, .string s]] w (StepP B g b gx (add (L, h) s).1 w) := by
  have hm := made w (.cells #[.int .i64 1, .int .i64 a, .int .i64 d, .int .i64 n, .string s] 32)
  have hl := G.len
  dsimp only at hl
  have H1 := H.below hm
  have X1 := Lib.hid (X.below hm)
  have bx := Blk.new w 32 #[.int .i64 1, .int .i64 a, .int .i64 d, .int .i64 n, .string s]
  have M := Lib.hid (hm.mono hB)
  have hB1 := Nat.le_trans hB hm.size
  have o0 := bx.cell 0
  have o4 := bx.cell 4
  have BX := Lib.hid bx
  generalize hw1 : w.alloc (.cells #[.int .i64 1, .int .i64 a, .int .i64 d, .int .i64 n, .string s] 32) = w1 at *
  have MI := Lib.hid (add_any (s := s) G hs hB1 H1)
  have XM := Lib.hid (fun ws (hx : XAt ws B gx L h) (hb : B ≤ ws.heap.size) => radd_any (s := s) (by omega) hs hb hx)
  have HB := Lib.hid hB1
  generalize hr : add (L, h) s = r at *
  obtain ⟨⟨L2, h2⟩, i2, e2⟩ := r
  clear hm H1 bx H X hB1 G hr
  go_enter Try.func8, Try.ntmps8
  go_wp2_with (rw [hw1])
  refine MI.out.mono ?_
  rintro e w3 ⟨rfl, h3, c3⟩
  have H3 := Lib.hid h3
  have C3 := Lib.hid (M.out.trans (c3.to HB.out))
  have z3 := (c3.to HB.out).size
  have XM := Lib.hid (XM.out w3 (X1.out.chg c3) (Nat.le_trans HB.out z3))
  have y4 := (Chg.blk c3 BX.out rfl).cell 4
  have HB3 := Lib.hid (Nat.le_trans HB.out z3)
  clear h3 c3 MI X1 o0 o4 z3
  go_wp2_with fail
  refine XM.out.mono ?_
  rintro e w4 ⟨rfl, x4, c4⟩
  have H4 := Lib.hid (H3.out.chg c4)
  have X4 := Lib.hid x4
  have C4 := Lib.hid (C3.out.trans (c4.to HB3.out))
  clear x4 c4 XM y4
  go_wp2_with fail
  go_ret
  exact ⟨rfl, H4.out, X4.out, C4.out⟩

set_option maxRecDepth 100000 in
set_option maxHeartbeats 4000000 in
theorem step_2 (G : Gd (L, h)) (H : FAt w B g b L h (tt (L, h))) (X : XAt w B gx L h) (hB : B ≤ w.heap.size) :
    Calls Try.prog 8 #[.pointer (some ⟨g, 0, none⟩), .pointer (some ⟨gx, 0, none⟩), .agg #[.int .i64 2, .int .i64 a, .int .i64 d, .int .i64 n, .string s]] w (StepP B g b gx (mint (L, h) a n).1 w) := by
  have hm := made w (.cells #[.int .i64 2, .int .i64 a, .int .i64 d, .int .i64 n, .string s] 32)
  have H1 := H.below hm
  have X1 := X.below hm
  have bx := Blk.new w 32 #[.int .i64 2, .int .i64 a, .int .i64 d, .int .i64 n, .string s]
  have M := Lib.hid (hm.mono hB)
  have hB1 := Nat.le_trans hB hm.size
  have o0 := bx.cell 0
  generalize hw1 : w.alloc (.cells #[.int .i64 2, .int .i64 a, .int .i64 d, .int .i64 n, .string s] 32) = w1 at *
  have HB := Lib.hid hB1
  have bx2 : Blk w1.drew w.heap.size 32 _ := bx.below (drewB w1) bx.lt
  have SS := Lib.hid (show w1.drew.cell? ⟨w.heap.size, 1, none⟩ = some (.int .i64 a) ∧ w1.drew.cell? ⟨w.heap.size, 3, none⟩ = some (.int .i64 n) from ⟨bx2.cell 1, bx2.cell 3⟩)
  have BX := Lib.hid bx2
  have X2 := Lib.hid (X1.below (drewB w1))
  have MI := Lib.hid (mint_any (id := a) (n := n) G (H1.below (drewB w1)))
  have XM := Lib.hid (fun ws (hx : XAt ws B gx L h) => rmint_any (id := a) (n := n) G hx)
  have M2 := Lib.hid (M.out.trans ((drewB w1).mono hB1))
  generalize hr : mint (L, h) a n = r at *
  obtain ⟨⟨L2, h2⟩, e2⟩ := r
  clear hm H1 X1 bx bx2 H X hB1 G hr M
  go_enter Try.func8, Try.ntmps8
  go_wp2_with (rw [hw1])
  refine wp_region_held_drew (S := fun ws => ws.cell? ⟨w.heap.size, 1, none⟩ = some (.int .i64 a) ∧ ws.cell? ⟨w.heap.size, 3, none⟩ = some (.int .i64 n)) (by kernel_rfl) SS.out (fun hHeld => ?_)
  have HB2 := Lib.hid (show B ≤ w1.drew.heap.size from Nat.le_trans HB.out (drewB w1).size)
  clear HB hw1 o0
  generalize w1.drew = w2 at *
  refine wpAnyH_take (i := 0) (v := ?_) rfl (by kernel_rfl) (by kernel_rfl) (by kernel_rfl) (fun _ _ _ h => h) (Or.inl ⟨by rfl, ?_⟩) (by assumption) ?_
  rotate_left
  · (intro w hSw; (try dsimp only at hSw); first | (go_simp; done) | (go_simp; with_reducible rfl))
  simp only [Act.put, List.getElem_toArray, List.getElem_cons_zero, List.getElem_cons_succ, List.setIfInBounds_toArray, List.set_cons_zero, List.set_cons_succ]
  refine wpAnyH_take (i := 1) (v := ?_) rfl (by kernel_rfl) (by kernel_rfl) (by kernel_rfl) (fun _ _ _ h => h) (Or.inl ⟨by rfl, ?_⟩) (by assumption) ?_
  rotate_left
  · (intro w hSw; (try dsimp only at hSw); first | (go_simp; done) | (go_simp; with_reducible rfl))
  simp only [Act.put, List.getElem_toArray, List.getElem_cons_zero, List.getElem_cons_succ, List.setIfInBounds_toArray, List.set_cons_zero, List.set_cons_succ]
  refine wpAnyH_take (i := 2) (v := ?_) rfl (by kernel_rfl) (by kernel_rfl) (by kernel_rfl) (fun _ _ _ h => h) (Or.inl ⟨by rfl, ?_⟩) (by assumption) ?_
  rotate_left
  · (intro w hSw; (try dsimp only at hSw); first | (go_simp; done) | (go_simp; with_reducible rfl))
  simp only [Act.put, List.getElem_toArray, List.getElem_cons_zero, List.getElem_cons_succ, List.setIfInBounds_toArray, List.set_cons_zero, List.set_cons_succ]
  refine wpAnyH_take (i := 3) (v := ?_) rfl (by kernel_rfl) (by kernel_rfl) (by kernel_rfl) (fun _ _ _ h => h) (Or.inl ⟨by rfl, ?_⟩) (by assumption) ?_
  rotate_left
  · (intro w hSw; (try dsimp only at hSw); first | (go_simp; done) | (go_simp; with_reducible rfl))
  simp only [Act.put, List.getElem_toArray, List.getElem_cons_zero, List.getElem_cons_succ, List.setIfInBounds_toArray, List.set_cons_zero, List.set_cons_succ]
  refine wpAnyH_take (i := 4) (v := ?_) rfl (by kernel_rfl) (by kernel_rfl) (by kernel_rfl) (fun _ _ _ h => h) (Or.inl ⟨by rfl, ?_⟩) (by assumption) ?_
  rotate_left
  · (intro w hSw; (try dsimp only at hSw); first | (go_simp; done) | (go_simp; with_reducible rfl))
  simp only [Act.put, List.getElem_toArray, List.getElem_cons_zero, List.getElem_cons_succ, List.setIfInBounds_toArray, List.set_cons_zero, List.set_cons_succ]
  refine wpAnyH_take (i := 6) (v := ?_) rfl (by kernel_rfl) (by kernel_rfl) (by kernel_rfl) (fun _ _ _ h => h) (Or.inl ⟨by rfl, ?_⟩) (by assumption) ?_
  rotate_left
  · (intro w hSw; (try dsimp only at hSw); first | (go_simp; done) | (go_simp; with_reducible rfl))
  simp only [Act.put, List.getElem_toArray, List.getElem_cons_zero, List.getElem_cons_succ, List.setIfInBounds_toArray, List.set_cons_zero, List.set_cons_succ]
  refine wpAnyH_take (i := 7) (v := ?_) rfl (by kernel_rfl) (by kernel_rfl) (by kernel_rfl) (fun _ _ _ h => h) (Or.inl ⟨by rfl, ?_⟩) (by assumption) ?_
  rotate_left
  · (intro w hSw; (try dsimp only at hSw); first | (go_simp; done) | (go_simp; with_reducible rfl))
  simp only [Act.put, List.getElem_toArray, List.getElem_cons_zero, List.getElem_cons_succ, List.setIfInBounds_toArray, List.set_cons_zero, List.set_cons_succ]
  refine wpAnyH_take (i := 8) (v := ?_) rfl (by kernel_rfl) (by kernel_rfl) (by kernel_rfl) (fun _ _ _ h => h) (Or.inl ⟨by rfl, ?_⟩) (by assumption) ?_
  rotate_left
  · (intro w hSw; (try dsimp only at hSw); first | (go_simp; done) | (go_simp; with_reducible rfl))
  simp only [Act.put, List.getElem_toArray, List.getElem_cons_zero, List.getElem_cons_succ, List.setIfInBounds_toArray, List.set_cons_zero, List.set_cons_succ]
  refine wpAnyH_take (i := 9) (v := ?_) rfl (by kernel_rfl) (by kernel_rfl) (by kernel_rfl) (fun _ _ _ h => h) (Or.inl ⟨by rfl, ?_⟩) (by assumption) ?_
  rotate_left
  · (intro w hSw; (try dsimp only at hSw); first | (go_simp; done) | (go_simp; with_reducible rfl))
  simp only [Act.put, List.getElem_toArray, List.getElem_cons_zero, List.getElem_cons_succ, List.setIfInBounds_toArray, List.set_cons_zero, List.set_cons_succ]
  refine wpAnyH_take (i := 10) (v := ?_) rfl (by kernel_rfl) (by kernel_rfl) (by kernel_rfl) (fun _ _ _ h => h) (Or.inl ⟨by rfl, ?_⟩) (by assumption) ?_
  rotate_left
  · (intro w hSw; (try dsimp only at hSw); first | (go_simp; done) | (go_simp; with_reducible rfl))
  simp only [Act.put, List.getElem_toArray, List.getElem_cons_zero, List.getElem_cons_succ, List.setIfInBounds_toArray, List.set_cons_zero, List.set_cons_succ]
  refine wpAnyH_ready (rs := [5]) (by kernel_rfl) (by simp) ?_
  refine AllReadyH.cons rfl (fun K hK => ?_) AllReadyH.nil
  go_simp
  go_wp2_with (go_at_call 22; refine MI.out.mono ?_; rintro e w3 ⟨rfl, h3, c3⟩)
  have H3 := Lib.hid h3
  have M3 := Lib.hid (M2.out.trans (c3.to HB2.out))
  have HB3 := Lib.hid (Nat.le_trans HB2.out (c3.to HB2.out).size)
  have BX3 := Lib.hid (Chg.blk c3 BX.out rfl)
  have S3 := Lib.hid (show w3.cell? ⟨w.heap.size, 1, none⟩ = some (.int .i64 a) ∧ w3.cell? ⟨w.heap.size, 3, none⟩ = some (.int .i64 n) from ⟨BX3.out.cell 1, BX3.out.cell 3⟩)
  have XM := Lib.hid (XM.out w3 (X2.out.chg c3))
  clear h3 c3 MI X2
  refine hK.out _ _ S3.out (fun hHeld2 => ?_)
  clear hK K hHeld
  refine wpAnyH_ready (rs := [11]) (by kernel_rfl) (by simp) ?_
  refine AllReadyH.cons rfl (fun K hK => ?_) AllReadyH.nil
  go_simp
  go_wp2_with (go_at_call 21; refine XM.out.mono ?_; rintro e w4 ⟨rfl, x4, c4⟩)
  have H4 := Lib.hid (H3.out.chg c4)
  have X4 := Lib.hid x4
  have M4 := Lib.hid (M3.out.trans (c4.to HB3.out))
  have BX4 := Lib.hid (Chg.blk c4 BX3.out rfl)
  have S4 := Lib.hid (show w4.cell? ⟨w.heap.size, 1, none⟩ = some (.int .i64 a) ∧ w4.cell? ⟨w.heap.size, 3, none⟩ = some (.int .i64 n) from ⟨BX4.out.cell 1, BX4.out.cell 3⟩)
  clear x4 c4 XM
  refine hK.out _ _ S4.out (fun hHeld => ?_)
  clear hK K hHeld2
  refine wpAnyH_take (i := 12) (v := ?_) rfl (by kernel_rfl) (by kernel_rfl) (by kernel_rfl) (fun _ _ _ h => h) (Or.inl ⟨by rfl, ?_⟩) (by assumption) ?_
  rotate_left
  · (intro w hSw; (try dsimp only at hSw); first | (go_simp; done) | (go_simp; with_reducible rfl))
  simp only [Act.put, List.getElem_toArray, List.getElem_cons_zero, List.getElem_cons_succ, List.setIfInBounds_toArray, List.set_cons_zero, List.set_cons_succ]
  refine wpAnyH_take (i := 13) (v := ?_) rfl (by kernel_rfl) (by kernel_rfl) (by kernel_rfl) (fun _ _ _ h => h) (Or.inl ⟨by rfl, ?_⟩) (by assumption) ?_
  rotate_left
  · (intro w hSw; (try dsimp only at hSw); first | (go_simp; done) | (go_simp; with_reducible rfl))
  simp only [Act.put, List.getElem_toArray, List.getElem_cons_zero, List.getElem_cons_succ, List.setIfInBounds_toArray, List.set_cons_zero, List.set_cons_succ]
  refine wpAnyH_done (by kernel_rfl) ?_ _
  clear hHeld
  go_wp2_with fail
  go_ret
  exact ⟨rfl, H4.out, X4.out, M4.out⟩

set_option maxRecDepth 100000 in
set_option maxHeartbeats 4000000 in
theorem step_3 (G : Gd (L, h)) (H : FAt w B g b L h (tt (L, h))) (X : XAt w B gx L h) (hB : B ≤ w.heap.size) :
    Calls Try.prog 8 #[.pointer (some ⟨g, 0, none⟩), .pointer (some ⟨gx, 0, none⟩), .agg #[.int .i64 3, .int .i64 a, .int .i64 d, .int .i64 n, .string s]] w (StepP B g b gx (less (L, h) a n).1 w) := by
  have hm := made w (.cells #[.int .i64 3, .int .i64 a, .int .i64 d, .int .i64 n, .string s] 32)
  have H1 := H.below hm
  have X1 := X.below hm
  have bx := Blk.new w 32 #[.int .i64 3, .int .i64 a, .int .i64 d, .int .i64 n, .string s]
  have M := Lib.hid (hm.mono hB)
  have hB1 := Nat.le_trans hB hm.size
  have o0 := bx.cell 0
  generalize hw1 : w.alloc (.cells #[.int .i64 3, .int .i64 a, .int .i64 d, .int .i64 n, .string s] 32) = w1 at *
  have HB := Lib.hid hB1
  have bx2 : Blk w1.drew w.heap.size 32 _ := bx.below (drewB w1) bx.lt
  have SS := Lib.hid (show w1.drew.cell? ⟨w.heap.size, 1, none⟩ = some (.int .i64 a) ∧ w1.drew.cell? ⟨w.heap.size, 3, none⟩ = some (.int .i64 n) from ⟨bx2.cell 1, bx2.cell 3⟩)
  have BX := Lib.hid bx2
  have X2 := Lib.hid (X1.below (drewB w1))
  have MI := Lib.hid (burn_any (id := a) (n := n) G (H1.below (drewB w1)))
  have XM := Lib.hid (fun ws (hx : XAt ws B gx L h) => rless_any (id := a) (n := n) G hx)
  have M2 := Lib.hid (M.out.trans ((drewB w1).mono hB1))
  generalize hr : less (L, h) a n = r at *
  obtain ⟨⟨L2, h2⟩, e2⟩ := r
  clear hm H1 X1 bx bx2 H X hB1 G hr M
  go_enter Try.func8, Try.ntmps8
  go_wp2_with (rw [hw1])
  refine wp_region_held_drew (S := fun ws => ws.cell? ⟨w.heap.size, 1, none⟩ = some (.int .i64 a) ∧ ws.cell? ⟨w.heap.size, 3, none⟩ = some (.int .i64 n)) (by kernel_rfl) SS.out (fun hHeld => ?_)
  have HB2 := Lib.hid (show B ≤ w1.drew.heap.size from Nat.le_trans HB.out (drewB w1).size)
  clear HB hw1 o0
  generalize w1.drew = w2 at *
  refine wpAnyH_take (i := 0) (v := ?_) rfl (by kernel_rfl) (by kernel_rfl) (by kernel_rfl) (fun _ _ _ h => h) (Or.inl ⟨by rfl, ?_⟩) (by assumption) ?_
  rotate_left
  · (intro w hSw; (try dsimp only at hSw); first | (go_simp; done) | (go_simp; with_reducible rfl))
  simp only [Act.put, List.getElem_toArray, List.getElem_cons_zero, List.getElem_cons_succ, List.setIfInBounds_toArray, List.set_cons_zero, List.set_cons_succ]
  refine wpAnyH_take (i := 1) (v := ?_) rfl (by kernel_rfl) (by kernel_rfl) (by kernel_rfl) (fun _ _ _ h => h) (Or.inl ⟨by rfl, ?_⟩) (by assumption) ?_
  rotate_left
  · (intro w hSw; (try dsimp only at hSw); first | (go_simp; done) | (go_simp; with_reducible rfl))
  simp only [Act.put, List.getElem_toArray, List.getElem_cons_zero, List.getElem_cons_succ, List.setIfInBounds_toArray, List.set_cons_zero, List.set_cons_succ]
  refine wpAnyH_take (i := 2) (v := ?_) rfl (by kernel_rfl) (by kernel_rfl) (by kernel_rfl) (fun _ _ _ h => h) (Or.inl ⟨by rfl, ?_⟩) (by assumption) ?_
  rotate_left
  · (intro w hSw; (try dsimp only at hSw); first | (go_simp; done) | (go_simp; with_reducible rfl))
  simp only [Act.put, List.getElem_toArray, List.getElem_cons_zero, List.getElem_cons_succ, List.setIfInBounds_toArray, List.set_cons_zero, List.set_cons_succ]
  refine wpAnyH_take (i := 3) (v := ?_) rfl (by kernel_rfl) (by kernel_rfl) (by kernel_rfl) (fun _ _ _ h => h) (Or.inl ⟨by rfl, ?_⟩) (by assumption) ?_
  rotate_left
  · (intro w hSw; (try dsimp only at hSw); first | (go_simp; done) | (go_simp; with_reducible rfl))
  simp only [Act.put, List.getElem_toArray, List.getElem_cons_zero, List.getElem_cons_succ, List.setIfInBounds_toArray, List.set_cons_zero, List.set_cons_succ]
  refine wpAnyH_take (i := 4) (v := ?_) rfl (by kernel_rfl) (by kernel_rfl) (by kernel_rfl) (fun _ _ _ h => h) (Or.inl ⟨by rfl, ?_⟩) (by assumption) ?_
  rotate_left
  · (intro w hSw; (try dsimp only at hSw); first | (go_simp; done) | (go_simp; with_reducible rfl))
  simp only [Act.put, List.getElem_toArray, List.getElem_cons_zero, List.getElem_cons_succ, List.setIfInBounds_toArray, List.set_cons_zero, List.set_cons_succ]
  refine wpAnyH_take (i := 6) (v := ?_) rfl (by kernel_rfl) (by kernel_rfl) (by kernel_rfl) (fun _ _ _ h => h) (Or.inl ⟨by rfl, ?_⟩) (by assumption) ?_
  rotate_left
  · (intro w hSw; (try dsimp only at hSw); first | (go_simp; done) | (go_simp; with_reducible rfl))
  simp only [Act.put, List.getElem_toArray, List.getElem_cons_zero, List.getElem_cons_succ, List.setIfInBounds_toArray, List.set_cons_zero, List.set_cons_succ]
  refine wpAnyH_take (i := 7) (v := ?_) rfl (by kernel_rfl) (by kernel_rfl) (by kernel_rfl) (fun _ _ _ h => h) (Or.inl ⟨by rfl, ?_⟩) (by assumption) ?_
  rotate_left
  · (intro w hSw; (try dsimp only at hSw); first | (go_simp; done) | (go_simp; with_reducible rfl))
  simp only [Act.put, List.getElem_toArray, List.getElem_cons_zero, List.getElem_cons_succ, List.setIfInBounds_toArray, List.set_cons_zero, List.set_cons_succ]
  refine wpAnyH_take (i := 8) (v := ?_) rfl (by kernel_rfl) (by kernel_rfl) (by kernel_rfl) (fun _ _ _ h => h) (Or.inl ⟨by rfl, ?_⟩) (by assumption) ?_
  rotate_left
  · (intro w hSw; (try dsimp only at hSw); first | (go_simp; done) | (go_simp; with_reducible rfl))
  simp only [Act.put, List.getElem_toArray, List.getElem_cons_zero, List.getElem_cons_succ, List.setIfInBounds_toArray, List.set_cons_zero, List.set_cons_succ]
  refine wpAnyH_take (i := 9) (v := ?_) rfl (by kernel_rfl) (by kernel_rfl) (by kernel_rfl) (fun _ _ _ h => h) (Or.inl ⟨by rfl, ?_⟩) (by assumption) ?_
  rotate_left
  · (intro w hSw; (try dsimp only at hSw); first | (go_simp; done) | (go_simp; with_reducible rfl))
  simp only [Act.put, List.getElem_toArray, List.getElem_cons_zero, List.getElem_cons_succ, List.setIfInBounds_toArray, List.set_cons_zero, List.set_cons_succ]
  refine wpAnyH_take (i := 10) (v := ?_) rfl (by kernel_rfl) (by kernel_rfl) (by kernel_rfl) (fun _ _ _ h => h) (Or.inl ⟨by rfl, ?_⟩) (by assumption) ?_
  rotate_left
  · (intro w hSw; (try dsimp only at hSw); first | (go_simp; done) | (go_simp; with_reducible rfl))
  simp only [Act.put, List.getElem_toArray, List.getElem_cons_zero, List.getElem_cons_succ, List.setIfInBounds_toArray, List.set_cons_zero, List.set_cons_succ]
  refine wpAnyH_ready (rs := [5]) (by kernel_rfl) (by simp) ?_
  refine AllReadyH.cons rfl (fun K hK => ?_) AllReadyH.nil
  go_simp
  go_wp2_with (go_at_call 24; refine MI.out.mono ?_; rintro e w3 ⟨rfl, h3, c3⟩)
  have H3 := Lib.hid h3
  have M3 := Lib.hid (M2.out.trans (c3.to HB2.out))
  have HB3 := Lib.hid (Nat.le_trans HB2.out (c3.to HB2.out).size)
  have BX3 := Lib.hid (Chg.blk c3 BX.out rfl)
  have S3 := Lib.hid (show w3.cell? ⟨w.heap.size, 1, none⟩ = some (.int .i64 a) ∧ w3.cell? ⟨w.heap.size, 3, none⟩ = some (.int .i64 n) from ⟨BX3.out.cell 1, BX3.out.cell 3⟩)
  have XM := Lib.hid (XM.out w3 (X2.out.chg c3))
  clear h3 c3 MI X2
  refine hK.out _ _ S3.out (fun hHeld2 => ?_)
  clear hK K hHeld
  refine wpAnyH_ready (rs := [11]) (by kernel_rfl) (by simp) ?_
  refine AllReadyH.cons rfl (fun K hK => ?_) AllReadyH.nil
  go_simp
  go_wp2_with (go_at_call 27; refine XM.out.mono ?_; rintro e w4 ⟨rfl, x4, c4⟩)
  have H4 := Lib.hid (H3.out.chg c4)
  have X4 := Lib.hid x4
  have M4 := Lib.hid (M3.out.trans (c4.to HB3.out))
  have BX4 := Lib.hid (Chg.blk c4 BX3.out rfl)
  have S4 := Lib.hid (show w4.cell? ⟨w.heap.size, 1, none⟩ = some (.int .i64 a) ∧ w4.cell? ⟨w.heap.size, 3, none⟩ = some (.int .i64 n) from ⟨BX4.out.cell 1, BX4.out.cell 3⟩)
  clear x4 c4 XM
  refine hK.out _ _ S4.out (fun hHeld => ?_)
  clear hK K hHeld2
  refine wpAnyH_take (i := 12) (v := ?_) rfl (by kernel_rfl) (by kernel_rfl) (by kernel_rfl) (fun _ _ _ h => h) (Or.inl ⟨by rfl, ?_⟩) (by assumption) ?_
  rotate_left
  · (intro w hSw; (try dsimp only at hSw); first | (go_simp; done) | (go_simp; with_reducible rfl))
  simp only [Act.put, List.getElem_toArray, List.getElem_cons_zero, List.getElem_cons_succ, List.setIfInBounds_toArray, List.set_cons_zero, List.set_cons_succ]
  refine wpAnyH_take (i := 13) (v := ?_) rfl (by kernel_rfl) (by kernel_rfl) (by kernel_rfl) (fun _ _ _ h => h) (Or.inl ⟨by rfl, ?_⟩) (by assumption) ?_
  rotate_left
  · (intro w hSw; (try dsimp only at hSw); first | (go_simp; done) | (go_simp; with_reducible rfl))
  simp only [Act.put, List.getElem_toArray, List.getElem_cons_zero, List.getElem_cons_succ, List.setIfInBounds_toArray, List.set_cons_zero, List.set_cons_succ]
  refine wpAnyH_done (by kernel_rfl) ?_ _
  clear hHeld
  go_wp2_with fail
  go_ret
  exact ⟨rfl, H4.out, X4.out, M4.out⟩

set_option maxRecDepth 100000 in
set_option maxHeartbeats 4000000 in
theorem step_4 (G : Gd (L, h)) (H : FAt w B g b L h (tt (L, h))) (X : XAt w B gx L h) (hB : B ≤ w.heap.size) :
    Calls Try.prog 8 #[.pointer (some ⟨g, 0, none⟩), .pointer (some ⟨gx, 0, none⟩), .agg #[.int .i64 4, .int .i64 a, .int .i64 d, .int .i64 n, .string s]] w (StepP B g b gx (move (L, h) a d n).1 w) := by
  have hm := made w (.cells #[.int .i64 4, .int .i64 a, .int .i64 d, .int .i64 n, .string s] 32)
  have H1 := H.below hm
  have X1 := X.below hm
  have bx := Blk.new w 32 #[.int .i64 4, .int .i64 a, .int .i64 d, .int .i64 n, .string s]
  have M := Lib.hid (hm.mono hB)
  have hB1 := Nat.le_trans hB hm.size
  have o0 := bx.cell 0
  generalize hw1 : w.alloc (.cells #[.int .i64 4, .int .i64 a, .int .i64 d, .int .i64 n, .string s] 32) = w1 at *
  have HB := Lib.hid hB1
  have bx2 : Blk w1.drew w.heap.size 32 _ := bx.below (drewB w1) bx.lt
  have SS := Lib.hid (show w1.drew.cell? ⟨w.heap.size, 1, none⟩ = some (.int .i64 a) ∧ w1.drew.cell? ⟨w.heap.size, 2, none⟩ = some (.int .i64 d) ∧ w1.drew.cell? ⟨w.heap.size, 3, none⟩ = some (.int .i64 n) from ⟨bx2.cell 1, bx2.cell 2, bx2.cell 3⟩)
  have BX := Lib.hid bx2
  have X2 := Lib.hid (X1.below (drewB w1))
  have MI := Lib.hid (move_any (id := a) (du := d) (n := n) G (H1.below (drewB w1)))
  have XM := Lib.hid (fun ws (hx : XAt ws B gx L h) => rmove_any (id := a) (du := d) (n := n) G hx)
  have M2 := Lib.hid (M.out.trans ((drewB w1).mono hB1))
  generalize hr : move (L, h) a d n = r at *
  obtain ⟨⟨L2, h2⟩, e2⟩ := r
  clear hm H1 X1 bx bx2 H X hB1 G hr M
  go_enter Try.func8, Try.ntmps8
  go_wp2_with (rw [hw1])
  refine wp_region_held_drew (S := fun ws => ws.cell? ⟨w.heap.size, 1, none⟩ = some (.int .i64 a) ∧ ws.cell? ⟨w.heap.size, 2, none⟩ = some (.int .i64 d) ∧ ws.cell? ⟨w.heap.size, 3, none⟩ = some (.int .i64 n)) (by kernel_rfl) SS.out (fun hHeld => ?_)
  have HB2 := Lib.hid (show B ≤ w1.drew.heap.size from Nat.le_trans HB.out (drewB w1).size)
  clear HB hw1 o0
  generalize w1.drew = w2 at *
  refine wpAnyH_take (i := 0) (v := ?_) rfl (by kernel_rfl) (by kernel_rfl) (by kernel_rfl) (fun _ _ _ h => h) (Or.inl ⟨by rfl, ?_⟩) (by assumption) ?_
  rotate_left
  · (intro w hSw; (try dsimp only at hSw); first | (go_simp; done) | (go_simp; with_reducible rfl))
  simp only [Act.put, List.getElem_toArray, List.getElem_cons_zero, List.getElem_cons_succ, List.setIfInBounds_toArray, List.set_cons_zero, List.set_cons_succ]
  refine wpAnyH_take (i := 1) (v := ?_) rfl (by kernel_rfl) (by kernel_rfl) (by kernel_rfl) (fun _ _ _ h => h) (Or.inl ⟨by rfl, ?_⟩) (by assumption) ?_
  rotate_left
  · (intro w hSw; (try dsimp only at hSw); first | (go_simp; done) | (go_simp; with_reducible rfl))
  simp only [Act.put, List.getElem_toArray, List.getElem_cons_zero, List.getElem_cons_succ, List.setIfInBounds_toArray, List.set_cons_zero, List.set_cons_succ]
  refine wpAnyH_take (i := 2) (v := ?_) rfl (by kernel_rfl) (by kernel_rfl) (by kernel_rfl) (fun _ _ _ h => h) (Or.inl ⟨by rfl, ?_⟩) (by assumption) ?_
  rotate_left
  · (intro w hSw; (try dsimp only at hSw); first | (go_simp; done) | (go_simp; with_reducible rfl))
  simp only [Act.put, List.getElem_toArray, List.getElem_cons_zero, List.getElem_cons_succ, List.setIfInBounds_toArray, List.set_cons_zero, List.set_cons_succ]
  refine wpAnyH_take (i := 3) (v := ?_) rfl (by kernel_rfl) (by kernel_rfl) (by kernel_rfl) (fun _ _ _ h => h) (Or.inl ⟨by rfl, ?_⟩) (by assumption) ?_
  rotate_left
  · (intro w hSw; (try dsimp only at hSw); first | (go_simp; done) | (go_simp; with_reducible rfl))
  simp only [Act.put, List.getElem_toArray, List.getElem_cons_zero, List.getElem_cons_succ, List.setIfInBounds_toArray, List.set_cons_zero, List.set_cons_succ]
  refine wpAnyH_take (i := 4) (v := ?_) rfl (by kernel_rfl) (by kernel_rfl) (by kernel_rfl) (fun _ _ _ h => h) (Or.inl ⟨by rfl, ?_⟩) (by assumption) ?_
  rotate_left
  · (intro w hSw; (try dsimp only at hSw); first | (go_simp; done) | (go_simp; with_reducible rfl))
  simp only [Act.put, List.getElem_toArray, List.getElem_cons_zero, List.getElem_cons_succ, List.setIfInBounds_toArray, List.set_cons_zero, List.set_cons_succ]
  refine wpAnyH_take (i := 5) (v := ?_) rfl (by kernel_rfl) (by kernel_rfl) (by kernel_rfl) (fun _ _ _ h => h) (Or.inl ⟨by rfl, ?_⟩) (by assumption) ?_
  rotate_left
  · (intro w hSw; (try dsimp only at hSw); first | (go_simp; done) | (go_simp; with_reducible rfl))
  simp only [Act.put, List.getElem_toArray, List.getElem_cons_zero, List.getElem_cons_succ, List.setIfInBounds_toArray, List.set_cons_zero, List.set_cons_succ]
  refine wpAnyH_take (i := 6) (v := ?_) rfl (by kernel_rfl) (by kernel_rfl) (by kernel_rfl) (fun _ _ _ h => h) (Or.inl ⟨by rfl, ?_⟩) (by assumption) ?_
  rotate_left
  · (intro w hSw; (try dsimp only at hSw); first | (go_simp; done) | (go_simp; with_reducible rfl))
  simp only [Act.put, List.getElem_toArray, List.getElem_cons_zero, List.getElem_cons_succ, List.setIfInBounds_toArray, List.set_cons_zero, List.set_cons_succ]
  refine wpAnyH_take (i := 8) (v := ?_) rfl (by kernel_rfl) (by kernel_rfl) (by kernel_rfl) (fun _ _ _ h => h) (Or.inl ⟨by rfl, ?_⟩) (by assumption) ?_
  rotate_left
  · (intro w hSw; (try dsimp only at hSw); first | (go_simp; done) | (go_simp; with_reducible rfl))
  simp only [Act.put, List.getElem_toArray, List.getElem_cons_zero, List.getElem_cons_succ, List.setIfInBounds_toArray, List.set_cons_zero, List.set_cons_succ]
  refine wpAnyH_take (i := 9) (v := ?_) rfl (by kernel_rfl) (by kernel_rfl) (by kernel_rfl) (fun _ _ _ h => h) (Or.inl ⟨by rfl, ?_⟩) (by assumption) ?_
  rotate_left
  · (intro w hSw; (try dsimp only at hSw); first | (go_simp; done) | (go_simp; with_reducible rfl))
  simp only [Act.put, List.getElem_toArray, List.getElem_cons_zero, List.getElem_cons_succ, List.setIfInBounds_toArray, List.set_cons_zero, List.set_cons_succ]
  refine wpAnyH_take (i := 10) (v := ?_) rfl (by kernel_rfl) (by kernel_rfl) (by kernel_rfl) (fun _ _ _ h => h) (Or.inl ⟨by rfl, ?_⟩) (by assumption) ?_
  rotate_left
  · (intro w hSw; (try dsimp only at hSw); first | (go_simp; done) | (go_simp; with_reducible rfl))
  simp only [Act.put, List.getElem_toArray, List.getElem_cons_zero, List.getElem_cons_succ, List.setIfInBounds_toArray, List.set_cons_zero, List.set_cons_succ]
  refine wpAnyH_take (i := 11) (v := ?_) rfl (by kernel_rfl) (by kernel_rfl) (by kernel_rfl) (fun _ _ _ h => h) (Or.inl ⟨by rfl, ?_⟩) (by assumption) ?_
  rotate_left
  · (intro w hSw; (try dsimp only at hSw); first | (go_simp; done) | (go_simp; with_reducible rfl))
  simp only [Act.put, List.getElem_toArray, List.getElem_cons_zero, List.getElem_cons_succ, List.setIfInBounds_toArray, List.set_cons_zero, List.set_cons_succ]
  refine wpAnyH_take (i := 12) (v := ?_) rfl (by kernel_rfl) (by kernel_rfl) (by kernel_rfl) (fun _ _ _ h => h) (Or.inl ⟨by rfl, ?_⟩) (by assumption) ?_
  rotate_left
  · (intro w hSw; (try dsimp only at hSw); first | (go_simp; done) | (go_simp; with_reducible rfl))
  simp only [Act.put, List.getElem_toArray, List.getElem_cons_zero, List.getElem_cons_succ, List.setIfInBounds_toArray, List.set_cons_zero, List.set_cons_succ]
  refine wpAnyH_take (i := 13) (v := ?_) rfl (by kernel_rfl) (by kernel_rfl) (by kernel_rfl) (fun _ _ _ h => h) (Or.inl ⟨by rfl, ?_⟩) (by assumption) ?_
  rotate_left
  · (intro w hSw; (try dsimp only at hSw); first | (go_simp; done) | (go_simp; with_reducible rfl))
  simp only [Act.put, List.getElem_toArray, List.getElem_cons_zero, List.getElem_cons_succ, List.setIfInBounds_toArray, List.set_cons_zero, List.set_cons_succ]
  refine wpAnyH_take (i := 14) (v := ?_) rfl (by kernel_rfl) (by kernel_rfl) (by kernel_rfl) (fun _ _ _ h => h) (Or.inl ⟨by rfl, ?_⟩) (by assumption) ?_
  rotate_left
  · (intro w hSw; (try dsimp only at hSw); first | (go_simp; done) | (go_simp; with_reducible rfl))
  simp only [Act.put, List.getElem_toArray, List.getElem_cons_zero, List.getElem_cons_succ, List.setIfInBounds_toArray, List.set_cons_zero, List.set_cons_succ]
  refine wpAnyH_ready (rs := [7]) (by kernel_rfl) (by simp) ?_
  refine AllReadyH.cons rfl (fun K hK => ?_) AllReadyH.nil
  go_simp
  go_wp2_with (go_at_call 28; refine MI.out.mono ?_; rintro e w3 ⟨rfl, h3, c3⟩)
  have H3 := Lib.hid h3
  have M3 := Lib.hid (M2.out.trans (c3.to HB2.out))
  have HB3 := Lib.hid (Nat.le_trans HB2.out (c3.to HB2.out).size)
  have BX3 := Lib.hid (Chg.blk c3 BX.out rfl)
  have S3 := Lib.hid (show w3.cell? ⟨w.heap.size, 1, none⟩ = some (.int .i64 a) ∧ w3.cell? ⟨w.heap.size, 2, none⟩ = some (.int .i64 d) ∧ w3.cell? ⟨w.heap.size, 3, none⟩ = some (.int .i64 n) from ⟨BX3.out.cell 1, BX3.out.cell 2, BX3.out.cell 3⟩)
  have XM := Lib.hid (XM.out w3 (X2.out.chg c3))
  clear h3 c3 MI X2
  refine hK.out _ _ S3.out (fun hHeld2 => ?_)
  clear hK K hHeld
  refine wpAnyH_ready (rs := [15]) (by kernel_rfl) (by simp) ?_
  refine AllReadyH.cons rfl (fun K hK => ?_) AllReadyH.nil
  go_simp
  go_wp2_with (go_at_call 29; refine XM.out.mono ?_; rintro e w4 ⟨rfl, x4, c4⟩)
  have H4 := Lib.hid (H3.out.chg c4)
  have X4 := Lib.hid x4
  have M4 := Lib.hid (M3.out.trans (c4.to HB3.out))
  have BX4 := Lib.hid (Chg.blk c4 BX3.out rfl)
  have S4 := Lib.hid (show w4.cell? ⟨w.heap.size, 1, none⟩ = some (.int .i64 a) ∧ w4.cell? ⟨w.heap.size, 2, none⟩ = some (.int .i64 d) ∧ w4.cell? ⟨w.heap.size, 3, none⟩ = some (.int .i64 n) from ⟨BX4.out.cell 1, BX4.out.cell 2, BX4.out.cell 3⟩)
  clear x4 c4 XM
  refine hK.out _ _ S4.out (fun hHeld => ?_)
  clear hK K hHeld2
  refine wpAnyH_take (i := 16) (v := ?_) rfl (by kernel_rfl) (by kernel_rfl) (by kernel_rfl) (fun _ _ _ h => h) (Or.inl ⟨by rfl, ?_⟩) (by assumption) ?_
  rotate_left
  · (intro w hSw; (try dsimp only at hSw); first | (go_simp; done) | (go_simp; with_reducible rfl))
  simp only [Act.put, List.getElem_toArray, List.getElem_cons_zero, List.getElem_cons_succ, List.setIfInBounds_toArray, List.set_cons_zero, List.set_cons_succ]
  refine wpAnyH_take (i := 17) (v := ?_) rfl (by kernel_rfl) (by kernel_rfl) (by kernel_rfl) (fun _ _ _ h => h) (Or.inl ⟨by rfl, ?_⟩) (by assumption) ?_
  rotate_left
  · (intro w hSw; (try dsimp only at hSw); first | (go_simp; done) | (go_simp; with_reducible rfl))
  simp only [Act.put, List.getElem_toArray, List.getElem_cons_zero, List.getElem_cons_succ, List.setIfInBounds_toArray, List.set_cons_zero, List.set_cons_succ]
  refine wpAnyH_done (by kernel_rfl) ?_ _
  clear hHeld
  go_wp2_with fail
  go_ret
  exact ⟨rfl, H4.out, X4.out, M4.out⟩

set_option maxRecDepth 100000 in
set_option maxHeartbeats 4000000 in
theorem step_5 (G : Gd (L, h)) (H : FAt w B g b L h (tt (L, h))) (X : XAt w B gx L h) (hB : B ≤ w.heap.size) :
    Calls Try.prog 8 #[.pointer (some ⟨g, 0, none⟩), .pointer (some ⟨gx, 0, none⟩), .agg #[.int .i64 5, .int .i64 a, .int .i64 d, .int .i64 n, .string s]] w (StepP B g b gx (hold (L, h) a n).1 w) := by
  have hm := made w (.cells #[.int .i64 5, .int .i64 a, .int .i64 d, .int .i64 n, .string s] 32)
  have H1 := H.below hm
  have X1 := X.below hm
  have bx := Blk.new w 32 #[.int .i64 5, .int .i64 a, .int .i64 d, .int .i64 n, .string s]
  have M := Lib.hid (hm.mono hB)
  have hB1 := Nat.le_trans hB hm.size
  have o0 := bx.cell 0
  generalize hw1 : w.alloc (.cells #[.int .i64 5, .int .i64 a, .int .i64 d, .int .i64 n, .string s] 32) = w1 at *
  have HB := Lib.hid hB1
  have bx2 : Blk w1.drew w.heap.size 32 _ := bx.below (drewB w1) bx.lt
  have SS := Lib.hid (show w1.drew.cell? ⟨w.heap.size, 1, none⟩ = some (.int .i64 a) ∧ w1.drew.cell? ⟨w.heap.size, 3, none⟩ = some (.int .i64 n) from ⟨bx2.cell 1, bx2.cell 3⟩)
  have BX := Lib.hid bx2
  have X2 := Lib.hid (X1.below (drewB w1))
  have MI := Lib.hid (hold_any (id := a) (n := n) G (H1.below (drewB w1)))
  have XM := Lib.hid (fun ws (hx : XAt ws B gx L h) => rhold_any (id := a) (n := n) G hx)
  have M2 := Lib.hid (M.out.trans ((drewB w1).mono hB1))
  generalize hr : hold (L, h) a n = r at *
  obtain ⟨⟨L2, h2⟩, e2⟩ := r
  clear hm H1 X1 bx bx2 H X hB1 G hr M
  go_enter Try.func8, Try.ntmps8
  go_wp2_with (rw [hw1])
  refine wp_region_held_drew (S := fun ws => ws.cell? ⟨w.heap.size, 1, none⟩ = some (.int .i64 a) ∧ ws.cell? ⟨w.heap.size, 3, none⟩ = some (.int .i64 n)) (by kernel_rfl) SS.out (fun hHeld => ?_)
  have HB2 := Lib.hid (show B ≤ w1.drew.heap.size from Nat.le_trans HB.out (drewB w1).size)
  clear HB hw1 o0
  generalize w1.drew = w2 at *
  refine wpAnyH_take (i := 0) (v := ?_) rfl (by kernel_rfl) (by kernel_rfl) (by kernel_rfl) (fun _ _ _ h => h) (Or.inl ⟨by rfl, ?_⟩) (by assumption) ?_
  rotate_left
  · (intro w hSw; (try dsimp only at hSw); first | (go_simp; done) | (go_simp; with_reducible rfl))
  simp only [Act.put, List.getElem_toArray, List.getElem_cons_zero, List.getElem_cons_succ, List.setIfInBounds_toArray, List.set_cons_zero, List.set_cons_succ]
  refine wpAnyH_take (i := 1) (v := ?_) rfl (by kernel_rfl) (by kernel_rfl) (by kernel_rfl) (fun _ _ _ h => h) (Or.inl ⟨by rfl, ?_⟩) (by assumption) ?_
  rotate_left
  · (intro w hSw; (try dsimp only at hSw); first | (go_simp; done) | (go_simp; with_reducible rfl))
  simp only [Act.put, List.getElem_toArray, List.getElem_cons_zero, List.getElem_cons_succ, List.setIfInBounds_toArray, List.set_cons_zero, List.set_cons_succ]
  refine wpAnyH_take (i := 2) (v := ?_) rfl (by kernel_rfl) (by kernel_rfl) (by kernel_rfl) (fun _ _ _ h => h) (Or.inl ⟨by rfl, ?_⟩) (by assumption) ?_
  rotate_left
  · (intro w hSw; (try dsimp only at hSw); first | (go_simp; done) | (go_simp; with_reducible rfl))
  simp only [Act.put, List.getElem_toArray, List.getElem_cons_zero, List.getElem_cons_succ, List.setIfInBounds_toArray, List.set_cons_zero, List.set_cons_succ]
  refine wpAnyH_take (i := 3) (v := ?_) rfl (by kernel_rfl) (by kernel_rfl) (by kernel_rfl) (fun _ _ _ h => h) (Or.inl ⟨by rfl, ?_⟩) (by assumption) ?_
  rotate_left
  · (intro w hSw; (try dsimp only at hSw); first | (go_simp; done) | (go_simp; with_reducible rfl))
  simp only [Act.put, List.getElem_toArray, List.getElem_cons_zero, List.getElem_cons_succ, List.setIfInBounds_toArray, List.set_cons_zero, List.set_cons_succ]
  refine wpAnyH_take (i := 4) (v := ?_) rfl (by kernel_rfl) (by kernel_rfl) (by kernel_rfl) (fun _ _ _ h => h) (Or.inl ⟨by rfl, ?_⟩) (by assumption) ?_
  rotate_left
  · (intro w hSw; (try dsimp only at hSw); first | (go_simp; done) | (go_simp; with_reducible rfl))
  simp only [Act.put, List.getElem_toArray, List.getElem_cons_zero, List.getElem_cons_succ, List.setIfInBounds_toArray, List.set_cons_zero, List.set_cons_succ]
  refine wpAnyH_take (i := 6) (v := ?_) rfl (by kernel_rfl) (by kernel_rfl) (by kernel_rfl) (fun _ _ _ h => h) (Or.inl ⟨by rfl, ?_⟩) (by assumption) ?_
  rotate_left
  · (intro w hSw; (try dsimp only at hSw); first | (go_simp; done) | (go_simp; with_reducible rfl))
  simp only [Act.put, List.getElem_toArray, List.getElem_cons_zero, List.getElem_cons_succ, List.setIfInBounds_toArray, List.set_cons_zero, List.set_cons_succ]
  refine wpAnyH_take (i := 7) (v := ?_) rfl (by kernel_rfl) (by kernel_rfl) (by kernel_rfl) (fun _ _ _ h => h) (Or.inl ⟨by rfl, ?_⟩) (by assumption) ?_
  rotate_left
  · (intro w hSw; (try dsimp only at hSw); first | (go_simp; done) | (go_simp; with_reducible rfl))
  simp only [Act.put, List.getElem_toArray, List.getElem_cons_zero, List.getElem_cons_succ, List.setIfInBounds_toArray, List.set_cons_zero, List.set_cons_succ]
  refine wpAnyH_take (i := 8) (v := ?_) rfl (by kernel_rfl) (by kernel_rfl) (by kernel_rfl) (fun _ _ _ h => h) (Or.inl ⟨by rfl, ?_⟩) (by assumption) ?_
  rotate_left
  · (intro w hSw; (try dsimp only at hSw); first | (go_simp; done) | (go_simp; with_reducible rfl))
  simp only [Act.put, List.getElem_toArray, List.getElem_cons_zero, List.getElem_cons_succ, List.setIfInBounds_toArray, List.set_cons_zero, List.set_cons_succ]
  refine wpAnyH_take (i := 9) (v := ?_) rfl (by kernel_rfl) (by kernel_rfl) (by kernel_rfl) (fun _ _ _ h => h) (Or.inl ⟨by rfl, ?_⟩) (by assumption) ?_
  rotate_left
  · (intro w hSw; (try dsimp only at hSw); first | (go_simp; done) | (go_simp; with_reducible rfl))
  simp only [Act.put, List.getElem_toArray, List.getElem_cons_zero, List.getElem_cons_succ, List.setIfInBounds_toArray, List.set_cons_zero, List.set_cons_succ]
  refine wpAnyH_take (i := 10) (v := ?_) rfl (by kernel_rfl) (by kernel_rfl) (by kernel_rfl) (fun _ _ _ h => h) (Or.inl ⟨by rfl, ?_⟩) (by assumption) ?_
  rotate_left
  · (intro w hSw; (try dsimp only at hSw); first | (go_simp; done) | (go_simp; with_reducible rfl))
  simp only [Act.put, List.getElem_toArray, List.getElem_cons_zero, List.getElem_cons_succ, List.setIfInBounds_toArray, List.set_cons_zero, List.set_cons_succ]
  refine wpAnyH_ready (rs := [5]) (by kernel_rfl) (by simp) ?_
  refine AllReadyH.cons rfl (fun K hK => ?_) AllReadyH.nil
  go_simp
  go_wp2_with (go_at_call 23; refine MI.out.mono ?_; rintro e w3 ⟨rfl, h3, c3⟩)
  have H3 := Lib.hid h3
  have M3 := Lib.hid (M2.out.trans (c3.to HB2.out))
  have HB3 := Lib.hid (Nat.le_trans HB2.out (c3.to HB2.out).size)
  have BX3 := Lib.hid (Chg.blk c3 BX.out rfl)
  have S3 := Lib.hid (show w3.cell? ⟨w.heap.size, 1, none⟩ = some (.int .i64 a) ∧ w3.cell? ⟨w.heap.size, 3, none⟩ = some (.int .i64 n) from ⟨BX3.out.cell 1, BX3.out.cell 3⟩)
  have XM := Lib.hid (XM.out w3 (X2.out.chg c3))
  clear h3 c3 MI X2
  refine hK.out _ _ S3.out (fun hHeld2 => ?_)
  clear hK K hHeld
  refine wpAnyH_ready (rs := [11]) (by kernel_rfl) (by simp) ?_
  refine AllReadyH.cons rfl (fun K hK => ?_) AllReadyH.nil
  go_simp
  go_wp2_with (go_at_call 30; refine XM.out.mono ?_; rintro e w4 ⟨rfl, x4, c4⟩)
  have H4 := Lib.hid (H3.out.chg c4)
  have X4 := Lib.hid x4
  have M4 := Lib.hid (M3.out.trans (c4.to HB3.out))
  have BX4 := Lib.hid (Chg.blk c4 BX3.out rfl)
  have S4 := Lib.hid (show w4.cell? ⟨w.heap.size, 1, none⟩ = some (.int .i64 a) ∧ w4.cell? ⟨w.heap.size, 3, none⟩ = some (.int .i64 n) from ⟨BX4.out.cell 1, BX4.out.cell 3⟩)
  clear x4 c4 XM
  refine hK.out _ _ S4.out (fun hHeld => ?_)
  clear hK K hHeld2
  refine wpAnyH_take (i := 12) (v := ?_) rfl (by kernel_rfl) (by kernel_rfl) (by kernel_rfl) (fun _ _ _ h => h) (Or.inl ⟨by rfl, ?_⟩) (by assumption) ?_
  rotate_left
  · (intro w hSw; (try dsimp only at hSw); first | (go_simp; done) | (go_simp; with_reducible rfl))
  simp only [Act.put, List.getElem_toArray, List.getElem_cons_zero, List.getElem_cons_succ, List.setIfInBounds_toArray, List.set_cons_zero, List.set_cons_succ]
  refine wpAnyH_take (i := 13) (v := ?_) rfl (by kernel_rfl) (by kernel_rfl) (by kernel_rfl) (fun _ _ _ h => h) (Or.inl ⟨by rfl, ?_⟩) (by assumption) ?_
  rotate_left
  · (intro w hSw; (try dsimp only at hSw); first | (go_simp; done) | (go_simp; with_reducible rfl))
  simp only [Act.put, List.getElem_toArray, List.getElem_cons_zero, List.getElem_cons_succ, List.setIfInBounds_toArray, List.set_cons_zero, List.set_cons_succ]
  refine wpAnyH_done (by kernel_rfl) ?_ _
  clear hHeld
  go_wp2_with fail
  go_ret
  exact ⟨rfl, H4.out, X4.out, M4.out⟩

set_option maxRecDepth 100000 in
set_option maxHeartbeats 4000000 in
theorem step_6 (G : Gd (L, h)) (H : FAt w B g b L h (tt (L, h))) (X : XAt w B gx L h) (hB : B ≤ w.heap.size) :
    Calls Try.prog 8 #[.pointer (some ⟨g, 0, none⟩), .pointer (some ⟨gx, 0, none⟩), .agg #[.int .i64 6, .int .i64 a, .int .i64 d, .int .i64 n, .string s]] w (StepP B g b gx (give (L, h) a n).1 w) := by
  have hm := made w (.cells #[.int .i64 6, .int .i64 a, .int .i64 d, .int .i64 n, .string s] 32)
  have H1 := H.below hm
  have X1 := X.below hm
  have bx := Blk.new w 32 #[.int .i64 6, .int .i64 a, .int .i64 d, .int .i64 n, .string s]
  have M := Lib.hid (hm.mono hB)
  have hB1 := Nat.le_trans hB hm.size
  have o0 := bx.cell 0
  generalize hw1 : w.alloc (.cells #[.int .i64 6, .int .i64 a, .int .i64 d, .int .i64 n, .string s] 32) = w1 at *
  have HB := Lib.hid hB1
  have bx2 : Blk w1.drew w.heap.size 32 _ := bx.below (drewB w1) bx.lt
  have SS := Lib.hid (show w1.drew.cell? ⟨w.heap.size, 1, none⟩ = some (.int .i64 a) ∧ w1.drew.cell? ⟨w.heap.size, 3, none⟩ = some (.int .i64 n) from ⟨bx2.cell 1, bx2.cell 3⟩)
  have BX := Lib.hid bx2
  have X2 := Lib.hid (X1.below (drewB w1))
  have MI := Lib.hid (give_any (id := a) (n := n) G (H1.below (drewB w1)))
  have XM := Lib.hid (fun ws (hx : XAt ws B gx L h) => rgive_any (id := a) (n := n) G hx)
  have M2 := Lib.hid (M.out.trans ((drewB w1).mono hB1))
  generalize hr : give (L, h) a n = r at *
  obtain ⟨⟨L2, h2⟩, e2⟩ := r
  clear hm H1 X1 bx bx2 H X hB1 G hr M
  go_enter Try.func8, Try.ntmps8
  go_wp2_with (rw [hw1])
  refine wp_region_held_drew (S := fun ws => ws.cell? ⟨w.heap.size, 1, none⟩ = some (.int .i64 a) ∧ ws.cell? ⟨w.heap.size, 3, none⟩ = some (.int .i64 n)) (by kernel_rfl) SS.out (fun hHeld => ?_)
  have HB2 := Lib.hid (show B ≤ w1.drew.heap.size from Nat.le_trans HB.out (drewB w1).size)
  clear HB hw1 o0
  generalize w1.drew = w2 at *
  refine wpAnyH_take (i := 0) (v := ?_) rfl (by kernel_rfl) (by kernel_rfl) (by kernel_rfl) (fun _ _ _ h => h) (Or.inl ⟨by rfl, ?_⟩) (by assumption) ?_
  rotate_left
  · (intro w hSw; (try dsimp only at hSw); first | (go_simp; done) | (go_simp; with_reducible rfl))
  simp only [Act.put, List.getElem_toArray, List.getElem_cons_zero, List.getElem_cons_succ, List.setIfInBounds_toArray, List.set_cons_zero, List.set_cons_succ]
  refine wpAnyH_take (i := 1) (v := ?_) rfl (by kernel_rfl) (by kernel_rfl) (by kernel_rfl) (fun _ _ _ h => h) (Or.inl ⟨by rfl, ?_⟩) (by assumption) ?_
  rotate_left
  · (intro w hSw; (try dsimp only at hSw); first | (go_simp; done) | (go_simp; with_reducible rfl))
  simp only [Act.put, List.getElem_toArray, List.getElem_cons_zero, List.getElem_cons_succ, List.setIfInBounds_toArray, List.set_cons_zero, List.set_cons_succ]
  refine wpAnyH_take (i := 2) (v := ?_) rfl (by kernel_rfl) (by kernel_rfl) (by kernel_rfl) (fun _ _ _ h => h) (Or.inl ⟨by rfl, ?_⟩) (by assumption) ?_
  rotate_left
  · (intro w hSw; (try dsimp only at hSw); first | (go_simp; done) | (go_simp; with_reducible rfl))
  simp only [Act.put, List.getElem_toArray, List.getElem_cons_zero, List.getElem_cons_succ, List.setIfInBounds_toArray, List.set_cons_zero, List.set_cons_succ]
  refine wpAnyH_take (i := 3) (v := ?_) rfl (by kernel_rfl) (by kernel_rfl) (by kernel_rfl) (fun _ _ _ h => h) (Or.inl ⟨by rfl, ?_⟩) (by assumption) ?_
  rotate_left
  · (intro w hSw; (try dsimp only at hSw); first | (go_simp; done) | (go_simp; with_reducible rfl))
  simp only [Act.put, List.getElem_toArray, List.getElem_cons_zero, List.getElem_cons_succ, List.setIfInBounds_toArray, List.set_cons_zero, List.set_cons_succ]
  refine wpAnyH_take (i := 4) (v := ?_) rfl (by kernel_rfl) (by kernel_rfl) (by kernel_rfl) (fun _ _ _ h => h) (Or.inl ⟨by rfl, ?_⟩) (by assumption) ?_
  rotate_left
  · (intro w hSw; (try dsimp only at hSw); first | (go_simp; done) | (go_simp; with_reducible rfl))
  simp only [Act.put, List.getElem_toArray, List.getElem_cons_zero, List.getElem_cons_succ, List.setIfInBounds_toArray, List.set_cons_zero, List.set_cons_succ]
  refine wpAnyH_take (i := 6) (v := ?_) rfl (by kernel_rfl) (by kernel_rfl) (by kernel_rfl) (fun _ _ _ h => h) (Or.inl ⟨by rfl, ?_⟩) (by assumption) ?_
  rotate_left
  · (intro w hSw; (try dsimp only at hSw); first | (go_simp; done) | (go_simp; with_reducible rfl))
  simp only [Act.put, List.getElem_toArray, List.getElem_cons_zero, List.getElem_cons_succ, List.setIfInBounds_toArray, List.set_cons_zero, List.set_cons_succ]
  refine wpAnyH_take (i := 7) (v := ?_) rfl (by kernel_rfl) (by kernel_rfl) (by kernel_rfl) (fun _ _ _ h => h) (Or.inl ⟨by rfl, ?_⟩) (by assumption) ?_
  rotate_left
  · (intro w hSw; (try dsimp only at hSw); first | (go_simp; done) | (go_simp; with_reducible rfl))
  simp only [Act.put, List.getElem_toArray, List.getElem_cons_zero, List.getElem_cons_succ, List.setIfInBounds_toArray, List.set_cons_zero, List.set_cons_succ]
  refine wpAnyH_take (i := 8) (v := ?_) rfl (by kernel_rfl) (by kernel_rfl) (by kernel_rfl) (fun _ _ _ h => h) (Or.inl ⟨by rfl, ?_⟩) (by assumption) ?_
  rotate_left
  · (intro w hSw; (try dsimp only at hSw); first | (go_simp; done) | (go_simp; with_reducible rfl))
  simp only [Act.put, List.getElem_toArray, List.getElem_cons_zero, List.getElem_cons_succ, List.setIfInBounds_toArray, List.set_cons_zero, List.set_cons_succ]
  refine wpAnyH_take (i := 9) (v := ?_) rfl (by kernel_rfl) (by kernel_rfl) (by kernel_rfl) (fun _ _ _ h => h) (Or.inl ⟨by rfl, ?_⟩) (by assumption) ?_
  rotate_left
  · (intro w hSw; (try dsimp only at hSw); first | (go_simp; done) | (go_simp; with_reducible rfl))
  simp only [Act.put, List.getElem_toArray, List.getElem_cons_zero, List.getElem_cons_succ, List.setIfInBounds_toArray, List.set_cons_zero, List.set_cons_succ]
  refine wpAnyH_take (i := 10) (v := ?_) rfl (by kernel_rfl) (by kernel_rfl) (by kernel_rfl) (fun _ _ _ h => h) (Or.inl ⟨by rfl, ?_⟩) (by assumption) ?_
  rotate_left
  · (intro w hSw; (try dsimp only at hSw); first | (go_simp; done) | (go_simp; with_reducible rfl))
  simp only [Act.put, List.getElem_toArray, List.getElem_cons_zero, List.getElem_cons_succ, List.setIfInBounds_toArray, List.set_cons_zero, List.set_cons_succ]
  refine wpAnyH_ready (rs := [5]) (by kernel_rfl) (by simp) ?_
  refine AllReadyH.cons rfl (fun K hK => ?_) AllReadyH.nil
  go_simp
  go_wp2_with (go_at_call 31; refine MI.out.mono ?_; rintro e w3 ⟨rfl, h3, c3⟩)
  have H3 := Lib.hid h3
  have M3 := Lib.hid (M2.out.trans (c3.to HB2.out))
  have HB3 := Lib.hid (Nat.le_trans HB2.out (c3.to HB2.out).size)
  have BX3 := Lib.hid (Chg.blk c3 BX.out rfl)
  have S3 := Lib.hid (show w3.cell? ⟨w.heap.size, 1, none⟩ = some (.int .i64 a) ∧ w3.cell? ⟨w.heap.size, 3, none⟩ = some (.int .i64 n) from ⟨BX3.out.cell 1, BX3.out.cell 3⟩)
  have XM := Lib.hid (XM.out w3 (X2.out.chg c3))
  clear h3 c3 MI X2
  refine hK.out _ _ S3.out (fun hHeld2 => ?_)
  clear hK K hHeld
  refine wpAnyH_ready (rs := [11]) (by kernel_rfl) (by simp) ?_
  refine AllReadyH.cons rfl (fun K hK => ?_) AllReadyH.nil
  go_simp
  go_wp2_with (go_at_call 32; refine XM.out.mono ?_; rintro e w4 ⟨rfl, x4, c4⟩)
  have H4 := Lib.hid (H3.out.chg c4)
  have X4 := Lib.hid x4
  have M4 := Lib.hid (M3.out.trans (c4.to HB3.out))
  have BX4 := Lib.hid (Chg.blk c4 BX3.out rfl)
  have S4 := Lib.hid (show w4.cell? ⟨w.heap.size, 1, none⟩ = some (.int .i64 a) ∧ w4.cell? ⟨w.heap.size, 3, none⟩ = some (.int .i64 n) from ⟨BX4.out.cell 1, BX4.out.cell 3⟩)
  clear x4 c4 XM
  refine hK.out _ _ S4.out (fun hHeld => ?_)
  clear hK K hHeld2
  refine wpAnyH_take (i := 12) (v := ?_) rfl (by kernel_rfl) (by kernel_rfl) (by kernel_rfl) (fun _ _ _ h => h) (Or.inl ⟨by rfl, ?_⟩) (by assumption) ?_
  rotate_left
  · (intro w hSw; (try dsimp only at hSw); first | (go_simp; done) | (go_simp; with_reducible rfl))
  simp only [Act.put, List.getElem_toArray, List.getElem_cons_zero, List.getElem_cons_succ, List.setIfInBounds_toArray, List.set_cons_zero, List.set_cons_succ]
  refine wpAnyH_take (i := 13) (v := ?_) rfl (by kernel_rfl) (by kernel_rfl) (by kernel_rfl) (fun _ _ _ h => h) (Or.inl ⟨by rfl, ?_⟩) (by assumption) ?_
  rotate_left
  · (intro w hSw; (try dsimp only at hSw); first | (go_simp; done) | (go_simp; with_reducible rfl))
  simp only [Act.put, List.getElem_toArray, List.getElem_cons_zero, List.getElem_cons_succ, List.setIfInBounds_toArray, List.set_cons_zero, List.set_cons_succ]
  refine wpAnyH_done (by kernel_rfl) ?_ _
  clear hHeld
  go_wp2_with fail
  go_ret
  exact ⟨rfl, H4.out, X4.out, M4.out⟩

set_option maxRecDepth 100000 in
set_option maxHeartbeats 4000000 in
theorem step_0 {k : Int} (h1 : k ≠ 1) (h2 : k ≠ 2) (h3 : k ≠ 3) (h4 : k ≠ 4) (h5 : k ≠ 5) (h6 : k ≠ 6) (H : FAt w B g b L h (tt (L, h))) (X : XAt w B gx L h) (hB : B ≤ w.heap.size) :
    Calls Try.prog 8 #[.pointer (some ⟨g, 0, none⟩), .pointer (some ⟨gx, 0, none⟩), .agg #[.int .i64 k, .int .i64 a, .int .i64 d, .int .i64 n, .string s]] w (StepP B g b gx (L, h) w) := by
  have hm := made w (.cells #[.int .i64 k, .int .i64 a, .int .i64 d, .int .i64 n, .string s] 32)
  have H1 := Lib.hid (H.below hm)
  have X1 := Lib.hid (X.below hm)
  have bx := Blk.new w 32 #[.int .i64 k, .int .i64 a, .int .i64 d, .int .i64 n, .string s]
  have M := Lib.hid (hm.mono hB)
  have o0 := bx.cell 0
  generalize hw1 : w.alloc (.cells #[.int .i64 k, .int .i64 a, .int .i64 d, .int .i64 n, .string s] 32) = w1 at *
  have q1 : (k == 1) = false := by simpa using h1
  have q2 : (k == 2) = false := by simpa using h2
  have q3 : (k == 3) = false := by simpa using h3
  have q4 : (k == 4) = false := by simpa using h4
  have q5 : (k == 5) = false := by simpa using h5
  have q6 : (k == 6) = false := by simpa using h6
  clear hm bx H X h1 h2 h3 h4 h5 h6
  go_enter Try.func8, Try.ntmps8
  go_wp2_with (rw [hw1])
  go_ret
  exact ⟨rfl, H1.out, X1.out, M.out⟩
def stepS (s : St) (k a d n : Int) (nm : ByteArray) : St :=
  if k = 1 then (add s nm).1 else if k = 2 then (mint s a n).1 else if k = 3 then (less s a n).1 else if k = 4 then (move s a d n).1 else if k = 5 then (hold s a n).1 else if k = 6 then (give s a n).1 else s
theorem step_any (k : Int) (G : Gd (L, h)) (H : FAt w B g b L h (tt (L, h))) (X : XAt w B gx L h) (hB : B ≤ w.heap.size) (hs : s.size ≤ maxLen) :
    Calls Try.prog 8 #[.pointer (some ⟨g, 0, none⟩), .pointer (some ⟨gx, 0, none⟩), .agg #[.int .i64 k, .int .i64 a, .int .i64 d, .int .i64 n, .string s]] w (StepP B g b gx (stepS (L, h) k a d n s) w) := by
  unfold stepS
  by_cases h1 : k = 1
  · rw [if_pos h1]; subst h1; exact step_1 G H X hB hs
  rw [if_neg h1]
  by_cases h2 : k = 2
  · rw [if_pos h2]; subst h2; exact step_2 G H X hB
  rw [if_neg h2]
  by_cases h3 : k = 3
  · rw [if_pos h3]; subst h3; exact step_3 G H X hB
  rw [if_neg h3]
  by_cases h4 : k = 4
  · rw [if_pos h4]; subst h4; exact step_4 G H X hB
  rw [if_neg h4]
  by_cases h5 : k = 5
  · rw [if_pos h5]; subst h5; exact step_5 G H X hB
  rw [if_neg h5]
  by_cases h6 : k = 6
  · rw [if_pos h6]; subst h6; exact step_6 G H X hB
  rw [if_neg h6]
  exact step_0 h1 h2 h3 h4 h5 h6 H X hB
end Go.Proofs.Ytkpnlcllmgobkaa.fk
