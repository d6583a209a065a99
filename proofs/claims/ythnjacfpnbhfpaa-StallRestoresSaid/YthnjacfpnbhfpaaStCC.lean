/-
  Stalls: restore, one row.
-/
import Derived.Test.YthnjacfpnbhfpaaStBB
import Derived.Deep.RegionHeld
namespace Go.Proofs.Ythnjacfpnbhfpaa.st
open Go.RowKit
open base (ret_bool ret_int made up Blk Only)
open rk mk
set_option linter.unusedVariables false
set_option linter.unusedSimpArgs false
variable {B g bs bw : Nat} {w w1 w2 w' : World} {s : S3} {tot : Int} {m : Nat}
theorem drewB4 (w : World) : Below w.heap.size w w.drew := (Below.refl _ _).drew
theorem SX.totc (H : SX w B g bs bw s tot m) : w.cell? ⟨g, 2, none⟩ = some (.int .i64 tot) := by
  obtain ⟨nT, nG, P, M, h1, a, b⟩ := H
  exact h1.blk.cell 2
theorem prow_eq {h u : Int} {gs : List C2} (q1 : openE s h = 0) (q2 : 0 ≤ u ∧ u ≤ 1099511627776) : prow s h u gs = (gfold (setS (openR s h) h u) h gs).map (·.1) := if_pos ⟨q1, q2⟩
theorem open_T {h : Int} (q1 : openE s h = 0) : (openR s h).T h = some 0 := by
  unfold openE at q1
  unfold openR
  by_cases a : h < 1
  · rw [if_pos a] at q1; cases q1
  rw [if_neg a] at q1 ⊢
  by_cases b : (s.T h).isSome = true
  · rw [if_pos b] at q1; cases q1
  rw [if_neg b]
  exact put_same _ _ _
def RestP (B g bs bw : Nat) (s : S3) (tot : Int) (m : Nat) (h u : Int) (gs : List C2) (w : World) (e : Ending) (w' : World) : Prop :=
  (∀ s2, prow s h u gs = some s2 → e = .returned (.bool true) ∧ SX w' B g bs bw s2 (tot + u) (m + 1 + gs.length)) ∧ (prow s h u gs = none → e = .returned (.bool false)) ∧ Chg B w w'
set_option maxRecDepth 100000 in
set_option maxHeartbeats 8000000 in
theorem restore_no1 (h u : Int) (gs : List C2) (A : Option Addr) (c : Nat) (w0 : World) (H : SX w B g bs bw s tot m) (hm : m ≤ 900) (ht : 0 ≤ tot ∧ tot ≤ 1125899906842624) (hw : (Lit.int .i64 h).wf = true) (hB : B ≤ w.heap.size) (L0 : Lay E2 w0 A gs) (b0 : Below w0.heap.size w0 w) (hz0 : w0.heap.size ≤ B) (hl : gs.length ≤ 30) (hgw : ∀ d, d ∈ gs → (Lit.int .i64 d.1).wf = true) (q1 : openE s h ≠ 0) :
    Calls Try.prog 38 #[.pointer (some ⟨g, 0, none⟩), .agg #[.int .i64 h, .int .i64 u, .slice A gs.length c]] w (RestP B g bs bw s tot m h u gs w) := by
  have HP := Lib.hid (show prow s h u gs = none from if_neg (fun e => q1 e.1))
  have hm1 := made w (.cells #[.int .i64 h, .int .i64 u, .slice A gs.length c] 47)
  have BR := Lib.hid (Blk.new w 47 #[.int .i64 h, .int .i64 u, .slice A gs.length c])
  have C1 := Lib.hid (Chg.of_below B hm1)
  have X1 := Lib.hid ((H.below hm1).below (drewB4 (w.alloc (.cells #[.int .i64 h, .int .i64 u, .slice A gs.length c] 47))))
  have HB1 := Lib.hid (Nat.le_trans hB hm1.size)
  have HBw := Lib.hid hB
  clear hm1 H hB
  go_enter Try.func38, Try.ntmps38
  go_upto_region 1 with fail
  generalize w.alloc (.cells #[.int .i64 h, .int .i64 u, .slice A gs.length c] 47) = w1 at *
  generalize hrb : w.heap.size = rb at *
  have HRB := Lib.hid hrb
  clear hrb
  have BR1 := Lib.hid (BR.out.below (drewB4 w1) BR.out.lt)
  have C1d := Lib.hid (C1.out.step (drewB4 w1))
  have HB2 := Lib.hid (Nat.le_trans HB1.out (drewB4 w1).size)
  have SF := Lib.hid (fun W (s2 : S3) (m2 : Nat) (k : Blk W rb 47 #[.int .i64 h, .int .i64 u, .slice A gs.length c]) (x : SX W B g bs bw s2 tot m2) => show W.cell? ⟨rb, 0, none⟩ = some (.int .i64 h) ∧ W.cell? ⟨rb, 1, none⟩ = some (.int .i64 u) ∧ W.cell? ⟨g, 2, none⟩ = some (.int .i64 tot) from ⟨k.cell 0, k.cell 1, x.totc⟩)
  have OP := Lib.hid (open_any h X1.out (by omega) hw HB2.out)
  refine wp_region_held_drew (S := fun W => W.cell? ⟨rb, 0, none⟩ = some (.int .i64 h) ∧ W.cell? ⟨rb, 1, none⟩ = some (.int .i64 u) ∧ W.cell? ⟨g, 2, none⟩ = some (.int .i64 tot)) (by kernel_rfl) (SF.out _ _ _ BR1.out X1.out) (fun hHeld => ?_)
  clear BR C1 HB1
  generalize w1.drew = w2 at *
  generalize openR s h = s1 at *
  generalize openE s h = er at *
  have z1 : (er != 0) = true := by simpa using q1
  clear q1
  refine wpAnyH_take (i := 0) (v := ?_) rfl (by kernel_rfl) (by kernel_rfl) (by kernel_rfl) (fun _ _ _ h => h) (Or.inl ⟨by rfl, ?_⟩) (by assumption) ?_
  rotate_left
  · (intro w hSw; (try dsimp only at hSw); first | (go_simp; done) | (go_simp; with_reducible rfl))
  simp only [Act.put, List.getElem_toArray, List.getElem_cons_zero, List.getElem_cons_succ, List.setIfInBounds_toArray, List.set_cons_zero, List.set_cons_succ]
  refine wpAnyH_take (i := 1) (v := ?_) rfl (by kernel_rfl) (by kernel_rfl) (by kernel_rfl) (fun _ _ _ h => h) (Or.inl ⟨by rfl, ?_⟩) (by assumption) ?_
  rotate_left
  · (intro w hSw; (try dsimp only at hSw); first | (go_simp; done) | (go_simp; with_reducible rfl))
  simp only [Act.put, List.getElem_toArray, List.getElem_cons_zero, List.getElem_cons_succ, List.setIfInBounds_toArray, List.set_cons_zero, List.set_cons_succ]
  refine wpAnyH_take (i := 2) (v := ?_) rfl (by kernel_rfl) (by kernel_rfl) (by kernel_rfl) (fun _ _ _ h => h) (Or.inl ⟨by rfl, ?_⟩) (by assumption) ?_
  rotate_left
  · (intro w hSw; (try dsimp only at hSw); first | (go_simp; done) | (go_simp; with_reducible rfl))
  simp only [Act.put, List.getElem_toArray, List.getElem_cons_zero, List.getElem_cons_succ, List.setIfInBounds_toArray, List.set_cons_zero, List.set_cons_succ]
  refine wpAnyH_ready (rs := [3]) (by kernel_rfl) (by simp) ?_
  refine AllReadyH.cons rfl (fun K hK => ?_) AllReadyH.nil
  go_simp
  go_wp2_with (go_at_call 15; refine OP.out.mono ?_; rintro e w3 ⟨rfl, h3, c3⟩)
  have SS := Lib.hid (SF.out _ _ _ (Chg.blk c3 BR1.out rfl) h3)
  have CE := Lib.hid (C1d.out.trans c3)
  clear h3 c3
  refine hK.out _ _ SS.out (fun hHeld2 => ?_)
  clear hK K hHeld
  refine wpAnyH_take (i := 4) (v := ?_) rfl (by kernel_rfl) (by kernel_rfl) (by kernel_rfl) (fun _ _ _ h => h) (Or.inl ⟨by rfl, ?_⟩) (by assumption) ?_
  rotate_left
  · (intro w hSw; (try dsimp only at hSw); first | (go_simp; done) | (go_simp; with_reducible rfl))
  simp only [Act.put, List.getElem_toArray, List.getElem_cons_zero, List.getElem_cons_succ, List.setIfInBounds_toArray, List.set_cons_zero, List.set_cons_succ]
  refine wpAnyH_take (i := 5) (v := ?_) rfl (by kernel_rfl) (by kernel_rfl) (by kernel_rfl) (fun _ _ _ h => h) (Or.inl ⟨by rfl, ?_⟩) (by assumption) ?_
  rotate_left
  · (intro w hSw; (try dsimp only at hSw); first | (go_simp; done) | (go_simp; with_reducible rfl))
  simp only [Act.put, List.getElem_toArray, List.getElem_cons_zero, List.getElem_cons_succ, List.setIfInBounds_toArray, List.set_cons_zero, List.set_cons_succ]
  refine wpAnyH_take (i := 6) (v := undef) rfl (by kernel_rfl) (by kernel_rfl) (by kernel_rfl) (fun _ _ _ h => h) (Or.inr ⟨by rfl, rfl⟩) (by assumption) ?_
  simp only [Act.put, List.getElem_toArray, List.getElem_cons_zero, List.getElem_cons_succ, List.setIfInBounds_toArray, List.set_cons_zero, List.set_cons_succ]
  refine wpAnyH_take (i := 7) (v := undef) rfl (by kernel_rfl) (by kernel_rfl) (by kernel_rfl) (fun _ _ _ h => h) (Or.inr ⟨by rfl, rfl⟩) (by assumption) ?_
  simp only [Act.put, List.getElem_toArray, List.getElem_cons_zero, List.getElem_cons_succ, List.setIfInBounds_toArray, List.set_cons_zero, List.set_cons_succ]
  refine wpAnyH_take (i := 8) (v := undef) rfl (by kernel_rfl) (by kernel_rfl) (by kernel_rfl) (fun _ _ _ h => h) (Or.inr ⟨by rfl, rfl⟩) (by assumption) ?_
  simp only [Act.put, List.getElem_toArray, List.getElem_cons_zero, List.getElem_cons_succ, List.setIfInBounds_toArray, List.set_cons_zero, List.set_cons_succ]
  refine wpAnyH_take (i := 9) (v := undef) rfl (by kernel_rfl) (by kernel_rfl) (by kernel_rfl) (fun _ _ _ h => h) (Or.inr ⟨by rfl, rfl⟩) (by assumption) ?_
  simp only [Act.put, List.getElem_toArray, List.getElem_cons_zero, List.getElem_cons_succ, List.setIfInBounds_toArray, List.set_cons_zero, List.set_cons_succ]
  refine wpAnyH_take (i := 10) (v := ?_) rfl (by kernel_rfl) (by kernel_rfl) (by kernel_rfl) (fun _ _ _ h => h) (Or.inl ⟨by rfl, ?_⟩) (by assumption) ?_
  rotate_left
  · (intro w hSw; (try dsimp only at hSw); first | (go_simp; done) | (go_simp; with_reducible rfl))
  simp only [Act.put, List.getElem_toArray, List.getElem_cons_zero, List.getElem_cons_succ, List.setIfInBounds_toArray, List.set_cons_zero, List.set_cons_succ]
  refine wpAnyH_take (i := 11) (v := ?_) rfl (by kernel_rfl) (by kernel_rfl) (by kernel_rfl) (fun _ _ _ h => h) (Or.inl ⟨by rfl, ?_⟩) (by assumption) ?_
  rotate_left
  · (intro w hSw; (try dsimp only at hSw); first | (go_simp; done) | (go_simp; with_reducible rfl))
  simp only [Act.put, List.getElem_toArray, List.getElem_cons_zero, List.getElem_cons_succ, List.setIfInBounds_toArray, List.set_cons_zero, List.set_cons_succ]
  refine wpAnyH_take (i := 12) (v := undef) rfl (by kernel_rfl) (by kernel_rfl) (by kernel_rfl) (fun _ _ _ h => h) (Or.inr ⟨by rfl, rfl⟩) (by assumption) ?_
  simp only [Act.put, List.getElem_toArray, List.getElem_cons_zero, List.getElem_cons_succ, List.setIfInBounds_toArray, List.set_cons_zero, List.set_cons_succ]
  refine wpAnyH_take (i := 13) (v := undef) rfl (by kernel_rfl) (by kernel_rfl) (by kernel_rfl) (fun _ _ _ h => h) (Or.inr ⟨by rfl, rfl⟩) (by assumption) ?_
  simp only [Act.put, List.getElem_toArray, List.getElem_cons_zero, List.getElem_cons_succ, List.setIfInBounds_toArray, List.set_cons_zero, List.set_cons_succ]
  refine wpAnyH_take (i := 14) (v := undef) rfl (by kernel_rfl) (by kernel_rfl) (by kernel_rfl) (fun _ _ _ h => h) (Or.inr ⟨by rfl, rfl⟩) (by assumption) ?_
  simp only [Act.put, List.getElem_toArray, List.getElem_cons_zero, List.getElem_cons_succ, List.setIfInBounds_toArray, List.set_cons_zero, List.set_cons_succ]
  refine wpAnyH_take (i := 15) (v := undef) rfl (by kernel_rfl) (by kernel_rfl) (by kernel_rfl) (fun _ _ _ h => h) (Or.inr ⟨by rfl, rfl⟩) (by assumption) ?_
  simp only [Act.put, List.getElem_toArray, List.getElem_cons_zero, List.getElem_cons_succ, List.setIfInBounds_toArray, List.set_cons_zero, List.set_cons_succ]
  refine wpAnyH_take (i := 16) (v := undef) rfl (by kernel_rfl) (by kernel_rfl) (by kernel_rfl) (fun _ _ _ h => h) (Or.inr ⟨by rfl, rfl⟩) (by assumption) ?_
  simp only [Act.put, List.getElem_toArray, List.getElem_cons_zero, List.getElem_cons_succ, List.setIfInBounds_toArray, List.set_cons_zero, List.set_cons_succ]
  refine wpAnyH_take (i := 17) (v := undef) rfl (by kernel_rfl) (by kernel_rfl) (by kernel_rfl) (fun _ _ _ h => h) (Or.inr ⟨by rfl, rfl⟩) (by assumption) ?_
  simp only [Act.put, List.getElem_toArray, List.getElem_cons_zero, List.getElem_cons_succ, List.setIfInBounds_toArray, List.set_cons_zero, List.set_cons_succ]
  refine wpAnyH_take (i := 18) (v := undef) rfl (by kernel_rfl) (by kernel_rfl) (by kernel_rfl) (fun _ _ _ h => h) (Or.inr ⟨by rfl, rfl⟩) (by assumption) ?_
  simp only [Act.put, List.getElem_toArray, List.getElem_cons_zero, List.getElem_cons_succ, List.setIfInBounds_toArray, List.set_cons_zero, List.set_cons_succ]
  refine wpAnyH_take (i := 19) (v := undef) rfl (by kernel_rfl) (by kernel_rfl) (by kernel_rfl) (fun _ _ _ h => h) (Or.inr ⟨by rfl, rfl⟩) (by assumption) ?_
  simp only [Act.put, List.getElem_toArray, List.getElem_cons_zero, List.getElem_cons_succ, List.setIfInBounds_toArray, List.set_cons_zero, List.set_cons_succ]
  refine wpAnyH_take (i := 20) (v := ?_) rfl (by kernel_rfl) (by kernel_rfl) (by kernel_rfl) (fun _ _ _ h => h) (Or.inl ⟨by rfl, ?_⟩) (by assumption) ?_
  rotate_left
  · (intro w hSw; (try dsimp only at hSw); first | (go_simp; done) | (go_simp; with_reducible rfl))
  simp only [Act.put, List.getElem_toArray, List.getElem_cons_zero, List.getElem_cons_succ, List.setIfInBounds_toArray, List.set_cons_zero, List.set_cons_succ]
  refine wpAnyH_done (by kernel_rfl) ?_ _
  clear hHeld2 z1
  go_wp2_with fail
  go_ret
  exact ⟨fun s2 e => (by rw [HP.out] at e; cases e), fun _ => rfl, CE.out⟩
set_option maxRecDepth 100000 in
set_option maxHeartbeats 8000000 in
theorem restore_no2 (h u : Int) (gs : List C2) (A : Option Addr) (c : Nat) (w0 : World) (H : SX w B g bs bw s tot m) (hm : m ≤ 900) (ht : 0 ≤ tot ∧ tot ≤ 1125899906842624) (hw : (Lit.int .i64 h).wf = true) (hB : B ≤ w.heap.size) (L0 : Lay E2 w0 A gs) (b0 : Below w0.heap.size w0 w) (hz0 : w0.heap.size ≤ B) (hl : gs.length ≤ 30) (hgw : ∀ d, d ∈ gs → (Lit.int .i64 d.1).wf = true) (q1 : openE s h = 0) (q2 : gold.isRight u = false) :
    Calls Try.prog 38 #[.pointer (some ⟨g, 0, none⟩), .agg #[.int .i64 h, .int .i64 u, .slice A gs.length c]] w (RestP B g bs bw s tot m h u gs w) := by
  have HP := Lib.hid (show prow s h u gs = none from if_neg (fun e => by rw [gold.right_mk e.2.1 e.2.2] at q2; cases q2))
  have RI := Lib.hid (fun W => gold.right_any u W)
  have hm1 := made w (.cells #[.int .i64 h, .int .i64 u, .slice A gs.length c] 47)
  have BR := Lib.hid (Blk.new w 47 #[.int .i64 h, .int .i64 u, .slice A gs.length c])
  have C1 := Lib.hid (Chg.of_below B hm1)
  have X1 := Lib.hid ((H.below hm1).below (drewB4 (w.alloc (.cells #[.int .i64 h, .int .i64 u, .slice A gs.length c] 47))))
  have HB1 := Lib.hid (Nat.le_trans hB hm1.size)
  have HBw := Lib.hid hB
  clear hm1 H hB
  go_enter Try.func38, Try.ntmps38
  go_upto_region 1 with fail
  generalize w.alloc (.cells #[.int .i64 h, .int .i64 u, .slice A gs.length c] 47) = w1 at *
  generalize hrb : w.heap.size = rb at *
  have HRB := Lib.hid hrb
  clear hrb
  have BR1 := Lib.hid (BR.out.below (drewB4 w1) BR.out.lt)
  have C1d := Lib.hid (C1.out.step (drewB4 w1))
  have HB2 := Lib.hid (Nat.le_trans HB1.out (drewB4 w1).size)
  have SF := Lib.hid (fun W (s2 : S3) (m2 : Nat) (k : Blk W rb 47 #[.int .i64 h, .int .i64 u, .slice A gs.length c]) (x : SX W B g bs bw s2 tot m2) => show W.cell? ⟨rb, 0, none⟩ = some (.int .i64 h) ∧ W.cell? ⟨rb, 1, none⟩ = some (.int .i64 u) ∧ W.cell? ⟨g, 2, none⟩ = some (.int .i64 tot) from ⟨k.cell 0, k.cell 1, x.totc⟩)
  have OP := Lib.hid (open_any h X1.out (by omega) hw HB2.out)
  refine wp_region_held_drew (S := fun W => W.cell? ⟨rb, 0, none⟩ = some (.int .i64 h) ∧ W.cell? ⟨rb, 1, none⟩ = some (.int .i64 u) ∧ W.cell? ⟨g, 2, none⟩ = some (.int .i64 tot)) (by kernel_rfl) (SF.out _ _ _ BR1.out X1.out) (fun hHeld => ?_)
  clear BR C1 HB1
  generalize w1.drew = w2 at *
  rw [q1] at OP
  rw [q2] at RI
  generalize openR s h = s1 at *
  clear q1 q2
  refine wpAnyH_take (i := 0) (v := ?_) rfl (by kernel_rfl) (by kernel_rfl) (by kernel_rfl) (fun _ _ _ h => h) (Or.inl ⟨by rfl, ?_⟩) (by assumption) ?_
  rotate_left
  · (intro w hSw; (try dsimp only at hSw); first | (go_simp; done) | (go_simp; with_reducible rfl))
  simp only [Act.put, List.getElem_toArray, List.getElem_cons_zero, List.getElem_cons_succ, List.setIfInBounds_toArray, List.set_cons_zero, List.set_cons_succ]
  refine wpAnyH_take (i := 1) (v := ?_) rfl (by kernel_rfl) (by kernel_rfl) (by kernel_rfl) (fun _ _ _ h => h) (Or.inl ⟨by rfl, ?_⟩) (by assumption) ?_
  rotate_left
  · (intro w hSw; (try dsimp only at hSw); first | (go_simp; done) | (go_simp; with_reducible rfl))
  simp only [Act.put, List.getElem_toArray, List.getElem_cons_zero, List.getElem_cons_succ, List.setIfInBounds_toArray, List.set_cons_zero, List.set_cons_succ]
  refine wpAnyH_take (i := 2) (v := ?_) rfl (by kernel_rfl) (by kernel_rfl) (by kernel_rfl) (fun _ _ _ h => h) (Or.inl ⟨by rfl, ?_⟩) (by assumption) ?_
  rotate_left
  · (intro w hSw; (try dsimp only at hSw); first | (go_simp; done) | (go_simp; with_reducible rfl))
  simp only [Act.put, List.getElem_toArray, List.getElem_cons_zero, List.getElem_cons_succ, List.setIfInBounds_toArray, List.set_cons_zero, List.set_cons_succ]
  refine wpAnyH_ready (rs := [3]) (by kernel_rfl) (by simp) ?_
  refine AllReadyH.cons rfl (fun K hK => ?_) AllReadyH.nil
  go_simp
  go_wp2_with (go_at_call 15; refine OP.out.mono ?_; rintro e w3 ⟨rfl, h3, c3⟩)
  have SS := Lib.hid (SF.out _ _ _ (Chg.blk c3 BR1.out rfl) h3)
  have CE := Lib.hid (C1d.out.trans c3)
  clear h3 c3
  refine hK.out _ _ SS.out (fun hHeld2 => ?_)
  clear hK K hHeld
  refine wpAnyH_take (i := 4) (v := ?_) rfl (by kernel_rfl) (by kernel_rfl) (by kernel_rfl) (fun _ _ _ h => h) (Or.inl ⟨by rfl, ?_⟩) (by assumption) ?_
  rotate_left
  · (intro w hSw; (try dsimp only at hSw); first | (go_simp; done) | (go_simp; with_reducible rfl))
  simp only [Act.put, List.getElem_toArray, List.getElem_cons_zero, List.getElem_cons_succ, List.setIfInBounds_toArray, List.set_cons_zero, List.set_cons_succ]
  refine wpAnyH_take (i := 5) (v := ?_) rfl (by kernel_rfl) (by kernel_rfl) (by kernel_rfl) (fun _ _ _ h => h) (Or.inl ⟨by rfl, ?_⟩) (by assumption) ?_
  rotate_left
  · (intro w hSw; (try dsimp only at hSw); first | (go_simp; done) | (go_simp; with_reducible rfl))
  simp only [Act.put, List.getElem_toArray, List.getElem_cons_zero, List.getElem_cons_succ, List.setIfInBounds_toArray, List.set_cons_zero, List.set_cons_succ]
  refine wpAnyH_take (i := 6) (v := ?_) rfl (by kernel_rfl) (by kernel_rfl) (by kernel_rfl) (fun _ _ _ h => h) (Or.inl ⟨by rfl, ?_⟩) (by assumption) ?_
  rotate_left
  · (intro w hSw; (try dsimp only at hSw); first | (go_simp; done) | (go_simp; with_reducible rfl))
  simp only [Act.put, List.getElem_toArray, List.getElem_cons_zero, List.getElem_cons_succ, List.setIfInBounds_toArray, List.set_cons_zero, List.set_cons_succ]
  refine wpAnyH_take (i := 7) (v := ?_) rfl (by kernel_rfl) (by kernel_rfl) (by kernel_rfl) (fun _ _ _ h => h) (Or.inl ⟨by rfl, ?_⟩) (by assumption) ?_
  rotate_left
  · (intro w hSw; (try dsimp only at hSw); first | (go_simp; done) | (go_simp; with_reducible rfl))
  simp only [Act.put, List.getElem_toArray, List.getElem_cons_zero, List.getElem_cons_succ, List.setIfInBounds_toArray, List.set_cons_zero, List.set_cons_succ]
  refine wpAnyH_ready (rs := [8]) (by kernel_rfl) (by simp) ?_
  refine AllReadyH.cons rfl (fun K hK => ?_) AllReadyH.nil
  go_simp
  go_wp2_with (go_at_call 35; refine (RI.out _).mono ?_; rintro e w4 ⟨rfl, rfl⟩)
  refine hK.out _ _ SS.out (fun hHeld => ?_)
  clear hK K hHeld2
  refine wpAnyH_take (i := 9) (v := ?_) rfl (by kernel_rfl) (by kernel_rfl) (by kernel_rfl) (fun _ _ _ h => h) (Or.inl ⟨by rfl, ?_⟩) (by assumption) ?_
  rotate_left
  · (intro w hSw; (try dsimp only at hSw); first | (go_simp; done) | (go_simp; with_reducible rfl))
  simp only [Act.put, List.getElem_toArray, List.getElem_cons_zero, List.getElem_cons_succ, List.setIfInBounds_toArray, List.set_cons_zero, List.set_cons_succ]
  refine wpAnyH_take (i := 10) (v := ?_) rfl (by kernel_rfl) (by kernel_rfl) (by kernel_rfl) (fun _ _ _ h => h) (Or.inl ⟨by rfl, ?_⟩) (by assumption) ?_
  rotate_left
  · (intro w hSw; (try dsimp only at hSw); first | (go_simp; done) | (go_simp; with_reducible rfl))
  simp only [Act.put, List.getElem_toArray, List.getElem_cons_zero, List.getElem_cons_succ, List.setIfInBounds_toArray, List.set_cons_zero, List.set_cons_succ]
  refine wpAnyH_take (i := 11) (v := ?_) rfl (by kernel_rfl) (by kernel_rfl) (by kernel_rfl) (fun _ _ _ h => h) (Or.inl ⟨by rfl, ?_⟩) (by assumption) ?_
  rotate_left
  · (intro w hSw; (try dsimp only at hSw); first | (go_simp; done) | (go_simp; with_reducible rfl))
  simp only [Act.put, List.getElem_toArray, List.getElem_cons_zero, List.getElem_cons_succ, List.setIfInBounds_toArray, List.set_cons_zero, List.set_cons_succ]
  refine wpAnyH_take (i := 12) (v := undef) rfl (by kernel_rfl) (by kernel_rfl) (by kernel_rfl) (fun _ _ _ h => h) (Or.inr ⟨by rfl, rfl⟩) (by assumption) ?_
  simp only [Act.put, List.getElem_toArray, List.getElem_cons_zero, List.getElem_cons_succ, List.setIfInBounds_toArray, List.set_cons_zero, List.set_cons_succ]
  refine wpAnyH_take (i := 13) (v := undef) rfl (by kernel_rfl) (by kernel_rfl) (by kernel_rfl) (fun _ _ _ h => h) (Or.inr ⟨by rfl, rfl⟩) (by assumption) ?_
  simp only [Act.put, List.getElem_toArray, List.getElem_cons_zero, List.getElem_cons_succ, List.setIfInBounds_toArray, List.set_cons_zero, List.set_cons_succ]
  refine wpAnyH_take (i := 14) (v := undef) rfl (by kernel_rfl) (by kernel_rfl) (by kernel_rfl) (fun _ _ _ h => h) (Or.inr ⟨by rfl, rfl⟩) (by assumption) ?_
  simp only [Act.put, List.getElem_toArray, List.getElem_cons_zero, List.getElem_cons_succ, List.setIfInBounds_toArray, List.set_cons_zero, List.set_cons_succ]
  refine wpAnyH_take (i := 15) (v := undef) rfl (by kernel_rfl) (by kernel_rfl) (by kernel_rfl) (fun _ _ _ h => h) (Or.inr ⟨by rfl, rfl⟩) (by assumption) ?_
  simp only [Act.put, List.getElem_toArray, List.getElem_cons_zero, List.getElem_cons_succ, List.setIfInBounds_toArray, List.set_cons_zero, List.set_cons_succ]
  refine wpAnyH_take (i := 16) (v := undef) rfl (by kernel_rfl) (by kernel_rfl) (by kernel_rfl) (fun _ _ _ h => h) (Or.inr ⟨by rfl, rfl⟩) (by assumption) ?_
  simp only [Act.put, List.getElem_toArray, List.getElem_cons_zero, List.getElem_cons_succ, List.setIfInBounds_toArray, List.set_cons_zero, List.set_cons_succ]
  refine wpAnyH_take (i := 17) (v := undef) rfl (by kernel_rfl) (by kernel_rfl) (by kernel_rfl) (fun _ _ _ h => h) (Or.inr ⟨by rfl, rfl⟩) (by assumption) ?_
  simp only [Act.put, List.getElem_toArray, List.getElem_cons_zero, List.getElem_cons_succ, List.setIfInBounds_toArray, List.set_cons_zero, List.set_cons_succ]
  refine wpAnyH_take (i := 18) (v := undef) rfl (by kernel_rfl) (by kernel_rfl) (by kernel_rfl) (fun _ _ _ h => h) (Or.inr ⟨by rfl, rfl⟩) (by assumption) ?_
  simp only [Act.put, List.getElem_toArray, List.getElem_cons_zero, List.getElem_cons_succ, List.setIfInBounds_toArray, List.set_cons_zero, List.set_cons_succ]
  refine wpAnyH_take (i := 19) (v := undef) rfl (by kernel_rfl) (by kernel_rfl) (by kernel_rfl) (fun _ _ _ h => h) (Or.inr ⟨by rfl, rfl⟩) (by assumption) ?_
  simp only [Act.put, List.getElem_toArray, List.getElem_cons_zero, List.getElem_cons_succ, List.setIfInBounds_toArray, List.set_cons_zero, List.set_cons_succ]
  refine wpAnyH_take (i := 20) (v := ?_) rfl (by kernel_rfl) (by kernel_rfl) (by kernel_rfl) (fun _ _ _ h => h) (Or.inl ⟨by rfl, ?_⟩) (by assumption) ?_
  rotate_left
  · (intro w hSw; (try dsimp only at hSw); first | (go_simp; done) | (go_simp; with_reducible rfl))
  simp only [Act.put, List.getElem_toArray, List.getElem_cons_zero, List.getElem_cons_succ, List.setIfInBounds_toArray, List.set_cons_zero, List.set_cons_succ]
  refine wpAnyH_done (by kernel_rfl) ?_ _
  clear hHeld
  go_wp2_with fail
  go_ret
  exact ⟨fun s2 e => (by rw [HP.out] at e; cases e), fun _ => rfl, CE.out⟩
set_option maxRecDepth 100000 in
set_option maxHeartbeats 16000000 in
theorem restore_yes (h u : Int) (gs : List C2) (A : Option Addr) (c : Nat) (w0 : World) (H : SX w B g bs bw s tot m) (hm : m ≤ 900) (ht : 0 ≤ tot ∧ tot ≤ 1125899906842624) (hw : (Lit.int .i64 h).wf = true) (hB : B ≤ w.heap.size) (L0 : Lay E2 w0 A gs) (b0 : Below w0.heap.size w0 w) (hz0 : w0.heap.size ≤ B) (hl : gs.length ≤ 30) (hgw : ∀ d, d ∈ gs → (Lit.int .i64 d.1).wf = true) (q1 : openE s h = 0) (u0 : 0 ≤ u) (u1 : u ≤ 1099511627776) :
    Calls Try.prog 38 #[.pointer (some ⟨g, 0, none⟩), .agg #[.int .i64 h, .int .i64 u, .slice A gs.length c]] w (RestP B g bs bw s tot m h u gs w) := by
  have HP := Lib.hid (prow_eq (gs := gs) q1 ⟨u0, u1⟩)
  have RI := Lib.hid (fun W => gold.right_any u W)
  have q2 : gold.isRight u = true := gold.right_mk u0 u1
  have hT1 := open_T q1
  have L0_ := Lib.hid L0
  have B0_ := Lib.hid b0
  have GW := Lib.hid hgw
  have WH := Lib.hid hw
  clear L0 b0 hgw
  have hm1 := made w (.cells #[.int .i64 h, .int .i64 u, .slice A gs.length c] 47)
  have BR := Lib.hid (Blk.new w 47 #[.int .i64 h, .int .i64 u, .slice A gs.length c])
  have C1 := Lib.hid (Chg.of_below B hm1)
  have X1 := Lib.hid ((H.below hm1).below (drewB4 (w.alloc (.cells #[.int .i64 h, .int .i64 u, .slice A gs.length c] 47))))
  have HB1 := Lib.hid (Nat.le_trans hB hm1.size)
  have HBw := Lib.hid hB
  clear hm1 H hB
  go_enter Try.func38, Try.ntmps38
  go_upto_region 1 with fail
  generalize w.alloc (.cells #[.int .i64 h, .int .i64 u, .slice A gs.length c] 47) = w1 at *
  generalize hrb : w.heap.size = rb at *
  have HRB := Lib.hid hrb
  clear hrb
  have BR1 := Lib.hid (BR.out.below (drewB4 w1) BR.out.lt)
  have C1d := Lib.hid (C1.out.step (drewB4 w1))
  have HB2 := Lib.hid (Nat.le_trans HB1.out (drewB4 w1).size)
  have SF := Lib.hid (fun W (s2 : S3) (m2 : Nat) (k : Blk W rb 47 #[.int .i64 h, .int .i64 u, .slice A gs.length c]) (x : SX W B g bs bw s2 tot m2) => show W.cell? ⟨rb, 0, none⟩ = some (.int .i64 h) ∧ W.cell? ⟨rb, 1, none⟩ = some (.int .i64 u) ∧ W.cell? ⟨g, 2, none⟩ = some (.int .i64 tot) from ⟨k.cell 0, k.cell 1, x.totc⟩)
  have OP := Lib.hid (open_any h X1.out (by omega) hw HB2.out)
  refine wp_region_held_drew (S := fun W => W.cell? ⟨rb, 0, none⟩ = some (.int .i64 h) ∧ W.cell? ⟨rb, 1, none⟩ = some (.int .i64 u) ∧ W.cell? ⟨g, 2, none⟩ = some (.int .i64 tot)) (by kernel_rfl) (SF.out _ _ _ BR1.out X1.out) (fun hHeld => ?_)
  clear BR C1 HB1
  generalize w1.drew = w2 at *
  rw [q1] at OP
  rw [q2] at RI
  generalize openR s h = s1 at *
  clear q1 q2
  have wr1 : IntKind.i64.wrap (4611686018427387904 - tot) = 4611686018427387904 - tot := IntWalk.i64_in _ (by omega)
  have z1 : decide (u > 4611686018427387904 - tot) = false := decide_eq_false (by omega)
  have z2 : decide (4611686018427387904 - tot < u) = false := decide_eq_false (by omega)
  refine wpAnyH_take (i := 0) (v := ?_) rfl (by kernel_rfl) (by kernel_rfl) (by kernel_rfl) (fun _ _ _ h => h) (Or.inl ⟨by rfl, ?_⟩) (by assumption) ?_
  rotate_left
  · (intro w hSw; (try dsimp only at hSw); first | (go_simp; done) | (go_simp; with_reducible rfl))
  simp only [Act.put, List.getElem_toArray, List.getElem_cons_zero, List.getElem_cons_succ, List.setIfInBounds_toArray, List.set_cons_zero, List.set_cons_succ]
  refine wpAnyH_take (i := 1) (v := ?_) rfl (by kernel_rfl) (by kernel_rfl) (by kernel_rfl) (fun _ _ _ h => h) (Or.inl ⟨by rfl, ?_⟩) (by assumption) ?_
  rotate_left
  · (intro w hSw; (try dsimp only at hSw); first | (go_simp; done) | (go_simp; with_reducible rfl))
  simp only [Act.put, List.getElem_toArray, List.getElem_cons_zero, List.getElem_cons_succ, List.setIfInBounds_toArray, List.set_cons_zero, List.set_cons_succ]
  refine wpAnyH_take (i := 2) (v := ?_) rfl (by kernel_rfl) (by kernel_rfl) (by kernel_rfl) (fun _ _ _ h => h) (Or.inl ⟨by rfl, ?_⟩) (by assumption) ?_
  rotate_left
  · (intro w hSw; (try dsimp only at hSw); first | (go_simp; done) | (go_simp; with_reducible rfl))
  simp only [Act.put, List.getElem_toArray, List.getElem_cons_zero, List.getElem_cons_succ, List.setIfInBounds_toArray, List.set_cons_zero, List.set_cons_succ]
  refine wpAnyH_ready (rs := [3]) (by kernel_rfl) (by simp) ?_
  refine AllReadyH.cons rfl (fun K hK => ?_) AllReadyH.nil
  go_simp
  go_wp2_with (go_at_call 15; refine OP.out.mono ?_; rintro e w3 ⟨rfl, h3, c3⟩)
  have BR3 := Lib.hid (Chg.blk c3 BR1.out rfl)
  have SS := Lib.hid (SF.out _ _ _ BR3.out h3)
  have C3 := Lib.hid (C1d.out.trans c3)
  obtain ⟨nT, nG, P, M, h3, na, nb⟩ := h3
  have H3 := Lib.hid (h3.below (drewB4 w3))
  clear h3 c3 C1d BR1 X1 OP SF HB2
  refine hK.out _ _ SS.out (fun hHeld2 => ?_)
  clear hK K hHeld
  refine wpAnyH_take (i := 4) (v := ?_) rfl (by kernel_rfl) (by kernel_rfl) (by kernel_rfl) (fun _ _ _ h => h) (Or.inl ⟨by rfl, ?_⟩) (by assumption) ?_
  rotate_left
  · (intro w hSw; (try dsimp only at hSw); first | (go_simp; done) | (go_simp; with_reducible rfl))
  simp only [Act.put, List.getElem_toArray, List.getElem_cons_zero, List.getElem_cons_succ, List.setIfInBounds_toArray, List.set_cons_zero, List.set_cons_succ]
  refine wpAnyH_take (i := 5) (v := ?_) rfl (by kernel_rfl) (by kernel_rfl) (by kernel_rfl) (fun _ _ _ h => h) (Or.inl ⟨by rfl, ?_⟩) (by assumption) ?_
  rotate_left
  · (intro w hSw; (try dsimp only at hSw); first | (go_simp; done) | (go_simp; with_reducible rfl))
  simp only [Act.put, List.getElem_toArray, List.getElem_cons_zero, List.getElem_cons_succ, List.setIfInBounds_toArray, List.set_cons_zero, List.set_cons_succ]
  refine wpAnyH_take (i := 6) (v := ?_) rfl (by kernel_rfl) (by kernel_rfl) (by kernel_rfl) (fun _ _ _ h => h) (Or.inl ⟨by rfl, ?_⟩) (by assumption) ?_
  rotate_left
  · (intro w hSw; (try dsimp only at hSw); first | (go_simp; done) | (go_simp; with_reducible rfl))
  simp only [Act.put, List.getElem_toArray, List.getElem_cons_zero, List.getElem_cons_succ, List.setIfInBounds_toArray, List.set_cons_zero, List.set_cons_succ]
  refine wpAnyH_take (i := 7) (v := ?_) rfl (by kernel_rfl) (by kernel_rfl) (by kernel_rfl) (fun _ _ _ h => h) (Or.inl ⟨by rfl, ?_⟩) (by assumption) ?_
  rotate_left
  · (intro w hSw; (try dsimp only at hSw); first | (go_simp; done) | (go_simp; with_reducible rfl))
  simp only [Act.put, List.getElem_toArray, List.getElem_cons_zero, List.getElem_cons_succ, List.setIfInBounds_toArray, List.set_cons_zero, List.set_cons_succ]
  refine wpAnyH_ready (rs := [8]) (by kernel_rfl) (by simp) ?_
  refine AllReadyH.cons rfl (fun K hK => ?_) AllReadyH.nil
  go_simp
  go_wp2_with (go_at_call 35; refine (RI.out _).mono ?_; rintro e w4 ⟨rfl, rfl⟩)
  refine hK.out _ _ SS.out (fun hHeld => ?_)
  clear hK K hHeld2 RI
  refine wpAnyH_take (i := 9) (v := ?_) rfl (by kernel_rfl) (by kernel_rfl) (by kernel_rfl) (fun _ _ _ h => h) (Or.inl ⟨by rfl, ?_⟩) (by assumption) ?_
  rotate_left
  · (intro w hSw; (try dsimp only at hSw); first | (go_simp; done) | (go_simp; with_reducible rfl))
  simp only [Act.put, List.getElem_toArray, List.getElem_cons_zero, List.getElem_cons_succ, List.setIfInBounds_toArray, List.set_cons_zero, List.set_cons_succ]
  refine wpAnyH_take (i := 10) (v := ?_) rfl (by kernel_rfl) (by kernel_rfl) (by kernel_rfl) (fun _ _ _ h => h) (Or.inl ⟨by rfl, ?_⟩) (by assumption) ?_
  rotate_left
  · (intro w hSw; (try dsimp only at hSw); first | (go_simp; done) | (go_simp; with_reducible rfl))
  simp only [Act.put, List.getElem_toArray, List.getElem_cons_zero, List.getElem_cons_succ, List.setIfInBounds_toArray, List.set_cons_zero, List.set_cons_succ]
  refine wpAnyH_take (i := 11) (v := ?_) rfl (by kernel_rfl) (by kernel_rfl) (by kernel_rfl) (fun _ _ _ h => h) (Or.inl ⟨by rfl, ?_⟩) (by assumption) ?_
  rotate_left
  · (intro w hSw; (try dsimp only at hSw); first | (go_simp; done) | (go_simp; with_reducible rfl))
  simp only [Act.put, List.getElem_toArray, List.getElem_cons_zero, List.getElem_cons_succ, List.setIfInBounds_toArray, List.set_cons_zero, List.set_cons_succ]
  refine wpAnyH_take (i := 12) (v := ?_) rfl (by kernel_rfl) (by kernel_rfl) (by kernel_rfl) (fun _ _ _ h => h) (Or.inl ⟨by rfl, ?_⟩) (by assumption) ?_
  rotate_left
  · (intro w hSw; (try dsimp only at hSw); first | (go_simp; done) | (go_simp; with_reducible rfl))
  simp only [Act.put, List.getElem_toArray, List.getElem_cons_zero, List.getElem_cons_succ, List.setIfInBounds_toArray, List.set_cons_zero, List.set_cons_succ]
  refine wpAnyH_take (i := 13) (v := ?_) rfl (by kernel_rfl) (by kernel_rfl) (by kernel_rfl) (fun _ _ _ h => h) (Or.inl ⟨by rfl, ?_⟩) (by assumption) ?_
  rotate_left
  · (intro w hSw; (try dsimp only at hSw); first | (go_simp; done) | (go_simp; with_reducible rfl))
  simp only [Act.put, List.getElem_toArray, List.getElem_cons_zero, List.getElem_cons_succ, List.setIfInBounds_toArray, List.set_cons_zero, List.set_cons_succ]
  refine wpAnyH_take (i := 14) (v := ?_) rfl (by kernel_rfl) (by kernel_rfl) (by kernel_rfl) (fun _ _ _ h => h) (Or.inl ⟨by rfl, ?_⟩) (by assumption) ?_
  rotate_left
  · (intro w hSw; (try dsimp only at hSw); first | (go_simp; done) | (go_simp; with_reducible rfl))
  simp only [Act.put, List.getElem_toArray, List.getElem_cons_zero, List.getElem_cons_succ, List.setIfInBounds_toArray, List.set_cons_zero, List.set_cons_succ]
  refine wpAnyH_take (i := 15) (v := ?_) rfl (by kernel_rfl) (by kernel_rfl) (by kernel_rfl) (fun _ _ _ h => h) (Or.inl ⟨by rfl, ?_⟩) (by assumption) ?_
  rotate_left
  · (intro w hSw; (try dsimp only at hSw); first | (go_simp; done) | (go_simp; with_reducible rfl))
  simp only [Act.put, List.getElem_toArray, List.getElem_cons_zero, List.getElem_cons_succ, List.setIfInBounds_toArray, List.set_cons_zero, List.set_cons_succ]
  refine wpAnyH_take (i := 16) (v := ?_) rfl (by kernel_rfl) (by kernel_rfl) (by kernel_rfl) (fun _ _ _ h => h) (Or.inl ⟨by rfl, ?_⟩) (by assumption) ?_
  rotate_left
  · (intro w hSw; (try dsimp only at hSw); first | (go_simp; done) | (go_simp; with_reducible rfl))
  simp only [Act.put, List.getElem_toArray, List.getElem_cons_zero, List.getElem_cons_succ, List.setIfInBounds_toArray, List.set_cons_zero, List.set_cons_succ]
  refine wpAnyH_take (i := 17) (v := ?_) rfl (by kernel_rfl) (by kernel_rfl) (by kernel_rfl) (fun _ _ _ h => h) (Or.inl ⟨by rfl, ?_⟩) (by assumption) ?_
  rotate_left
  · (intro w hSw; (try dsimp only at hSw); first | (go_simp; done) | (go_simp; with_reducible rfl))
  simp only [Act.put, List.getElem_toArray, List.getElem_cons_zero, List.getElem_cons_succ, List.setIfInBounds_toArray, List.set_cons_zero, List.set_cons_succ]
  refine wpAnyH_take (i := 18) (v := ?_) rfl (by kernel_rfl) (by kernel_rfl) (by kernel_rfl) (fun _ _ _ h => h) (Or.inl ⟨by rfl, ?_⟩) (by assumption) ?_
  rotate_left
  · (intro w hSw; (try dsimp only at hSw); first | (go_simp; done) | (go_simp; with_reducible rfl))
  simp only [Act.put, List.getElem_toArray, List.getElem_cons_zero, List.getElem_cons_succ, List.setIfInBounds_toArray, List.set_cons_zero, List.set_cons_succ]
  refine wpAnyH_take (i := 19) (v := ?_) rfl (by kernel_rfl) (by kernel_rfl) (by kernel_rfl) (fun _ _ _ h => h) (Or.inl ⟨by rfl, ?_⟩) (by assumption) ?_
  rotate_left
  · (intro w hSw; (try dsimp only at hSw); first | (go_simp; done) | (go_simp; with_reducible rfl))
  simp only [Act.put, List.getElem_toArray, List.getElem_cons_zero, List.getElem_cons_succ, List.setIfInBounds_toArray, List.set_cons_zero, List.set_cons_succ]
  refine wpAnyH_take (i := 20) (v := ?_) rfl (by kernel_rfl) (by kernel_rfl) (by kernel_rfl) (fun _ _ _ h => h) (Or.inl ⟨by rfl, ?_⟩) (by assumption) ?_
  rotate_left
  · (intro w hSw; (try dsimp only at hSw); first | (go_simp; done) | (go_simp; with_reducible rfl))
  simp only [Act.put, List.getElem_toArray, List.getElem_cons_zero, List.getElem_cons_succ, List.setIfInBounds_toArray, List.set_cons_zero, List.set_cons_succ]
  refine wpAnyH_done (by kernel_rfl) ?_ _
  clear hHeld wr1 z1 z2 SS
  go_upto_region 3 with fail
  have C4 := Lib.hid (C3.out.step (drewB4 w3))
  have BR4 := Lib.hid (BR3.out.below (drewB4 w3) BR3.out.lt)
  have S3_ := Lib.hid (show w3.drew.cell? ⟨rb, 0, none⟩ = some (.int .i64 h) ∧ w3.drew.cell? ⟨rb, 1, none⟩ = some (.int .i64 u) ∧ w3.drew.cell? ⟨g, 0, none⟩ = some (.map (some bs)) ∧ (Instr.lookup 64 (.map (some bs)) (.int .i64 h) false).run Try.prog w3.drew = .ok (.pointer (some ⟨P h, 0, none⟩)) w3.drew from ⟨BR4.out.cell 0, BR4.out.cell 1, H3.out.blk.cell 0, H3.out.s_at hT1⟩)
  refine wp_region_held_drew (S := fun W => W.cell? ⟨rb, 0, none⟩ = some (.int .i64 h) ∧ W.cell? ⟨rb, 1, none⟩ = some (.int .i64 u) ∧ W.cell? ⟨g, 0, none⟩ = some (.map (some bs)) ∧ (Instr.lookup 64 (.map (some bs)) (.int .i64 h) false).run Try.prog W = .ok (.pointer (some ⟨P h, 0, none⟩)) W) (by kernel_rfl) S3_.out (fun hHeld => ?_)
  clear BR3 C3
  generalize w3.drew = w4 at *
  refine wpAnyH_take (i := 0) (v := ?_) rfl (by kernel_rfl) (by kernel_rfl) (by kernel_rfl) (fun _ _ _ h => h) (Or.inl ⟨by rfl, ?_⟩) (by assumption) ?_
  rotate_left
  · (intro w hSw; (try dsimp only at hSw); first | (go_simp; done) | (go_simp; with_reducible rfl))
  simp only [Act.put, List.getElem_toArray, List.getElem_cons_zero, List.getElem_cons_succ, List.setIfInBounds_toArray, List.set_cons_zero, List.set_cons_succ]
  refine wpAnyH_take (i := 1) (v := ?_) rfl (by kernel_rfl) (by kernel_rfl) (by kernel_rfl) (fun _ _ _ h => h) (Or.inl ⟨by rfl, ?_⟩) (by assumption) ?_
  rotate_left
  · (intro w hSw; (try dsimp only at hSw); first | (go_simp; done) | (go_simp; with_reducible rfl))
  simp only [Act.put, List.getElem_toArray, List.getElem_cons_zero, List.getElem_cons_succ, List.setIfInBounds_toArray, List.set_cons_zero, List.set_cons_succ]
  refine wpAnyH_take (i := 2) (v := ?_) rfl (by kernel_rfl) (by kernel_rfl) (by kernel_rfl) (fun _ _ _ h => h) (Or.inl ⟨by rfl, ?_⟩) (by assumption) ?_
  rotate_left
  · (intro w hSw; (try dsimp only at hSw); first | (go_simp; done) | (go_simp; with_reducible rfl))
  simp only [Act.put, List.getElem_toArray, List.getElem_cons_zero, List.getElem_cons_succ, List.setIfInBounds_toArray, List.set_cons_zero, List.set_cons_succ]
  refine wpAnyH_take (i := 3) (v := ?_) rfl (by kernel_rfl) (by kernel_rfl) (by kernel_rfl) (fun _ _ _ h => h) (Or.inl ⟨by rfl, ?_⟩) (by assumption) ?_
  rotate_left
  · (intro w hSw; (try dsimp only at hSw); first | (go_simp; done) | (go_simp; with_reducible rfl))
  simp only [Act.put, List.getElem_toArray, List.getElem_cons_zero, List.getElem_cons_succ, List.setIfInBounds_toArray, List.set_cons_zero, List.set_cons_succ]
  refine wpAnyH_take (i := 4) (v := ?_) rfl (by kernel_rfl) (by kernel_rfl) (by kernel_rfl) (fun _ _ _ h => h) (Or.inl ⟨by rfl, ?_⟩) (by assumption) ?_
  rotate_left
  · (intro w hSw; (try dsimp only at hSw); first | (go_simp; done) | (go_simp; with_reducible rfl))
  simp only [Act.put, List.getElem_toArray, List.getElem_cons_zero, List.getElem_cons_succ, List.setIfInBounds_toArray, List.set_cons_zero, List.set_cons_succ]
  refine wpAnyH_take (i := 5) (v := ?_) rfl (by kernel_rfl) (by kernel_rfl) (by kernel_rfl) (fun _ _ _ h => h) (Or.inl ⟨by rfl, ?_⟩) (by assumption) ?_
  rotate_left
  · (intro w hSw; (try dsimp only at hSw); first | (go_simp; done) | (go_simp; with_reducible rfl))
  simp only [Act.put, List.getElem_toArray, List.getElem_cons_zero, List.getElem_cons_succ, List.setIfInBounds_toArray, List.set_cons_zero, List.set_cons_succ]
  refine wpAnyH_take (i := 6) (v := ?_) rfl (by kernel_rfl) (by kernel_rfl) (by kernel_rfl) (fun _ _ _ h => h) (Or.inl ⟨by rfl, ?_⟩) (by assumption) ?_
  rotate_left
  · (intro w hSw; (try dsimp only at hSw); first | (go_simp; done) | (go_simp; with_reducible rfl))
  simp only [Act.put, List.getElem_toArray, List.getElem_cons_zero, List.getElem_cons_succ, List.setIfInBounds_toArray, List.set_cons_zero, List.set_cons_succ]
  refine wpAnyH_take (i := 7) (v := ?_) rfl (by kernel_rfl) (by kernel_rfl) (by kernel_rfl) (fun _ _ _ h => h) (Or.inl ⟨by rfl, ?_⟩) (by assumption) ?_
  rotate_left
  · (intro w hSw; (try dsimp only at hSw); first | (go_simp; done) | (go_simp; with_reducible rfl))
  simp only [Act.put, List.getElem_toArray, List.getElem_cons_zero, List.getElem_cons_succ, List.setIfInBounds_toArray, List.set_cons_zero, List.set_cons_succ]
  refine wpAnyH_take (i := 8) (v := ?_) rfl (by kernel_rfl) (by kernel_rfl) (by kernel_rfl) (fun _ _ _ h => h) (Or.inl ⟨by rfl, ?_⟩) (by assumption) ?_
  rotate_left
  · (intro w hSw; (try dsimp only at hSw); first | (go_simp; done) | (go_simp; with_reducible rfl))
  simp only [Act.put, List.getElem_toArray, List.getElem_cons_zero, List.getElem_cons_succ, List.setIfInBounds_toArray, List.set_cons_zero, List.set_cons_succ]
  refine wpAnyH_take (i := 9) (v := ?_) rfl (by kernel_rfl) (by kernel_rfl) (by kernel_rfl) (fun _ _ _ h => h) (Or.inl ⟨by rfl, ?_⟩) (by assumption) ?_
  rotate_left
  · (intro w hSw; (try dsimp only at hSw); first | (go_simp; done) | (go_simp; with_reducible rfl))
  simp only [Act.put, List.getElem_toArray, List.getElem_cons_zero, List.getElem_cons_succ, List.setIfInBounds_toArray, List.set_cons_zero, List.set_cons_succ]
  refine wpAnyH_take (i := 10) (v := ?_) rfl (by kernel_rfl) (by kernel_rfl) (by kernel_rfl) (fun _ _ _ h => h) (Or.inl ⟨by rfl, ?_⟩) (by assumption) ?_
  rotate_left
  · (intro w hSw; (try dsimp only at hSw); first | (go_simp; done) | (go_simp; with_reducible rfl))
  simp only [Act.put, List.getElem_toArray, List.getElem_cons_zero, List.getElem_cons_succ, List.setIfInBounds_toArray, List.set_cons_zero, List.set_cons_succ]
  have on := H3.out.one h 0 hT1
  have p0 := on.blk.cell 0
  have f0 := on.blk.free 0
  obtain ⟨h5, k5⟩ := H3.out.till (v := u) hT1 u0 u1
  have BR5 := Lib.hid (Chg.blk k5 BR4.out rfl)
  have hT5 : (setS s1 h u).T h = some u := put_same _ _ _
  have S5_ := Lib.hid (show (w4.setCell ⟨P h, 0, none⟩ (.int .i64 u)).cell? ⟨rb, 0, none⟩ = some (.int .i64 h) ∧ (w4.setCell ⟨P h, 0, none⟩ (.int .i64 u)).cell? ⟨rb, 1, none⟩ = some (.int .i64 u) ∧ (w4.setCell ⟨P h, 0, none⟩ (.int .i64 u)).cell? ⟨g, 0, none⟩ = some (.map (some bs)) ∧ (Instr.lookup 64 (.map (some bs)) (.int .i64 h) false).run Try.prog (w4.setCell ⟨P h, 0, none⟩ (.int .i64 u)) = .ok (.pointer (some ⟨P h, 0, none⟩)) (w4.setCell ⟨P h, 0, none⟩ (.int .i64 u)) from ⟨BR5.out.cell 0, BR5.out.cell 1, h5.blk.cell 0, h5.s_at hT5⟩)
  have H5 := Lib.hid h5
  have C5 := Lib.hid (C4.out.trans k5)
  clear on h5 k5 hT5
  refine wpAnyH_ready (rs := [11]) (by kernel_rfl) (by simp) ?_
  refine AllReadyH.cons rfl (fun K hK => ?_) AllReadyH.nil
  go_simp
  refine hK.out _ _ S5_.out (fun hHeld2 => ?_)
  clear hK K hHeld p0 f0
  refine wpAnyH_done (by kernel_rfl) ?_ _
  clear hHeld2 S3_ S5_ H3 BR4 C4
  generalize w4.setCell ⟨P h, 0, none⟩ (.int .i64 u) = w5 at *
  go_upto_region 4 with fail
  have H6 := Lib.hid (H5.out.below (drewB4 w5))
  have C6 := Lib.hid (C5.out.step (drewB4 w5))
  have BR6 := Lib.hid (BR5.out.below (drewB4 w5) BR5.out.lt)
  refine wp_region_held_drew (S := fun W => W.cell? ⟨rb, 1, none⟩ = some (.int .i64 u)) (by kernel_rfl) (BR6.out.cell 1) (fun hHeld => ?_)
  clear H5 C5 BR5
  generalize w5.drew = w6 at *
  have c2 := H6.out.blk.cell 2
  have f2 := H6.out.blk.free 2
  have wr : IntKind.i64.wrap (tot + u) = tot + u := IntWalk.i64_in _ (by omega)
  obtain ⟨h7, k7⟩ := H6.out.total (tot + u)
  have BR7 := Lib.hid (Chg.blk k7 BR6.out rfl)
  have X7 := Lib.hid (h7.sx (m := m + 1) na nb)
  have C7 := Lib.hid (C6.out.trans k7)
  clear h7 k7
  refine wpAnyH_take (i := 0) (v := ?_) rfl (by kernel_rfl) (by kernel_rfl) (by kernel_rfl) (fun _ _ _ h => h) (Or.inl ⟨by rfl, ?_⟩) (by assumption) ?_
  rotate_left
  · (intro w hSw; (try dsimp only at hSw); first | (go_simp; done) | (go_simp; with_reducible rfl))
  simp only [Act.put, List.getElem_toArray, List.getElem_cons_zero, List.getElem_cons_succ, List.setIfInBounds_toArray, List.set_cons_zero, List.set_cons_succ]
  refine wpAnyH_take (i := 1) (v := ?_) rfl (by kernel_rfl) (by kernel_rfl) (by kernel_rfl) (fun _ _ _ h => h) (Or.inl ⟨by rfl, ?_⟩) (by assumption) ?_
  rotate_left
  · (intro w hSw; (try dsimp only at hSw); first | (go_simp; done) | (go_simp; with_reducible rfl))
  simp only [Act.put, List.getElem_toArray, List.getElem_cons_zero, List.getElem_cons_succ, List.setIfInBounds_toArray, List.set_cons_zero, List.set_cons_succ]
  refine wpAnyH_take (i := 2) (v := ?_) rfl (by kernel_rfl) (by kernel_rfl) (by kernel_rfl) (fun _ _ _ h => h) (Or.inl ⟨by rfl, ?_⟩) (by assumption) ?_
  rotate_left
  · (intro w hSw; (try dsimp only at hSw); first | (go_simp; done) | (go_simp; with_reducible rfl))
  simp only [Act.put, List.getElem_toArray, List.getElem_cons_zero, List.getElem_cons_succ, List.setIfInBounds_toArray, List.set_cons_zero, List.set_cons_succ]
  refine wpAnyH_take (i := 4) (v := ?_) rfl (by kernel_rfl) (by kernel_rfl) (by kernel_rfl) (fun _ _ _ h => h) (Or.inl ⟨by rfl, ?_⟩) (by assumption) ?_
  rotate_left
  · (intro w hSw; (try dsimp only at hSw); first | (go_simp; done) | (go_simp; with_reducible rfl))
  simp only [Act.put, List.getElem_toArray, List.getElem_cons_zero, List.getElem_cons_succ, List.setIfInBounds_toArray, List.set_cons_zero, List.set_cons_succ]
  refine wpAnyH_take (i := 5) (v := ?_) rfl (by kernel_rfl) (by kernel_rfl) (by kernel_rfl) (fun _ _ _ h => h) (Or.inl ⟨by rfl, ?_⟩) (by assumption) ?_
  rotate_left
  · (intro w hSw; (try dsimp only at hSw); first | (go_simp; done) | (go_simp; with_reducible rfl))
  simp only [Act.put, List.getElem_toArray, List.getElem_cons_zero, List.getElem_cons_succ, List.setIfInBounds_toArray, List.set_cons_zero, List.set_cons_succ]
  refine wpAnyH_ready (rs := [3]) (by kernel_rfl) (by simp) ?_
  refine AllReadyH.cons rfl (fun K hK => ?_) AllReadyH.nil
  go_simp
  refine hK.out _ _ (BR6.out.cell 1) (fun hHeld2 => ?_)
  clear hK K hHeld
  refine wpAnyH_take (i := 6) (v := ?_) rfl (by kernel_rfl) (by kernel_rfl) (by kernel_rfl) (fun _ _ _ h => h) (Or.inl ⟨by rfl, ?_⟩) (by assumption) ?_
  rotate_left
  · (intro w hSw; (try dsimp only at hSw); first | (go_simp; done) | (go_simp; with_reducible rfl))
  simp only [Act.put, List.getElem_toArray, List.getElem_cons_zero, List.getElem_cons_succ, List.setIfInBounds_toArray, List.set_cons_zero, List.set_cons_succ]
  refine wpAnyH_take (i := 7) (v := ?_) rfl (by kernel_rfl) (by kernel_rfl) (by kernel_rfl) (fun _ _ _ h => h) (Or.inl ⟨by rfl, ?_⟩) (by assumption) ?_
  rotate_left
  · (intro w hSw; (try dsimp only at hSw); first | (go_simp; done) | (go_simp; with_reducible rfl))
  simp only [Act.put, List.getElem_toArray, List.getElem_cons_zero, List.getElem_cons_succ, List.setIfInBounds_toArray, List.set_cons_zero, List.set_cons_succ]
  refine wpAnyH_take (i := 8) (v := ?_) rfl (by kernel_rfl) (by kernel_rfl) (by kernel_rfl) (fun _ _ _ h => h) (Or.inl ⟨by rfl, ?_⟩) (by assumption) ?_
  rotate_left
  · (intro w hSw; (try dsimp only at hSw); first | (go_simp; done) | (go_simp; with_reducible rfl))
  simp only [Act.put, List.getElem_toArray, List.getElem_cons_zero, List.getElem_cons_succ, List.setIfInBounds_toArray, List.set_cons_zero, List.set_cons_succ]
  refine wpAnyH_ready (rs := [9]) (by kernel_rfl) (by simp) ?_
  refine AllReadyH.cons rfl (fun K hK => ?_) AllReadyH.nil
  go_simp
  refine hK.out _ _ (BR7.out.cell 1) (fun hHeld => ?_)
  clear hK K hHeld2 c2 f2 wr
  refine wpAnyH_done (by kernel_rfl) ?_ _
  clear hHeld H6 C6 BR6
  generalize w6.setCell ⟨g, 2, none⟩ (.int .i64 (tot + u)) = w7 at *
  have r2 := BR7.out.cell 2
  generalize setS s1 h u = s3 at *
  generalize htt : tot + u = tot3 at *
  have HTT := Lib.hid htt
  clear htt
  go_wp2_with fail
  clear r2
  go_loopw [5, 52] (fun la i wr => ∃ (k : Nat) (W : World) (s4 : S3) (zl : Int), W = wr ∧ k ≤ gs.length ∧ i = .int .i64 k ∧ la = .int .i64 zl ∧ gfold s3 h (gs.take k) = some (s4, zl) ∧ SX wr B g bs bw s4 tot3 (m + 1 + k) ∧ Blk wr rb 47 #[.int .i64 h, .int .i64 u, .slice A gs.length c] ∧ Chg B w wr) (fun _ i _ => gs.length - (intOf i).toNat)
  case atStart => exact ⟨0, _, s3, 0, rfl, by omega, rfl, rfl, rfl, X7.out, BR7.out, C7.out⟩
  case round =>
  clear X7 BR7 C7
  obtain ⟨k, w8, s4, zl, rfl, hk, rfl, rfl, hgf, hx, hbr, hc⟩ := hrel
  have GF := Lib.hid hgf
  have X8 := Lib.hid hx
  have BR8 := Lib.hid hbr
  have C8 := Lib.hid hc
  clear hgf hx hbr hc
  by_cases hkl : k < gs.length
  · have B8 := Lib.hid (show Below w0.heap.size w0 w8 from B0_.out.trans ((C8.out.to (by rw [HRB.out]; exact HBw.out)).mono hz0))
    have LK := L0_.out.below B8.out
    obtain ⟨bb, off, rfl, e0, e1⟩ := lay2 LK hkl
    have hwt := GW.out _ (List.getElem_mem hkl)
    have WT := Lib.hid hwt
    have GS := Lib.hid (gfold_snoc s3 h gs hkl)
    have GN := Lib.hid (fun (e : gfold s3 h (gs.take (k + 1)) = none) => gfold_none s3 h gs e)
    rw [GF.out] at GS
    clear LK hwt
    generalize gs[k] = d at *
    obtain ⟨t, p⟩ := d
    dsimp only at e0 e1
    replace GS := Lib.hid (show gfold s3 h (gs.take (k + 1)) = (if t ≤ zl then none else if putE s4 h t p = 0 then some (putR s4 h t p, t) else none) from GS.out)
    have hm9 := made w8 (.cells #[.int .i64 t, .int .i64 p] 56)
    have X9 := Lib.hid (X8.out.below hm9)
    have BR9 := Lib.hid (BR8.out.below hm9 BR8.out.lt)
    have C9 := Lib.hid (C8.out.step hm9)
    have BG9 := Lib.hid (Blk.new w8 56 #[.int .i64 t, .int .i64 p])
    clear hm9 X8 BR8 C8 B8
    go_upto_region 9 with fail
    generalize w8.alloc (.cells #[.int .i64 t, .int .i64 p] 56) = w9 at *
    generalize w8.heap.size = gb at *
    clear e0 e1
    have g0 := BG9.out.cell 0
    have g1 := BG9.out.cell 1
    have r0 := BR9.out.cell 0
    by_cases q3 : t ≤ zl
    · have z3 : decide (t ≤ zl) = true := decide_eq_true q3
      have HN := Lib.hid (show prow s h u gs = none by rw [HP.out, GN.out (by rw [GS.out, if_pos q3])]; rfl)
      clear q3
      go_wp2_with fail
      go_ret
      exact ⟨fun s2 e => (by rw [HN.out] at e; cases e), fun _ => rfl, C9.out⟩
    have z3 : decide (t ≤ zl) = false := decide_eq_false q3
    have PU := Lib.hid (put_any h t p X9.out (by omega) WH.out WT.out)
    by_cases q4 : putE s4 h t p = 0
    · rw [q4] at PU
      have HN := Lib.hid (show gfold s3 h (gs.take (k + 1)) = some (putR s4 h t p, t) by rw [GS.out, if_neg q3, if_pos q4])
      clear q3 q4
      go_wp2_with fail
      refine PU.out.mono ?_
      rintro e w10 ⟨rfl, h10, c10⟩
      have X10 := Lib.hid h10
      have BR10 := Lib.hid (Chg.blk c10 BR9.out rfl)
      have BG10 := Lib.hid (Chg.blk c10 BG9.out rfl)
      have C10 := Lib.hid (C9.out.trans c10)
      have g0' := BG10.out.cell 0
      clear h10 c10 g0 g1 r0 z3 PU
      go_wp2_with fail
      refine ⟨⟨k + 1, _, _, _, rfl, by omega, by go_num, rfl, HN.out, X10.out, BR10.out, C10.out⟩, by simp [intOf]; omega⟩
    · have HN := Lib.hid (show prow s h u gs = none by rw [HP.out, GN.out (by rw [GS.out, if_neg q3, if_neg q4])]; rfl)
      have z4 : (putE s4 h t p != 0) = true := by simpa using q4
      generalize putE s4 h t p = er at *
      clear q3 q4
      go_wp2_with fail
      refine PU.out.mono ?_
      rintro e w10 ⟨rfl, h10, c10⟩
      have C10 := Lib.hid (C9.out.trans c10)
      clear h10 c10 PU
      go_wp2_with fail
      go_ret
      exact ⟨fun s2 e => (by rw [HN.out] at e; cases e), fun _ => rfl, C10.out⟩
  · obtain rfl : k = gs.length := by omega
    have GF2 := Lib.hid (show prow s h u gs = some s4 by have := GF.out; rw [List.take_length] at this; rw [HP.out, this]; rfl)
    go_wp2_with fail
    go_ret
    exact ⟨fun s2 e => ⟨rfl, by rw [GF2.out] at e; injection e with e; rw [← e, HTT.out]; exact X8.out⟩, fun e => (by rw [GF2.out] at e; cases e), C8.out⟩
theorem restore_any (h u : Int) (gs : List C2) (A : Option Addr) (c : Nat) (w0 : World) (H : SX w B g bs bw s tot m) (hm : m ≤ 900) (ht : 0 ≤ tot ∧ tot ≤ 1125899906842624) (hw : (Lit.int .i64 h).wf = true) (hB : B ≤ w.heap.size) (L0 : Lay E2 w0 A gs) (b0 : Below w0.heap.size w0 w) (hz0 : w0.heap.size ≤ B) (hl : gs.length ≤ 30) (hgw : ∀ d, d ∈ gs → (Lit.int .i64 d.1).wf = true) :
    Calls Try.prog 38 #[.pointer (some ⟨g, 0, none⟩), .agg #[.int .i64 h, .int .i64 u, .slice A gs.length c]] w (RestP B g bs bw s tot m h u gs w) := by
  by_cases q1 : openE s h = 0
  · by_cases q2 : 0 ≤ u ∧ u ≤ 1099511627776
    · exact restore_yes h u gs A c w0 H hm ht hw hB L0 b0 hz0 hl hgw q1 q2.1 q2.2
    · exact restore_no2 h u gs A c w0 H hm ht hw hB L0 b0 hz0 hl hgw q1 (by
        simp only [gold.isRight]
        simp
        omega)
  · exact restore_no1 h u gs A c w0 H hm ht hw hB L0 b0 hz0 hl hgw q1
end Go.Proofs.Ythnjacfpnbhfpaa.st
