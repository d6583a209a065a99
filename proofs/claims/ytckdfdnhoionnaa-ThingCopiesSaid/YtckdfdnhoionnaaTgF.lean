/-
  Contracts of package thing and its reference: In, places, New, Make.
-/
import Derived.Test.YtckdfdnhoionnaaTgE
namespace Go.Proofs.Ytckdfdnhoionnaa.tg
open Go.RowKit
open Go.Maps (Keyed)
open base (ret_bool ret_int made up Blk Only)
open rk mk il nm
set_option linter.unusedVariables false
set_option linter.unusedSimpArgs false
variable {B g m K : Nat} {w w1 w2 w5 w' : World} {L : List Th} {nx : Int}

set_option maxRecDepth 100000 in
set_option maxHeartbeats 1000000 in
theorem in_any {p : Pc} (H : TAt w B g m L nx K) (hp : wp p) (hl : L.length ≤ 100000) :
    Calls Try.prog 14 #[.pointer (some ⟨g, 0, none⟩), pv p] w (NewP (ids L p) w) := by
  obtain ⟨⟨v, hb, _⟩, ⟨f, V, c, hM, _⟩, _⟩ := H
  have hm := made w (.cells #[.int .i64 p.kd, .int .i64 p.hs, .int .i64 p.sl] 31)
  have bx : Blk (w.alloc (.cells #[.int .i64 p.kd, .int .i64 p.hs, .int .i64 p.sl] 31)) w.heap.size 31 #[.int .i64 p.kd, .int .i64 p.hs, .int .i64 p.sl] := Blk.new _ _ _
  have g1 := hb.below hm hb.lt
  have M1 := hM.below hm
  generalize hw1 : w.alloc (.cells #[.int .i64 p.kd, .int .i64 p.hs, .int .i64 p.sl] 31) = w1 at *
  have KS := Lib.hid (fun ws (h : Below w1.heap.size w1 ws) => (show (ws.cell? ⟨g, 1, none⟩ = some (.map (some m)) ∧ ws.cell? ⟨w.heap.size, 0, none⟩ = some (.int .i64 p.kd) ∧ ws.cell? ⟨w.heap.size, 1, none⟩ = some (.int .i64 p.hs) ∧ ws.cell? ⟨w.heap.size, 2, none⟩ = some (.int .i64 p.sl)) ∧ (Instr.lookup 66 (.map (some m)) (pv p) false).run Try.prog ws = .ok (row L V p) ws from
    ⟨⟨(g1.below h g1.lt).cell 1, (bx.below h bx.lt).cell 0, (bx.below h bx.lt).cell 1, (bx.below h bx.lt).cell 2⟩, (M1.below h).look hp⟩))
  have CL := Lib.hid (fun ws (h : Below w1.heap.size w1 ws) => clone_own B (row L V p) (ids L p) ws ((M1.below h).row_own hp) (Nat.le_trans (ids_len L p) hl))
  have HM := Lib.hid hm
  have MM := Lib.hid (Below.refl w1.heap.size w1)
  generalize row L V p = r at *
  generalize ids L p = l at *
  obtain ⟨p0, p1, p2⟩ := p
  dsimp only [pv] at KS hw1 ⊢
  clear hb hM hm bx g1 M1 hl hp
  go_enter Try.func14, Try.ntmps14
  go_wp2_with (rw [hw1])
  clear hw1
  refine wp_region_held_drew (S := fun ws => (ws.cell? ⟨g, 1, none⟩ = some (.map (some m)) ∧ ws.cell? ⟨w.heap.size, 0, none⟩ = some (.int .i64 p0) ∧ ws.cell? ⟨w.heap.size, 1, none⟩ = some (.int .i64 p1) ∧ ws.cell? ⟨w.heap.size, 2, none⟩ = some (.int .i64 p2)) ∧ (Instr.lookup 66 (.map (some m)) (.agg #[.int .i64 p0, .int .i64 p1, .int .i64 p2]) false).run Try.prog ws = .ok r ws) (by kernel_rfl) (KS.out _ MM.out.drew) (fun hHeld => ?_)
  refine wpAnyH_take (i := 0) (v := ?_) rfl (by kernel_rfl) (by kernel_rfl) (by kernel_rfl) (fun _ _ _ h => h) (Or.inl ⟨by rfl, ?_⟩) (by assumption) ?_
  rotate_left
  · (intro w hSw; (try dsimp only at hSw); first | (go_simp; done) | (go_simp; with_reducible rfl))
  simp only [Act.put, List.getElem_toArray, List.getElem_cons_zero, List.getElem_cons_succ, List.setIfInBounds_toArray, List.set_cons_zero, List.set_cons_succ]
  refine wpAnyH_take (i := 1) (v := ?_) rfl (by kernel_rfl) (by kernel_rfl) (by kernel_rfl) (fun _ _ _ h => h) (Or.inl ⟨by rfl, ?_⟩) (by assumption) ?_
  rotate_left
  · (intro w hSw; (try dsimp only at hSw); first | (go_simp; done) | (go_simp; with_reducible rfl))
  simp only [Act.put, List.getElem_toArray, List.getElem_cons_zero, List.getElem_cons_succ, List.setIfInBounds_toArray, List.set_cons_zero, List.set_cons_succ]
  refine wpAnyH_take (i := 2) (v := ?_) rfl (by kernel_rfl) (by kernel_rfl) (by kernel_rfl) (fun _ _ _ h => h) (Or.inl ⟨by rfl, ?_⟩) (by assumption) ?_
  rotate_left
  · (intro w hSw; (try dsimp only at hSw); first | (go_simp; done) | (go_simp; with_reducible rfl))
  simp only [Act.put, List.getElem_toArray, List.getElem_cons_zero, List.getElem_cons_succ, List.setIfInBounds_toArray, List.set_cons_zero, List.set_cons_succ]
  refine wpAnyH_take (i := 3) (v := ?_) rfl (by kernel_rfl) (by kernel_rfl) (by kernel_rfl) (fun _ _ _ h => h) (Or.inl ⟨by rfl, ?_⟩) (by assumption) ?_
  rotate_left
  · (intro w hSw; (try dsimp only at hSw); first | (go_simp; done) | (go_simp; with_reducible rfl))
  simp only [Act.put, List.getElem_toArray, List.getElem_cons_zero, List.getElem_cons_succ, List.setIfInBounds_toArray, List.set_cons_zero, List.set_cons_succ]
  refine wpAnyH_take (i := 4) (v := ?_) rfl (by kernel_rfl) (by kernel_rfl) (by kernel_rfl) (fun _ _ _ h => h) (Or.inl ⟨by rfl, ?_⟩) (by assumption) ?_
  rotate_left
  · (intro w hSw; (try dsimp only at hSw); first | (go_simp; done) | (go_simp; with_reducible rfl))
  simp only [Act.put, List.getElem_toArray, List.getElem_cons_zero, List.getElem_cons_succ, List.setIfInBounds_toArray, List.set_cons_zero, List.set_cons_succ]
  refine wpAnyH_take (i := 5) (v := ?_) rfl (by kernel_rfl) (by kernel_rfl) (by kernel_rfl) (fun _ _ _ h => h) (Or.inl ⟨by rfl, ?_⟩) (by assumption) ?_
  rotate_left
  · (intro w hSw; (try dsimp only at hSw); first | (go_simp; done) | (go_simp; with_reducible rfl))
  simp only [Act.put, List.getElem_toArray, List.getElem_cons_zero, List.getElem_cons_succ, List.setIfInBounds_toArray, List.set_cons_zero, List.set_cons_succ]
  refine wpAnyH_ready (rs := [6]) (by kernel_rfl) (by simp) ?_
  refine AllReadyH.cons rfl (fun K hK => ?_) AllReadyH.nil
  go_simp
  go_wp2_with (go_at_call 36; refine (CL.out _ MM.out.drew).mono ?_; rintro e w6 ⟨v6, rfl, own6, hb6⟩)
  have M6 := Lib.hid (show Below w1.heap.size w1 w6 from MM.out.drew.trans hb6)
  have O6 := Lib.hid own6
  obtain ⟨A6, c6, rfl, -⟩ := own6.open_
  clear own6 hb6
  refine hK.out _ _ (KS.out _ M6.out) (fun hH1 => ?_)
  clear hK K hHeld
  refine wpAnyH_take (i := 7) (v := ?_) rfl (by kernel_rfl) (by kernel_rfl) (by kernel_rfl) (fun _ _ _ h => h) (Or.inl ⟨by rfl, ?_⟩) (by assumption) ?_
  rotate_left
  · (intro w hSw; (try dsimp only at hSw); first | (go_simp; done) | (go_simp; with_reducible rfl))
  simp only [Act.put, List.getElem_toArray, List.getElem_cons_zero, List.getElem_cons_succ, List.setIfInBounds_toArray, List.set_cons_zero, List.set_cons_succ]
  refine wpAnyH_done (by kernel_rfl) ?_ _
  clear hH1
  go_wp2_with fail
  go_ret
  exact ⟨_, rfl, O6.out.mono (HM.out.size), up HM.out M6.out HM.out.size⟩
set_option maxHeartbeats 1000000 in
theorem right_any (p : Pc) (w : World) : Calls Try.prog 22 #[pv p] w fun e w' => e = .returned (.bool (rt p)) ∧ Below w.heap.size w w' := by
  have hm := Lib.hid (made w (.cells #[.int .i64 p.kd, .int .i64 p.hs, .int .i64 p.sl] 31))
  have bx : Blk (w.alloc (.cells #[.int .i64 p.kd, .int .i64 p.hs, .int .i64 p.sl] 31)) w.heap.size 31 #[.int .i64 p.kd, .int .i64 p.hs, .int .i64 p.sl] := Blk.new _ _ _
  have c0 := bx.cell 0
  have c1 := bx.cell 1
  have c2 := bx.cell 2
  obtain ⟨r, hr⟩ : ∃ r, r = rt p := ⟨_, rfl⟩
  rw [← hr]
  have R := Lib.hid (show r = (decide (1 ≤ p.hs) && (decide (p.kd = 2 ∧ 1 ≤ p.sl ∧ p.sl ≤ 4) || decide ((p.kd = 1 ∨ p.kd = 3 ∨ p.kd = 4) ∧ p.sl = 0))) from hr)
  clear hr bx
  generalize hw1 : w.alloc (.cells #[.int .i64 p.kd, .int .i64 p.hs, .int .i64 p.sl] 31) = w1 at *
  obtain ⟨p0, p1, p2⟩ := p
  dsimp only [pv] at c0 c1 c2 hw1 R ⊢
  go_enter Try.func22, Try.ntmps22
  go_wp2_with (rw [hw1])
  all_goals
    go_ret
    refine ⟨?_, hm.out⟩
    apply ret_bool
    rw [R.out, Bool.eq_iff_iff]
    clear R c0 c1 c2 hw1
    simp
    try simp at *
    omega
theorem zero_place (w : World) : (zeroValue 41).run Try.prog w = .ok (.agg #[.int .i64 0, .int .i64 0, .int .i64 0]) w := by first | exact Try.zeroValue41 w | kernel_rfl
set_option maxHeartbeats 1000000 in
theorem rright_any (p : Pc) (w : World) : Calls Try.prog 23 #[pv p] w fun e w' => e = .returned (.bool (rt p)) ∧ Below w.heap.size w w' := by
  have hm := Lib.hid (made w (.cells #[.int .i64 p.kd, .int .i64 p.hs, .int .i64 p.sl] 41))
  have bx : Blk (w.alloc (.cells #[.int .i64 p.kd, .int .i64 p.hs, .int .i64 p.sl] 41)) w.heap.size 41 #[.int .i64 p.kd, .int .i64 p.hs, .int .i64 p.sl] := Blk.new _ _ _
  have c0 := bx.cell 0
  have c1 := bx.cell 1
  have c2 := bx.cell 2
  obtain ⟨r, hr⟩ : ∃ r, r = rt p := ⟨_, rfl⟩
  rw [← hr]
  have R := Lib.hid (show r = (decide (1 ≤ p.hs) && (decide (p.kd = 2 ∧ 1 ≤ p.sl ∧ p.sl ≤ 4) || decide ((p.kd = 1 ∨ p.kd = 3 ∨ p.kd = 4) ∧ p.sl = 0))) from hr)
  clear hr bx
  generalize hw1 : w.alloc (.cells #[.int .i64 p.kd, .int .i64 p.hs, .int .i64 p.sl] 41) = w1 at *
  obtain ⟨p0, p1, p2⟩ := p
  dsimp only [pv] at c0 c1 c2 hw1 R ⊢
  go_enter Try.func23, Try.ntmps23
  go_wp2_with (rw [hw1])
  all_goals
    go_ret
    refine ⟨?_, hm.out⟩
    apply ret_bool
    rw [R.out, Bool.eq_iff_iff]
    clear R c0 c1 c2 hw1
    simp
    try simp at *
    omega
set_option maxHeartbeats 400000 in
theorem new_any (w : World) : Calls Try.prog 8 #[] w fun e w' => e = .returned (.pointer (some ⟨w.heap.size + 1, 0, none⟩)) ∧ TAt w' w.heap.size (w.heap.size + 1) w.heap.size [] 1 0 ∧ Below w.heap.size w w' := by
  have h1 := made w (.map #[] 0)
  have h2 : Below w.heap.size w ((w.alloc (.map #[] 0)).alloc (.cells #[.slice none 0 0, .map (some w.heap.size), .int .i64 1] 68)) := h1.alloc (by rw [asz]; omega) _
  have bx : Blk ((w.alloc (.map #[] 0)).alloc (.cells #[.slice none 0 0, .map (some w.heap.size), .int .i64 1] 68)) (w.heap.size + 1) 68 #[.slice none 0 0, .map (some w.heap.size), .int .i64 1] := by
    have := Blk.new (w.alloc (.map #[] 0)) 68 #[.slice none 0 0, .map (some w.heap.size), .int .i64 1]
    rw [asz] at this
    exact this
  have T := Lib.hid (show TAt ((w.alloc (.map #[] 0)).alloc (.cells #[.slice none 0 0, .map (some w.heap.size), .int .i64 1] 68)) w.heap.size (w.heap.size + 1) w.heap.size [] 1 0 from
    ⟨⟨_, bx, Own.nil _ _ _⟩, MAt.below ⟨_, _, 0, MIs.made w w.heap.size (Nat.le_refl _), Nat.le_refl _⟩ (made _ _), by omega⟩)
  have HB := Lib.hid h2
  have hmm := @run_makeMap Try.prog
  clear h1 h2 bx
  go_enter Try.func8, Try.ntmps8
  go_wp2_with fail
  go_ret
  exact ⟨by first | rfl | simp, T.out, HB.out⟩
end Go.Proofs.Ytckdfdnhoionnaa.tg
