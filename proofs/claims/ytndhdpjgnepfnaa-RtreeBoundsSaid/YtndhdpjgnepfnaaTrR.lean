/-
  R-trees: an entry goes into the tree: the function.
-/
import Derived.Test.YtndhdpjgnepfnaaTrQ
namespace Go.Proofs.Ytndhdpjgnepfnaa.tr
open Go.RowKit
open base (ret_bool ret_int made up Blk Only)
open rk (Lay)
open rect
set_option linter.unusedVariables false
set_option linter.unusedSimpArgs false
attribute [local go_sem] Oper.semAt_some

set_option maxRecDepth 100000 in
set_option maxHeartbeats 8000000 in
theorem tadd_any (t h n root m : Nat) (v : Value) (X : List Ex) (e : En) (P : Option Addr) (Se : List Th) (Be : Nat → Prop) (w : World) (ht : TAt w t h n root v X) (hm : m ≤ h) (hh : h ≤ 900) (he : Ent m w e Se Be) (hP : e.ptr = .pointer P) (hd : ∀ j, Be j → ¬ foot root v X j) (hbt : ¬ Be t) :
    Calls Try.prog 43 #[.pointer (some ⟨t, 0, none⟩), .agg #[.int .i64 e.b.x, .int .i64 e.b.y, .int .i64 e.b.w, .int .i64 e.b.h, .pointer P, .int .i64 e.v], .int .i64 m] w fun e' w' => e' = .returned (.tuple #[]) ∧ TreeP t h n root v X Se Be w w' := by
  obtain ⟨w1, hw1⟩ : ∃ w1, w.alloc (.cells #[.int .i64 e.b.x, .int .i64 e.b.y, .int .i64 e.b.w, .int .i64 e.b.h, .pointer P, .int .i64 e.v] 79) = w1 := ⟨_, rfl⟩
  have M1 := Lib.hid (show Below w.heap.size w w1 from by rw [← hw1]; exact made w _)
  have HB := Lib.hid (show Blk w1 w.heap.size 79 #[.int .i64 e.b.x, .int .i64 e.b.y, .int .i64 e.b.w, .int .i64 e.b.h, .pointer P, .int .i64 e.v] from by rw [← hw1]; exact Blk.new _ _ _)
  have HT := Lib.hid (ht.below M1.out)
  have HE := Lib.hid (he.below M1.out)
  have HE0 := Lib.hid (show ∀ j, Be j → j < w.heap.size from he.lt)
  have HT0 := Lib.hid ht
  obtain ⟨k, hk⟩ : ∃ k, h = m + k := ⟨h - m, by omega⟩
  have wk : IntKind.i64.wrap ((h : Int) - (m : Int)) = (k : Int) := by rw [IntWalk.i64_in _ (by omega)]; omega
  have HK := Lib.hid hk
  have AD := Lib.hid (show Calls _ _ _ (w1.drewN 1) (AddP h root v X Se Be (w1.drewN 1)) from by
    have hn : NdOf (Ent (m + k)) (w1.drewN 1) root v X := by rw [← hk]; exact (ht.below (base.below_drewN M1.out 1)).nd
    have := add_any k m (by omega) root v X e P Se Be (w1.drewN 1) hn ht.most (fun q => by rcases ht.least with q' | q' <;> omega) (he.below (base.below_drewN M1.out 1)) hP hd
    rw [← hk] at this
    exact this)
  have HD := Lib.hid hd
  have HBT := Lib.hid hbt
  have HH := Lib.hid hh
  have HW1 := Lib.hid hw1
  have TL := Lib.hid ht.blk.lt
  have i0 : (0 : Int) ≤ (m : Int) := Int.natCast_nonneg _
  clear hw1 ht he hP hd hbt hm hh hk
  go_enter Try.func43, Try.ntmps43
  go_upto_region 1 with fail
  have hw1 := HW1.out
  simp only [hw1]
  clear hw1 HW1
  generalize hpb : w.heap.size = pb at *
  have HPB := Lib.hid hpb
  clear hpb
  refine wp_region_held_drew (S := (fun ws => ws.cell? ⟨t, 0, none⟩ = some (.pointer (some ⟨root, 0, none⟩)) ∧ ws.cell? ⟨t, 1, none⟩ = some (.int .i64 h) ∧ ws.cell? ⟨pb, 0, none⟩ = some (.int .i64 e.b.x) ∧ ws.cell? ⟨pb, 1, none⟩ = some (.int .i64 e.b.y) ∧ ws.cell? ⟨pb, 2, none⟩ = some (.int .i64 e.b.w) ∧ ws.cell? ⟨pb, 3, none⟩ = some (.int .i64 e.b.h) ∧ ws.cell? ⟨pb, 4, none⟩ = some (.pointer P) ∧ ws.cell? ⟨pb, 5, none⟩ = some (.int .i64 e.v))) (by kernel_rfl) ⟨HT.out.blk.cell 0, HT.out.blk.cell 1, blk6 HB.out⟩ (fun hHeld => ?_)
  refine wpAnyH_take (i := 0) (v := ?_) rfl (by kernel_rfl) (by kernel_rfl) (by kernel_rfl) (fun _ _ _ h => h) (Or.inl ⟨by rfl, ?_⟩) (by assumption) ?_
  rotate_left
  · (intro w hSw; (try dsimp only at hSw); first | (go_simp; done) | (go_simp; with_reducible rfl))
  simp only [Act.put, List.getElem_toArray, List.getElem_cons_zero, List.getElem_cons_succ, List.setIfInBounds_toArray, List.set_cons_zero, List.set_cons_succ]
  refine wpAnyH_take (i := 1) (v := ?_) rfl (by kernel_rfl) (by kernel_rfl) (by kernel_rfl) (fun _ _ _ h => h) (Or.inl ⟨by rfl, ?_⟩) (by assumption) ?_
  rotate_left
  · (intro w hSw; (try dsimp only at hSw); first | (go_simp; done) | (go_simp; with_reducible rfl))
  simp only [Act.put, List.getElem_toArray, List.getElem_cons_zero, List.getElem_cons_succ, List.setIfInBounds_toArray, List.set_cons_zero, List.set_cons_succ]
  refine wpAnyH_take (i := 2) (v := ?_) rfl (by kernel_rfl) (by kernel_rfl) (by kernel_rfl) (fun _ _ _ h => h) (Or.inl ⟨by rfl, ?_⟩) (by assumption) ?_
  rotate_left
  · (intro w hSw; (try dsimp only at hSw); first | (go_simp; done) | (go_simp; with_reducible rfl))
  simp only [Act.put, List.getElem_toArray, List.getElem_cons_zero, List.getElem_cons_succ, List.setIfInBounds_toArray, List.set_cons_zero, List.set_cons_succ]
  refine wpAnyH_take (i := 3) (v := ?_) rfl (by kernel_rfl) (by kernel_rfl) (by kernel_rfl) (fun _ _ _ h => h) (Or.inl ⟨by rfl, ?_⟩) (by assumption) ?_
  rotate_left
  · (intro w hSw; (try dsimp only at hSw); first | (go_simp; done) | (go_simp; with_reducible rfl))
  simp only [Act.put, List.getElem_toArray, List.getElem_cons_zero, List.getElem_cons_succ, List.setIfInBounds_toArray, List.set_cons_zero, List.set_cons_succ]
  refine wpAnyH_take (i := 4) (v := ?_) rfl (by kernel_rfl) (by kernel_rfl) (by kernel_rfl) (fun _ _ _ h => h) (Or.inl ⟨by rfl, ?_⟩) (by assumption) ?_
  rotate_left
  · (intro w hSw; (try dsimp only at hSw); first | (go_simp; done) | (go_simp; with_reducible rfl))
  simp only [Act.put, List.getElem_toArray, List.getElem_cons_zero, List.getElem_cons_succ, List.setIfInBounds_toArray, List.set_cons_zero, List.set_cons_succ]
  refine wpAnyH_take (i := 5) (v := ?_) rfl (by kernel_rfl) (by kernel_rfl) (by kernel_rfl) (fun _ _ _ h => h) (Or.inl ⟨by rfl, ?_⟩) (by assumption) ?_
  rotate_left
  · (intro w hSw; (try dsimp only at hSw); first | (go_simp; done) | (go_simp; with_reducible rfl))
  simp only [Act.put, List.getElem_toArray, List.getElem_cons_zero, List.getElem_cons_succ, List.setIfInBounds_toArray, List.set_cons_zero, List.set_cons_succ]
  refine wpAnyH_take (i := 6) (v := ?_) rfl (by kernel_rfl) (by kernel_rfl) (by kernel_rfl) (fun _ _ _ h => h) (Or.inl ⟨by rfl, ?_⟩) (by assumption) ?_
  rotate_left
  · (intro w hSw; (try dsimp only at hSw); first | (go_simp; done) | (go_simp; with_reducible rfl))
  simp only [Act.put, List.getElem_toArray, List.getElem_cons_zero, List.getElem_cons_succ, List.setIfInBounds_toArray, List.set_cons_zero, List.set_cons_succ]
  refine wpAnyH_take (i := 7) (v := ?_) rfl (by kernel_rfl) (by kernel_rfl) (by kernel_rfl) (fun _ _ _ h => h) (Or.inl ⟨by rfl, ?_⟩) (by assumption) ?_
  rotate_left
  · (intro w hSw; (try dsimp only at hSw); first | (go_simp; done) | (go_simp; with_reducible rfl))
  simp only [Act.put, List.getElem_toArray, List.getElem_cons_zero, List.getElem_cons_succ, List.setIfInBounds_toArray, List.set_cons_zero, List.set_cons_succ]
  refine wpAnyH_take (i := 8) (v := ?_) rfl (by kernel_rfl) (by kernel_rfl) (by kernel_rfl) (fun _ _ _ h => h) (Or.inl ⟨by rfl, ?_⟩) (by assumption) ?_
  rotate_left
  · (intro w hSw; (try dsimp only at hSw); first | (go_simp; done) | (go_simp; with_reducible rfl))
  simp only [Act.put, List.getElem_toArray, List.getElem_cons_zero, List.getElem_cons_succ, List.setIfInBounds_toArray, List.set_cons_zero, List.set_cons_succ]
  refine wpAnyH_take (i := 9) (v := ?_) rfl (by kernel_rfl) (by kernel_rfl) (by kernel_rfl) (fun _ _ _ h => h) (Or.inl ⟨by rfl, ?_⟩) (by assumption) ?_
  rotate_left
  · (intro w hSw; (try dsimp only at hSw); first | (go_simp; done) | (go_simp; with_reducible rfl))
  simp only [Act.put, List.getElem_toArray, List.getElem_cons_zero, List.getElem_cons_succ, List.setIfInBounds_toArray, List.set_cons_zero, List.set_cons_succ]
  refine wpAnyH_take (i := 10) (v := ?_) rfl (by kernel_rfl) (by kernel_rfl) (by kernel_rfl) (fun _ _ _ h => h) (Or.inl ⟨by rfl, ?_⟩) (by assumption) ?_
  rotate_left
  · (intro w hSw; (try dsimp only at hSw); first | (go_simp; done) | (go_simp; with_reducible rfl))
  simp only [Act.put, List.getElem_toArray, List.getElem_cons_zero, List.getElem_cons_succ, List.setIfInBounds_toArray, List.set_cons_zero, List.set_cons_succ]
  refine wpAnyH_ready (rs := [11]) (by kernel_rfl) (by simp) ?_
  refine AllReadyH.cons rfl (fun K hK => ?_) AllReadyH.nil
  go_simp
  refine AD.out.mono ?_
  rintro e1 w2 ⟨ho, hor⟩
  have O2 := Lib.hid (show Only (foot root v X) w1 w2 from ⟨ho.os, ho.tape, ho.output, ho.size, ho.block⟩)
  have T2 := Lib.hid (HT.out.blk.only O2.out HT.out.apart)
  have B2 := Lib.hid (HB.out.only O2.out (fun q => by
    have := HT0.out.nd.lt _ q
    have := HPB.out
    omega))
  clear ho AD
  have ec : (∃ Q, e1 = .returned (.pointer Q)) := by
    rcases hor with ⟨rfl, -⟩ | ⟨g2, _, _, _, _, rfl, -⟩
    · exact ⟨_, rfl⟩
    · exact ⟨_, rfl⟩
  obtain ⟨Q, rfl⟩ := ec
  refine hK.out _ _ ⟨T2.out.cell 0, T2.out.cell 1, blk6 B2.out⟩ (fun hHeld2 => ?_)
  clear hK K hHeld
  refine wpAnyH_take (i := 12) (v := ?_) rfl (by kernel_rfl) (by kernel_rfl) (by kernel_rfl) (fun _ _ _ h => h) (Or.inl ⟨by rfl, ?_⟩) (by assumption) ?_
  rotate_left
  · (intro w hSw; (try dsimp only at hSw); first | (go_simp; done) | (go_simp; with_reducible rfl))
  simp only [Act.put, List.getElem_toArray, List.getElem_cons_zero, List.getElem_cons_succ, List.setIfInBounds_toArray, List.set_cons_zero, List.set_cons_succ]
  refine wpAnyH_done (by kernel_rfl) ?_ _
  clear hHeld2 wk i0
  have UN := Lib.hid (show Below w.heap.size w w1 from by rw [HPB.out]; exact M1.out)
  rcases hor with ⟨hQ, v', X', a1, a2, a3, a4, a5, a6⟩ | ⟨g2, v1, v2, X1, X2, hQ, a1, a2, a3, a4, a5, a6, a7, a8, a9, a10⟩
  · injection hQ with hQ
    injection hQ with hQ
    subst hQ
    have F := Lib.hid (TreeP.under UN.out (TreeP.stay HT.out a1 a2 a3 a4 a5 a6 HBT.out O2.out))
    clear a1 a2 a3 a4 a5 a6
    go_wp2_with fail
    exact bodyPost_ret (v := .tuple #[]) (by simp [results, Try.results43, go_sem]) rfl ⟨rfl, F.out⟩
  · injection hQ with hQ
    injection hQ with hQ
    subst hQ
    obtain ⟨A1, c1, rfl, n1⟩ := a1.nat
    obtain ⟨A2, c2, rfl, n2⟩ := a2.nat
    have X1b := Lib.hid (nbox_any root c1 A1 (ens X1) w2 n1 (by rw [ens_len]; omega))
    have X2b := Lib.hid (fun W (hW : Below w2.heap.size w2 W) => nbox_any g2 c2 A2 (ens X2) W (n2.below hW) (by rw [ens_len]; omega))
    rw [a1.box] at X1b
    rw [a2.box] at X2b
    have RT := Lib.hid (fun r gn (wm : World) => root_two (r := r) (gn := gn) (w' := wm) a1 a2 a3 a4 a5 a6 a10)
    have GR := Lib.hid (fun r gn (wm : World) q1 q2 q3 q4 => TreeP.grow (r := r) (gn := gn) (wm := wm) HT.out HBT.out O2.out a8 a9 a7 q1 q2 q3 q4)
    generalize bb ((all X1).map Prod.fst) = b1 at *
    generalize bb ((all X2).map Prod.fst) = b2 at *
    have wk : IntKind.i64.wrap ((h : Int) + 1) = (h : Int) + 1 := IntWalk.i64_in _ (by have := HH.out; omega)
    have t0 := T2.out.cell 0
    have t1 := T2.out.cell 1
    clear a1 a2 a3 a4 a5 a6 a7 a8 a9 a10 n1 n2
    go_wp2_with fail
    refine X1b.out.mono ?_
    rintro e2 w3 ⟨rfl, hb3⟩
    have B3 := Lib.hid hb3
    clear hb3 X1b
    go_wp2_with fail
    refine (X2b.out w3 B3.out).mono ?_
    rintro e3 w4 ⟨rfl, hb4⟩
    have B4 := Lib.hid (up B3.out hb4 B3.out.size)
    clear hb4 X2b B3 t0 t1
    have T4 := Lib.hid (T2.out.below B4.out T2.out.lt)
    have t0 := T4.out.cell 0
    have t1 := T4.out.cell 1
    have u0 := T4.out.free 0
    have u1 := T4.out.free 1
    obtain ⟨w5, hw5⟩ : ∃ w5, w4.alloc (.cells #[.int .i64 b1.x, .int .i64 b1.y, .int .i64 b1.w, .int .i64 b1.h, .pointer (some ⟨root, 0, none⟩), .int .i64 0, .int .i64 b2.x, .int .i64 b2.y, .int .i64 b2.w, .int .i64 b2.h, .pointer (some ⟨g2, 0, none⟩), .int .i64 0] 79) = w5 := ⟨_, rfl⟩
    obtain ⟨w6, hw6⟩ : ∃ w6, w5.alloc (.cells #[.slice (some ⟨w4.heap.size, 0, none⟩) 2 2] 62) = w6 := ⟨_, rfl⟩
    have R5 : Blk w5 w4.heap.size 79 #[.int .i64 b1.x, .int .i64 b1.y, .int .i64 b1.w, .int .i64 b1.h, .pointer (some ⟨root, 0, none⟩), .int .i64 0, .int .i64 b2.x, .int .i64 b2.y, .int .i64 b2.w, .int .i64 b2.h, .pointer (some ⟨g2, 0, none⟩), .int .i64 0] := by rw [← hw5]; exact Blk.new _ _ _
    have M5 : Below w4.heap.size w4 w5 := by rw [← hw5]; exact made w4 _
    have M6 : Below w5.heap.size w5 w6 := by rw [← hw6]; exact made w5 _
    have z5 : w5.heap.size = w4.heap.size + 1 := by rw [← hw5, asz]
    have G6 : Blk w6 w5.heap.size 62 #[.slice (some ⟨w4.heap.size, 0, none⟩) 2 2] := by rw [← hw6]; exact Blk.new _ _ _
    have R6 := R5.below M6 R5.lt
    have M46 : Below w2.heap.size w2 w6 := up (up B4.out M5 B4.out.size) M6 (by have := B4.out.size; omega)
    rw [z5] at G6
    have T6 := Lib.hid (T2.out.below M46 T2.out.lt)
    have FN := Lib.hid (TreeP.under UN.out (GR.out w4.heap.size (w4.heap.size + 1) w6 (by have := B4.out.size; omega) (by have := B4.out.size; omega) M46 (RT.out w4.heap.size (w4.heap.size + 1) w6 (by have := B4.out.size; omega) (by have := B4.out.size; omega) (by omega) M46 R6 G6)))
    have HW5 := Lib.hid hw5
    have HW6 := Lib.hid hw6
    have tl1 : t < w4.heap.size := T4.out.lt
    have tl2 : t < w4.heap.size + 1 := by omega
    clear GR RT R5 M5 M6 z5 G6 R6 M46 hw5 hw6
    go_wp2_with fail
    have hfn := FN.out
    rw [← HW6.out, ← HW5.out] at hfn
    simp [go_sem, tl1, tl2] at hfn
    go_end0
    exact ⟨rfl, hfn⟩
end Go.Proofs.Ytndhdpjgnepfnaa.tr
