/-
  Commands: the reference: the bytes of a right one.
-/
import Derived.Test.YtndhammngejdiaaDoorOrL

namespace Go.Proofs.YtndhammngejdiaaDoor.od
open Go.RowKit
open base (ret_bool ret_int made up Blk Only Nums)
open bytes (Small small_nil small_app Lay By str Own conv_any)
open vi (bs bs_len bs_small rint_any rbytes_any NewB)
open vnum
set_option linter.unusedVariables false
set_option linter.unusedSimpArgs false
theorem fx_get {n i : Nat} (hn : n ≤ 4) (h : i < n) : ((fx n false).take (i + 1)) = (fx n false).take i ++ [65 + i] := by
  rcases (show n = 0 ∨ n = 1 ∨ n = 2 ∨ n = 3 ∨ n = 4 by omega) with rfl | rfl | rfl | rfl | rfl
  all_goals (rcases (show i = 0 ∨ i = 1 ∨ i = 2 ∨ i = 3 by omega) with rfl | rfl | rfl | rfl <;> first | rfl | omega)
theorem fb_get (x : Cm) {i : Nat} (h : i < 4) : fb x (65 + i) = enc (NI x i) := by
  rcases (show i = 0 ∨ i = 1 ∨ i = 2 ∨ i = 3 by omega) with rfl | rfl | rfl | rfl <;> rfl
theorem NI_wf {x : Cm} (hx : x.Ok) (i : Nat) : (Lit.int .i64 (NI x i)).wf = true := by
  unfold NI
  split
  · exact hx.a
  split
  · exact hx.b
  split
  · exact hx.c
  · exact hx.d
set_option maxRecDepth 100000 in
set_option maxHeartbeats 4000000 in
theorem rb_login (x : Cm) (w : World) (hx : x.Ok) (h : rightM x = true) (hl : x.l.size ≠ 0) : Calls Tryd.prog 14 #[.agg #[.int .i64 x.s, .int .i64 x.w, .int .i64 x.k, .int .i64 x.a, .int .i64 x.b, .int .i64 x.c, .int .i64 x.d, .string x.t, .string x.l]] w (StrP (str (bytesM x)) w) := by
  have RR := Lib.hid ((right_iff x).1 h)
  have HX := Lib.hid hx
  have WS := Lib.hid (wf_i64 hx.s)
  have WK := Lib.hid (wf_i64 hx.k)
  have L1 := Lib.hid (enc_len WS.out.1 WS.out.2)
  have L2 := Lib.hid (enc_len WK.out.1 WK.out.2)
  have he : x.l.toList.isEmpty = false := by rw [toList_empty]; exact decide_eq_false hl
  have SZ := Lib.hid (show x.l.size ≤ 16 from by
    rcases (right_parts h).2.2.2 with q | q
    · exact absurd q.1 hl
    · exact (nm.okN_len q.2.1).2)
  have STR := Lib.hid (show str (bytesM x) = str (enc x.s) ++ str (enc x.k) ++ str (enc (x.l.size : Int) ++ bs x.l) from by
    have hk : x.k = 0 := by
      rcases ((right_iff x).1 h).2.2.2.2 with q | q
      · exact q.2.1
      · exact absurd q.1 hl
    unfold bytesM
    rw [if_neg hl, str_app, str_app, hk, ByteArray.append_assoc])
  have M1 := Lib.hid (made w (.cells #[.int .i64 x.s, .int .i64 x.w, .int .i64 x.k, .int .i64 x.a, .int .i64 x.b, .int .i64 x.c, .int .i64 x.d, .string x.t, .string x.l] 30))
  have bx := Blk.new w 30 #[.int .i64 x.s, .int .i64 x.w, .int .i64 x.k, .int .i64 x.a, .int .i64 x.b, .int .i64 x.c, .int .i64 x.d, .string x.t, .string x.l]
  have BX := Lib.hid bx
  have b0 := bx.cell 0
  have b2 := bx.cell 2
  clear bx hx h
  generalize hw : w.alloc (.cells #[.int .i64 x.s, .int .i64 x.w, .int .i64 x.k, .int .i64 x.a, .int .i64 x.b, .int .i64 x.c, .int .i64 x.d, .string x.t, .string x.l] 30) = w1 at *
  go_enter Tryd.func14, Tryd.ntmps14
  go_upto_region 1 with (rw [hw])
  have BD := Lib.hid (show Blk w1.drew w.heap.size 30 #[.int .i64 x.s, .int .i64 x.w, .int .i64 x.k, .int .i64 x.a, .int .i64 x.b, .int .i64 x.c, .int .i64 x.d, .string x.t, .string x.l] from BX.out.drewN 1)
  have B1 := Lib.hid (show Below w.heap.size w w1.drew from base.below_drewN M1.out 1)
  refine wp_region_held_drew (S := fun ws => True) (by kernel_rfl) trivial (fun hHeld => ?_)
  generalize w1.drew = wa at *
  refine more.any_more (S' := fun ws => (ws.cell? ⟨w.heap.size, 0, none⟩ = some (.int .i64 x.s) ∧ ws.cell? ⟨w.heap.size, 2, none⟩ = some (.int .i64 x.k))) (fun _ _ => trivial) _ _ _ _ ?_
  have SS := Lib.hid (fun ws (h : Below wa.heap.size wa ws) => (show (ws.cell? ⟨w.heap.size, 0, none⟩ = some (.int .i64 x.s) ∧ ws.cell? ⟨w.heap.size, 2, none⟩ = some (.int .i64 x.k)) from ⟨(BD.out.below h BD.out.lt).cell 0, (BD.out.below h BD.out.lt).cell 2⟩))
  have hH0 : (fun ws => (ws.cell? ⟨w.heap.size, 0, none⟩ = some (.int .i64 x.s) ∧ ws.cell? ⟨w.heap.size, 2, none⟩ = some (.int .i64 x.k))) wa := SS.out _ (Below.refl _ _)
  refine wpAnyH_take (i := 0) (v := ?_) rfl (by kernel_rfl) (by kernel_rfl) (by kernel_rfl) (fun _ _ _ h => h) (Or.inl ⟨by rfl, ?_⟩) (by assumption) ?_
  rotate_left
  · (intro w hSw; (try dsimp only at hSw); first | (go_simp; done) | (go_simp; with_reducible rfl))
  simp only [Act.put, List.getElem_toArray, List.getElem_cons_zero, List.getElem_cons_succ, List.setIfInBounds_toArray, List.set_cons_zero, List.set_cons_succ]
  refine wpAnyH_take (i := 1) (v := ?_) rfl (by kernel_rfl) (by kernel_rfl) (by kernel_rfl) (fun _ _ _ h => h) (Or.inl ⟨by rfl, ?_⟩) (by assumption) ?_
  rotate_left
  · (intro w hSw; (try dsimp only at hSw); first | (go_simp; done) | (go_simp; with_reducible rfl))
  simp only [Act.put, List.getElem_toArray, List.getElem_cons_zero, List.getElem_cons_succ, List.setIfInBounds_toArray, List.set_cons_zero, List.set_cons_succ]
  refine wpAnyH_take (i := 4) (v := ?_) rfl (by kernel_rfl) (by kernel_rfl) (by kernel_rfl) (fun _ _ _ h => h) (Or.inl ⟨by rfl, ?_⟩) (by assumption) ?_
  rotate_left
  · (intro w hSw; (try dsimp only at hSw); first | (go_simp; done) | (go_simp; with_reducible rfl))
  simp only [Act.put, List.getElem_toArray, List.getElem_cons_zero, List.getElem_cons_succ, List.setIfInBounds_toArray, List.set_cons_zero, List.set_cons_succ]
  refine wpAnyH_take (i := 5) (v := ?_) rfl (by kernel_rfl) (by kernel_rfl) (by kernel_rfl) (fun _ _ _ h => h) (Or.inl ⟨by rfl, ?_⟩) (by assumption) ?_
  rotate_left
  · (intro w hSw; (try dsimp only at hSw); first | (go_simp; done) | (go_simp; with_reducible rfl))
  simp only [Act.put, List.getElem_toArray, List.getElem_cons_zero, List.getElem_cons_succ, List.setIfInBounds_toArray, List.set_cons_zero, List.set_cons_succ]
  refine wpAnyH_ready (rs := [2]) (by kernel_rfl) (by simp) ?_
  refine AllReadyH.cons rfl (fun K hK => ?_) AllReadyH.nil
  go_simp
  go_wp2_with (go_at_call 35; refine (rint_any x.s wa WS.out.1 WS.out.2).mono ?_; rintro e1 wb ⟨v1, rfl, ho, hb⟩)
  obtain ⟨A1, c1, rfl, hl1, -, -⟩ := ho.lay
  have D1 := Lib.hid hb
  have LY1 := Lib.hid hl1
  have cv1 := fun ws (h : Lay ws A1 (enc x.s)) => conv_any ws A1 c1 (enc x.s) h (enc_small _)
  refine hK.out _ _ (SS.out _ D1.out) (fun hH => ?_)
  clear hK K hHeld hH hH0 ho hb hl1
  refine more.any_more (S' := fun ws => (ws.cell? ⟨w.heap.size, 0, none⟩ = some (.int .i64 x.s) ∧ ws.cell? ⟨w.heap.size, 2, none⟩ = some (.int .i64 x.k)) ∧ (convert 32 9 (.slice A1 (enc x.s).length c1)).run Tryd.prog ws = .ok (.string (str (enc x.s))) ws) (fun _ h => h.1) _ _ _ _ ?_
  have hH1 : (fun ws => (ws.cell? ⟨w.heap.size, 0, none⟩ = some (.int .i64 x.s) ∧ ws.cell? ⟨w.heap.size, 2, none⟩ = some (.int .i64 x.k)) ∧ (convert 32 9 (.slice A1 (enc x.s).length c1)).run Tryd.prog ws = .ok (.string (str (enc x.s))) ws) wb := ⟨SS.out _ D1.out, cv1 _ LY1.out⟩
  refine wpAnyH_take (i := 3) (v := ?_) rfl (by kernel_rfl) (by kernel_rfl) (by kernel_rfl) (fun _ _ _ h => h) (Or.inl ⟨by rfl, ?_⟩) (by assumption) ?_
  rotate_left
  · (intro w hSw; (try dsimp only at hSw); first | (go_simp; done) | (go_simp; with_reducible rfl))
  simp only [Act.put, List.getElem_toArray, List.getElem_cons_zero, List.getElem_cons_succ, List.setIfInBounds_toArray, List.set_cons_zero, List.set_cons_succ]
  refine wpAnyH_ready (rs := [6]) (by kernel_rfl) (by simp) ?_
  refine AllReadyH.cons rfl (fun K hK => ?_) AllReadyH.nil
  go_simp
  go_wp2_with (go_at_call 35; refine (rint_any x.k wb WK.out.1 WK.out.2).mono ?_; rintro e1 wc ⟨v2, rfl, ho, hb⟩)
  obtain ⟨A2, c2, rfl, hl2, -, -⟩ := ho.lay
  have D2 := Lib.hid (up D1.out hb D1.out.size)
  have LY2 := Lib.hid hl2
  have L12 := Lib.hid (LY1.out.below hb)
  have cv2 := fun ws (h : Lay ws A2 (enc x.k)) => conv_any ws A2 c2 (enc x.k) h (enc_small _)
  refine hK.out _ _ ⟨SS.out _ D2.out, cv1 _ L12.out⟩ (fun hH => ?_)
  clear hK K hH hH1 ho hb hl2
  refine more.any_more (S' := fun ws => ((ws.cell? ⟨w.heap.size, 0, none⟩ = some (.int .i64 x.s) ∧ ws.cell? ⟨w.heap.size, 2, none⟩ = some (.int .i64 x.k)) ∧ (convert 32 9 (.slice A1 (enc x.s).length c1)).run Tryd.prog ws = .ok (.string (str (enc x.s))) ws) ∧ (convert 32 9 (.slice A2 (enc x.k).length c2)).run Tryd.prog ws = .ok (.string (str (enc x.k))) ws) (fun _ h => h.1) _ _ _ _ ?_
  have hH2 : (fun ws => ((ws.cell? ⟨w.heap.size, 0, none⟩ = some (.int .i64 x.s) ∧ ws.cell? ⟨w.heap.size, 2, none⟩ = some (.int .i64 x.k)) ∧ (convert 32 9 (.slice A1 (enc x.s).length c1)).run Tryd.prog ws = .ok (.string (str (enc x.s))) ws) ∧ (convert 32 9 (.slice A2 (enc x.k).length c2)).run Tryd.prog ws = .ok (.string (str (enc x.k))) ws) wc := ⟨⟨SS.out _ D2.out, cv1 _ L12.out⟩, cv2 _ LY2.out⟩
  have z1 : ¬ 9223372036854775807 < (str (enc x.s)).size + (str (enc x.k)).size := by rw [str_size, str_size]; have := L1.out; have := L2.out; omega
  refine wpAnyH_take (i := 7) (v := ?_) rfl (by kernel_rfl) (by kernel_rfl) (by kernel_rfl) (fun _ _ _ h => h) (Or.inl ⟨by rfl, ?_⟩) (by assumption) ?_
  rotate_left
  · (intro w hSw; (try dsimp only at hSw); first | (go_simp; done) | (go_simp; with_reducible rfl))
  simp only [Act.put, List.getElem_toArray, List.getElem_cons_zero, List.getElem_cons_succ, List.setIfInBounds_toArray, List.set_cons_zero, List.set_cons_succ]
  refine wpAnyH_take (i := 8) (v := ?_) rfl (by kernel_rfl) (by kernel_rfl) (by kernel_rfl) (fun _ _ _ h => h) (Or.inl ⟨by rfl, ?_⟩) (by assumption) ?_
  rotate_left
  · (intro w hSw; (try dsimp only at hSw); first | (go_simp; done) | (go_simp; with_reducible rfl))
  simp only [Act.put, List.getElem_toArray, List.getElem_cons_zero, List.getElem_cons_succ, List.setIfInBounds_toArray, List.set_cons_zero, List.set_cons_succ]
  refine wpAnyH_take (i := 9) (v := ?_) rfl (by kernel_rfl) (by kernel_rfl) (by kernel_rfl) (fun _ _ _ h => h) (Or.inl ⟨by rfl, ?_⟩) (by assumption) ?_
  rotate_left
  · (intro w hSw; (try dsimp only at hSw); first | (go_simp; done) | (go_simp; with_reducible rfl))
  simp only [Act.put, List.getElem_toArray, List.getElem_cons_zero, List.getElem_cons_succ, List.setIfInBounds_toArray, List.set_cons_zero, List.set_cons_succ]
  refine wpAnyH_done (by kernel_rfl) ?_ _
  clear hH2 z1 cv1 cv2
  have BC := Lib.hid (BD.out.below D2.out BD.out.lt)
  have B4 := Lib.hid (up B1.out D2.out B1.out.size)
  have PZ_ := Lib.hid (show (str (enc x.s) ++ str (enc x.k)).size ≤ 20 from by rw [← str_app, str_size, List.length_append]; have := L1.out; have := L2.out; omega)
  clear SS D1 D2 LY1 LY2 L12 BD B1 hw b0 b2
  generalize str (enc x.s) ++ str (enc x.k) = sp at *
  generalize str (enc x.s) = sp1 at *
  generalize str (enc x.k) = sp2 at *
  have cel2 := BC.out.cell 2
  have US := Lib.hid (uses_any x.k wc)
  generalize wc = w4 at *
  have cel7 := BC.out.cell 7
  have cel8 := BC.out.cell 8
  generalize us x.k = u at *
  go_wp2_with fail
  refine US.out.mono ?_
  rintro e1 w5 ⟨rfl, e5⟩
  subst e5
  clear US
  have cv := run_bytes_of_string (P := Tryd.prog) w4 9 32 5 x.l Tryd.underlying9 Tryd.underlying32 Tryd.underlying5
  generalize grownCap w4 x.l.size 0 5 = cap at cv
  have LB0 := vi.bytes_of w4 x.l cap ((bytesRow x.l cap).size, (bytesRow x.l cap).size + 1)
  have B5 := Lib.hid (show Below w.heap.size w (w4.drew.alloc (.cells (bytesRow x.l cap) 5 ((bytesRow x.l cap).size, (bytesRow x.l cap).size + 1))) from up B4.out ((Below.refl _ _).drew.alloc (Nat.le_refl _) _) B4.out.size)
  have RB := Lib.hid (rbytes_any (some ⟨w4.heap.size, 0, none⟩) cap (bs x.l) _ LB0 (by rw [bs_len]; have := SZ.out; omega))
  rw [bs_len] at RB
  unfold NewB at RB
  have SQ6 := Lib.hid (show Small (enc (x.l.size : Int) ++ bs x.l) from small_app (enc_small _) (bs_small _))
  have ZQ6 := Lib.hid (show (enc (x.l.size : Int) ++ bs x.l).length ≤ 26 from by
    rw [List.length_append, bs_len]
    have := SZ.out
    have := enc_len (n := (x.l.size : Int)) (by omega) (by omega)
    omega)
  generalize enc (x.l.size : Int) ++ bs x.l = q6 at *
  clear LB0
  generalize w4.drew.alloc (.cells (bytesRow x.l cap) 5 ((bytesRow x.l cap).size, (bytesRow x.l cap).size + 1)) = w5 at *
  go_wp2_with fail
  refine RB.out.mono ?_
  rintro e1 w6 ⟨v6, rfl, ho6, hb6⟩
  obtain ⟨A6, c6, rfl, hl6, -, -⟩ := ho6.lay
  have cv6 : (convert 32 9 (.slice A6 q6.length c6)).run Tryd.prog w6 = .ok (.string (str q6)) w6 := conv_any w6 A6 c6 _ hl6 SQ6.out
  have B6 := Lib.hid (up B5.out hb6 B5.out.size)
  have Z6 := Lib.hid (show (str q6).size ≤ 26 from by rw [str_size]; exact ZQ6.out)
  clear ho6 hl6 hb6 RB cv
  generalize str q6 = s6 at *
  have z3 : ¬ 9223372036854775807 < sp.size + s6.size := by have := Z6.out; have := PZ_.out; omega
  go_wp2_with fail
  go_ret
  exact ⟨by rw [STR.out] <;> rfl, B6.out⟩
set_option maxRecDepth 100000 in
set_option maxHeartbeats 4000000 in
theorem rb_text (x : Cm) (w : World) (hx : x.Ok) (h : rightM x = true) (hl : x.l.size = 0) (hu : us x.k = (0, true)) : Calls Tryd.prog 14 #[.agg #[.int .i64 x.s, .int .i64 x.w, .int .i64 x.k, .int .i64 x.a, .int .i64 x.b, .int .i64 x.c, .int .i64 x.d, .string x.t, .string x.l]] w (StrP (str (bytesM x)) w) := by
  have RR := Lib.hid ((right_iff x).1 h)
  have HX := Lib.hid hx
  have WS := Lib.hid (wf_i64 hx.s)
  have WK := Lib.hid (wf_i64 hx.k)
  have L1 := Lib.hid (enc_len WS.out.1 WS.out.2)
  have L2 := Lib.hid (enc_len WK.out.1 WK.out.2)
  have he : x.l.toList.isEmpty = true := by rw [toList_empty]; exact decide_eq_true hl
  have SZ := Lib.hid (t_len h)
  have STR := Lib.hid (show str (bytesM x) = str (enc x.s) ++ str (enc x.k) ++ str (enc (x.t.size : Int) ++ bs x.t) from by
    have e : (fs x.k).flatMap (fb x) = enc (x.t.size : Int) ++ bs x.t := by
      rw [fs_us, hu]
      show [84].flatMap (fb x) = _
      simp [fb]
    unfold bytesM
    rw [if_pos hl, e, str_app, str_app, ByteArray.append_assoc])
  have M1 := Lib.hid (made w (.cells #[.int .i64 x.s, .int .i64 x.w, .int .i64 x.k, .int .i64 x.a, .int .i64 x.b, .int .i64 x.c, .int .i64 x.d, .string x.t, .string x.l] 30))
  have bx := Blk.new w 30 #[.int .i64 x.s, .int .i64 x.w, .int .i64 x.k, .int .i64 x.a, .int .i64 x.b, .int .i64 x.c, .int .i64 x.d, .string x.t, .string x.l]
  have BX := Lib.hid bx
  have b0 := bx.cell 0
  have b2 := bx.cell 2
  clear bx hx h
  generalize hw : w.alloc (.cells #[.int .i64 x.s, .int .i64 x.w, .int .i64 x.k, .int .i64 x.a, .int .i64 x.b, .int .i64 x.c, .int .i64 x.d, .string x.t, .string x.l] 30) = w1 at *
  go_enter Tryd.func14, Tryd.ntmps14
  go_upto_region 1 with (rw [hw])
  have BD := Lib.hid (show Blk w1.drew w.heap.size 30 #[.int .i64 x.s, .int .i64 x.w, .int .i64 x.k, .int .i64 x.a, .int .i64 x.b, .int .i64 x.c, .int .i64 x.d, .string x.t, .string x.l] from BX.out.drewN 1)
  have B1 := Lib.hid (show Below w.heap.size w w1.drew from base.below_drewN M1.out 1)
  refine wp_region_held_drew (S := fun ws => True) (by kernel_rfl) trivial (fun hHeld => ?_)
  generalize w1.drew = wa at *
  refine more.any_more (S' := fun ws => (ws.cell? ⟨w.heap.size, 0, none⟩ = some (.int .i64 x.s) ∧ ws.cell? ⟨w.heap.size, 2, none⟩ = some (.int .i64 x.k))) (fun _ _ => trivial) _ _ _ _ ?_
  have SS := Lib.hid (fun ws (h : Below wa.heap.size wa ws) => (show (ws.cell? ⟨w.heap.size, 0, none⟩ = some (.int .i64 x.s) ∧ ws.cell? ⟨w.heap.size, 2, none⟩ = some (.int .i64 x.k)) from ⟨(BD.out.below h BD.out.lt).cell 0, (BD.out.below h BD.out.lt).cell 2⟩))
  have hH0 : (fun ws => (ws.cell? ⟨w.heap.size, 0, none⟩ = some (.int .i64 x.s) ∧ ws.cell? ⟨w.heap.size, 2, none⟩ = some (.int .i64 x.k))) wa := SS.out _ (Below.refl _ _)
  refine wpAnyH_take (i := 0) (v := ?_) rfl (by kernel_rfl) (by kernel_rfl) (by kernel_rfl) (fun _ _ _ h => h) (Or.inl ⟨by rfl, ?_⟩) (by assumption) ?_
  rotate_left
  · (intro w hSw; (try dsimp only at hSw); first | (go_simp; done) | (go_simp; with_reducible rfl))
  simp only [Act.put, List.getElem_toArray, List.getElem_cons_zero, List.getElem_cons_succ, List.setIfInBounds_toArray, List.set_cons_zero, List.set_cons_succ]
  refine wpAnyH_take (i := 1) (v := ?_) rfl (by kernel_rfl) (by kernel_rfl) (by kernel_rfl) (fun _ _ _ h => h) (Or.inl ⟨by rfl, ?_⟩) (by assumption) ?_
  rotate_left
  · (intro w hSw; (try dsimp only at hSw); first | (go_simp; done) | (go_simp; with_reducible rfl))
  simp only [Act.put, List.getElem_toArray, List.getElem_cons_zero, List.getElem_cons_succ, List.setIfInBounds_toArray, List.set_cons_zero, List.set_cons_succ]
  refine wpAnyH_take (i := 4) (v := ?_) rfl (by kernel_rfl) (by kernel_rfl) (by kernel_rfl) (fun _ _ _ h => h) (Or.inl ⟨by rfl, ?_⟩) (by assumption) ?_
  rotate_left
  · (intro w hSw; (try dsimp only at hSw); first | (go_simp; done) | (go_simp; with_reducible rfl))
  simp only [Act.put, List.getElem_toArray, List.getElem_cons_zero, List.getElem_cons_succ, List.setIfInBounds_toArray, List.set_cons_zero, List.set_cons_succ]
  refine wpAnyH_take (i := 5) (v := ?_) rfl (by kernel_rfl) (by kernel_rfl) (by kernel_rfl) (fun _ _ _ h => h) (Or.inl ⟨by rfl, ?_⟩) (by assumption) ?_
  rotate_left
  · (intro w hSw; (try dsimp only at hSw); first | (go_simp; done) | (go_simp; with_reducible rfl))
  simp only [Act.put, List.getElem_toArray, List.getElem_cons_zero, List.getElem_cons_succ, List.setIfInBounds_toArray, List.set_cons_zero, List.set_cons_succ]
  refine wpAnyH_ready (rs := [2]) (by kernel_rfl) (by simp) ?_
  refine AllReadyH.cons rfl (fun K hK => ?_) AllReadyH.nil
  go_simp
  go_wp2_with (go_at_call 35; refine (rint_any x.s wa WS.out.1 WS.out.2).mono ?_; rintro e1 wb ⟨v1, rfl, ho, hb⟩)
  obtain ⟨A1, c1, rfl, hl1, -, -⟩ := ho.lay
  have D1 := Lib.hid hb
  have LY1 := Lib.hid hl1
  have cv1 := fun ws (h : Lay ws A1 (enc x.s)) => conv_any ws A1 c1 (enc x.s) h (enc_small _)
  refine hK.out _ _ (SS.out _ D1.out) (fun hH => ?_)
  clear hK K hHeld hH hH0 ho hb hl1
  refine more.any_more (S' := fun ws => (ws.cell? ⟨w.heap.size, 0, none⟩ = some (.int .i64 x.s) ∧ ws.cell? ⟨w.heap.size, 2, none⟩ = some (.int .i64 x.k)) ∧ (convert 32 9 (.slice A1 (enc x.s).length c1)).run Tryd.prog ws = .ok (.string (str (enc x.s))) ws) (fun _ h => h.1) _ _ _ _ ?_
  have hH1 : (fun ws => (ws.cell? ⟨w.heap.size, 0, none⟩ = some (.int .i64 x.s) ∧ ws.cell? ⟨w.heap.size, 2, none⟩ = some (.int .i64 x.k)) ∧ (convert 32 9 (.slice A1 (enc x.s).length c1)).run Tryd.prog ws = .ok (.string (str (enc x.s))) ws) wb := ⟨SS.out _ D1.out, cv1 _ LY1.out⟩
  refine wpAnyH_take (i := 3) (v := ?_) rfl (by kernel_rfl) (by kernel_rfl) (by kernel_rfl) (fun _ _ _ h => h) (Or.inl ⟨by rfl, ?_⟩) (by assumption) ?_
  rotate_left
  · (intro w hSw; (try dsimp only at hSw); first | (go_simp; done) | (go_simp; with_reducible rfl))
  simp only [Act.put, List.getElem_toArray, List.getElem_cons_zero, List.getElem_cons_succ, List.setIfInBounds_toArray, List.set_cons_zero, List.set_cons_succ]
  refine wpAnyH_ready (rs := [6]) (by kernel_rfl) (by simp) ?_
  refine AllReadyH.cons rfl (fun K hK => ?_) AllReadyH.nil
  go_simp
  go_wp2_with (go_at_call 35; refine (rint_any x.k wb WK.out.1 WK.out.2).mono ?_; rintro e1 wc ⟨v2, rfl, ho, hb⟩)
  obtain ⟨A2, c2, rfl, hl2, -, -⟩ := ho.lay
  have D2 := Lib.hid (up D1.out hb D1.out.size)
  have LY2 := Lib.hid hl2
  have L12 := Lib.hid (LY1.out.below hb)
  have cv2 := fun ws (h : Lay ws A2 (enc x.k)) => conv_any ws A2 c2 (enc x.k) h (enc_small _)
  refine hK.out _ _ ⟨SS.out _ D2.out, cv1 _ L12.out⟩ (fun hH => ?_)
  clear hK K hH hH1 ho hb hl2
  refine more.any_more (S' := fun ws => ((ws.cell? ⟨w.heap.size, 0, none⟩ = some (.int .i64 x.s) ∧ ws.cell? ⟨w.heap.size, 2, none⟩ = some (.int .i64 x.k)) ∧ (convert 32 9 (.slice A1 (enc x.s).length c1)).run Tryd.prog ws = .ok (.string (str (enc x.s))) ws) ∧ (convert 32 9 (.slice A2 (enc x.k).length c2)).run Tryd.prog ws = .ok (.string (str (enc x.k))) ws) (fun _ h => h.1) _ _ _ _ ?_
  have hH2 : (fun ws => ((ws.cell? ⟨w.heap.size, 0, none⟩ = some (.int .i64 x.s) ∧ ws.cell? ⟨w.heap.size, 2, none⟩ = some (.int .i64 x.k)) ∧ (convert 32 9 (.slice A1 (enc x.s).length c1)).run Tryd.prog ws = .ok (.string (str (enc x.s))) ws) ∧ (convert 32 9 (.slice A2 (enc x.k).length c2)).run Tryd.prog ws = .ok (.string (str (enc x.k))) ws) wc := ⟨⟨SS.out _ D2.out, cv1 _ L12.out⟩, cv2 _ LY2.out⟩
  have z1 : ¬ 9223372036854775807 < (str (enc x.s)).size + (str (enc x.k)).size := by rw [str_size, str_size]; have := L1.out; have := L2.out; omega
  refine wpAnyH_take (i := 7) (v := ?_) rfl (by kernel_rfl) (by kernel_rfl) (by kernel_rfl) (fun _ _ _ h => h) (Or.inl ⟨by rfl, ?_⟩) (by assumption) ?_
  rotate_left
  · (intro w hSw; (try dsimp only at hSw); first | (go_simp; done) | (go_simp; with_reducible rfl))
  simp only [Act.put, List.getElem_toArray, List.getElem_cons_zero, List.getElem_cons_succ, List.setIfInBounds_toArray, List.set_cons_zero, List.set_cons_succ]
  refine wpAnyH_take (i := 8) (v := ?_) rfl (by kernel_rfl) (by kernel_rfl) (by kernel_rfl) (fun _ _ _ h => h) (Or.inl ⟨by rfl, ?_⟩) (by assumption) ?_
  rotate_left
  · (intro w hSw; (try dsimp only at hSw); first | (go_simp; done) | (go_simp; with_reducible rfl))
  simp only [Act.put, List.getElem_toArray, List.getElem_cons_zero, List.getElem_cons_succ, List.setIfInBounds_toArray, List.set_cons_zero, List.set_cons_succ]
  refine wpAnyH_take (i := 9) (v := ?_) rfl (by kernel_rfl) (by kernel_rfl) (by kernel_rfl) (fun _ _ _ h => h) (Or.inl ⟨by rfl, ?_⟩) (by assumption) ?_
  rotate_left
  · (intro w hSw; (try dsimp only at hSw); first | (go_simp; done) | (go_simp; with_reducible rfl))
  simp only [Act.put, List.getElem_toArray, List.getElem_cons_zero, List.getElem_cons_succ, List.setIfInBounds_toArray, List.set_cons_zero, List.set_cons_succ]
  refine wpAnyH_done (by kernel_rfl) ?_ _
  clear hH2 z1 cv1 cv2
  have BC := Lib.hid (BD.out.below D2.out BD.out.lt)
  have B4 := Lib.hid (up B1.out D2.out B1.out.size)
  have PZ_ := Lib.hid (show (str (enc x.s) ++ str (enc x.k)).size ≤ 20 from by rw [← str_app, str_size, List.length_append]; have := L1.out; have := L2.out; omega)
  clear SS D1 D2 LY1 LY2 L12 BD B1 hw b0 b2
  generalize str (enc x.s) ++ str (enc x.k) = sp at *
  generalize str (enc x.s) = sp1 at *
  generalize str (enc x.k) = sp2 at *
  have cel2 := BC.out.cell 2
  have US := Lib.hid (uses_any x.k wc)
  generalize wc = w4 at *
  have cel7 := BC.out.cell 7
  have cel8 := BC.out.cell 8
  rw [hu] at US
  dsimp only at US
  clear hu
  go_wp2_with fail
  refine US.out.mono ?_
  rintro e1 w5 ⟨rfl, e5⟩
  subst e5
  clear US
  have cv := run_bytes_of_string (P := Tryd.prog) w4 9 32 5 x.t Tryd.underlying9 Tryd.underlying32 Tryd.underlying5
  generalize grownCap w4 x.t.size 0 5 = cap at cv
  have LB0 := vi.bytes_of w4 x.t cap ((bytesRow x.t cap).size, (bytesRow x.t cap).size + 1)
  have B5 := Lib.hid (show Below w.heap.size w (w4.drew.alloc (.cells (bytesRow x.t cap) 5 ((bytesRow x.t cap).size, (bytesRow x.t cap).size + 1))) from up B4.out ((Below.refl _ _).drew.alloc (Nat.le_refl _) _) B4.out.size)
  have RB := Lib.hid (rbytes_any (some ⟨w4.heap.size, 0, none⟩) cap (bs x.t) _ LB0 (by rw [bs_len]; have := SZ.out; omega))
  rw [bs_len] at RB
  unfold NewB at RB
  have SQ6 := Lib.hid (show Small (enc (x.t.size : Int) ++ bs x.t) from small_app (enc_small _) (bs_small _))
  have ZQ6 := Lib.hid (show (enc (x.t.size : Int) ++ bs x.t).length ≤ 26 from by
    rw [List.length_append, bs_len]
    have := SZ.out
    have := enc_len (n := (x.t.size : Int)) (by omega) (by omega)
    omega)
  generalize enc (x.t.size : Int) ++ bs x.t = q6 at *
  clear LB0
  generalize w4.drew.alloc (.cells (bytesRow x.t cap) 5 ((bytesRow x.t cap).size, (bytesRow x.t cap).size + 1)) = w5 at *
  go_wp2_with fail
  refine RB.out.mono ?_
  rintro e1 w6 ⟨v6, rfl, ho6, hb6⟩
  obtain ⟨A6, c6, rfl, hl6, -, -⟩ := ho6.lay
  have cv6 : (convert 32 9 (.slice A6 q6.length c6)).run Tryd.prog w6 = .ok (.string (str q6)) w6 := conv_any w6 A6 c6 _ hl6 SQ6.out
  have B6 := Lib.hid (up B5.out hb6 B5.out.size)
  have Z6 := Lib.hid (show (str q6).size ≤ 26 from by rw [str_size]; exact ZQ6.out)
  clear ho6 hl6 hb6 RB cv
  generalize str q6 = s6 at *
  have z3 : ¬ 9223372036854775807 < sp.size + s6.size := by have := Z6.out; have := PZ_.out; omega
  go_wp2_with fail
  go_ret
  exact ⟨by rw [STR.out] <;> rfl, B6.out⟩
set_option maxRecDepth 100000 in
set_option maxHeartbeats 4000000 in
theorem rb_nums (x : Cm) (w : World) (hx : x.Ok) (h : rightM x = true) (hl : x.l.size = 0) (n : Nat) (hu : us x.k = (n, false)) (hn : n ≤ 4) : Calls Tryd.prog 14 #[.agg #[.int .i64 x.s, .int .i64 x.w, .int .i64 x.k, .int .i64 x.a, .int .i64 x.b, .int .i64 x.c, .int .i64 x.d, .string x.t, .string x.l]] w (StrP (str (bytesM x)) w) := by
  have RR := Lib.hid ((right_iff x).1 h)
  have HX := Lib.hid hx
  have WS := Lib.hid (wf_i64 hx.s)
  have WK := Lib.hid (wf_i64 hx.k)
  have L1 := Lib.hid (enc_len WS.out.1 WS.out.2)
  have L2 := Lib.hid (enc_len WK.out.1 WK.out.2)
  have he : x.l.toList.isEmpty = true := by rw [toList_empty]; exact decide_eq_true hl
  have HN := Lib.hid hn
  have WN := Lib.hid (fun i => wf_i64 (NI_wf hx i))
  obtain ⟨sq, hsq⟩ : ∃ sq : Nat → ByteArray, sq = fun i => str (enc x.s) ++ str (enc x.k) ++ str (((fx n false).take i).flatMap (fb x)) := ⟨_, rfl⟩
  have NXF := Lib.hid (show ∀ i, i < n → sq (i + 1) = sq i ++ str (enc (NI x i)) from fun i hi => by
    rw [hsq]
    simp only
    rw [fx_get hn hi, List.flatMap_append, str_app]
    simp only [List.flatMap_cons, List.flatMap_nil, List.append_nil]
    rw [fb_get x (by omega)]
    simp only [ByteArray.append_assoc])
  have SQ0 := Lib.hid (show sq 0 = str (enc x.s) ++ str (enc x.k) from by
    rw [hsq]
    show str (enc x.s) ++ str (enc x.k) ++ str [] = _
    apply ByteArray.ext
    simp [str])
  have SQL := Lib.hid (show ∀ i, (sq i).size ≤ 200 from fun i => by
    rw [hsq]
    simp only
    rw [← str_app, ← str_app, str_size, List.length_append, List.length_append]
    have h1 := flat_len hx (t_len h) ((fx n false).take i)
    have h2 : ((fx n false).take i).length ≤ 4 := by
      have := fx_len n false hn (fun h => by cases h)
      simp at this
      simp
      omega
    have := L1.out
    have := L2.out
    omega)
  have STR := Lib.hid (show str (bytesM x) = sq n from by
    rw [hsq]
    simp only
    unfold bytesM
    rw [if_pos hl, fs_us, hu, str_app, str_app, ByteArray.append_assoc]
    rw [List.take_of_length_le (by rw [fx_len n false hn (fun h => by cases h)]; simp)])
  clear hsq
  have M1 := Lib.hid (made w (.cells #[.int .i64 x.s, .int .i64 x.w, .int .i64 x.k, .int .i64 x.a, .int .i64 x.b, .int .i64 x.c, .int .i64 x.d, .string x.t, .string x.l] 30))
  have bx := Blk.new w 30 #[.int .i64 x.s, .int .i64 x.w, .int .i64 x.k, .int .i64 x.a, .int .i64 x.b, .int .i64 x.c, .int .i64 x.d, .string x.t, .string x.l]
  have BX := Lib.hid bx
  have b0 := bx.cell 0
  have b2 := bx.cell 2
  clear bx hx h
  generalize hw : w.alloc (.cells #[.int .i64 x.s, .int .i64 x.w, .int .i64 x.k, .int .i64 x.a, .int .i64 x.b, .int .i64 x.c, .int .i64 x.d, .string x.t, .string x.l] 30) = w1 at *
  go_enter Tryd.func14, Tryd.ntmps14
  go_upto_region 1 with (rw [hw])
  have BD := Lib.hid (show Blk w1.drew w.heap.size 30 #[.int .i64 x.s, .int .i64 x.w, .int .i64 x.k, .int .i64 x.a, .int .i64 x.b, .int .i64 x.c, .int .i64 x.d, .string x.t, .string x.l] from BX.out.drewN 1)
  have B1 := Lib.hid (show Below w.heap.size w w1.drew from base.below_drewN M1.out 1)
  refine wp_region_held_drew (S := fun ws => True) (by kernel_rfl) trivial (fun hHeld => ?_)
  generalize w1.drew = wa at *
  refine more.any_more (S' := fun ws => (ws.cell? ⟨w.heap.size, 0, none⟩ = some (.int .i64 x.s) ∧ ws.cell? ⟨w.heap.size, 2, none⟩ = some (.int .i64 x.k))) (fun _ _ => trivial) _ _ _ _ ?_
  have SS := Lib.hid (fun ws (h : Below wa.heap.size wa ws) => (show (ws.cell? ⟨w.heap.size, 0, none⟩ = some (.int .i64 x.s) ∧ ws.cell? ⟨w.heap.size, 2, none⟩ = some (.int .i64 x.k)) from ⟨(BD.out.below h BD.out.lt).cell 0, (BD.out.below h BD.out.lt).cell 2⟩))
  have hH0 : (fun ws => (ws.cell? ⟨w.heap.size, 0, none⟩ = some (.int .i64 x.s) ∧ ws.cell? ⟨w.heap.size, 2, none⟩ = some (.int .i64 x.k))) wa := SS.out _ (Below.refl _ _)
  refine wpAnyH_take (i := 0) (v := ?_) rfl (by kernel_rfl) (by kernel_rfl) (by kernel_rfl) (fun _ _ _ h => h) (Or.inl ⟨by rfl, ?_⟩) (by assumption) ?_
  rotate_left
  · (intro w hSw; (try dsimp only at hSw); first | (go_simp; done) | (go_simp; with_reducible rfl))
  simp only [Act.put, List.getElem_toArray, List.getElem_cons_zero, List.getElem_cons_succ, List.setIfInBounds_toArray, List.set_cons_zero, List.set_cons_succ]
  refine wpAnyH_take (i := 1) (v := ?_) rfl (by kernel_rfl) (by kernel_rfl) (by kernel_rfl) (fun _ _ _ h => h) (Or.inl ⟨by rfl, ?_⟩) (by assumption) ?_
  rotate_left
  · (intro w hSw; (try dsimp only at hSw); first | (go_simp; done) | (go_simp; with_reducible rfl))
  simp only [Act.put, List.getElem_toArray, List.getElem_cons_zero, List.getElem_cons_succ, List.setIfInBounds_toArray, List.set_cons_zero, List.set_cons_succ]
  refine wpAnyH_take (i := 4) (v := ?_) rfl (by kernel_rfl) (by kernel_rfl) (by kernel_rfl) (fun _ _ _ h => h) (Or.inl ⟨by rfl, ?_⟩) (by assumption) ?_
  rotate_left
  · (intro w hSw; (try dsimp only at hSw); first | (go_simp; done) | (go_simp; with_reducible rfl))
  simp only [Act.put, List.getElem_toArray, List.getElem_cons_zero, List.getElem_cons_succ, List.setIfInBounds_toArray, List.set_cons_zero, List.set_cons_succ]
  refine wpAnyH_take (i := 5) (v := ?_) rfl (by kernel_rfl) (by kernel_rfl) (by kernel_rfl) (fun _ _ _ h => h) (Or.inl ⟨by rfl, ?_⟩) (by assumption) ?_
  rotate_left
  · (intro w hSw; (try dsimp only at hSw); first | (go_simp; done) | (go_simp; with_reducible rfl))
  simp only [Act.put, List.getElem_toArray, List.getElem_cons_zero, List.getElem_cons_succ, List.setIfInBounds_toArray, List.set_cons_zero, List.set_cons_succ]
  refine wpAnyH_ready (rs := [2]) (by kernel_rfl) (by simp) ?_
  refine AllReadyH.cons rfl (fun K hK => ?_) AllReadyH.nil
  go_simp
  go_wp2_with (go_at_call 35; refine (rint_any x.s wa WS.out.1 WS.out.2).mono ?_; rintro e1 wb ⟨v1, rfl, ho, hb⟩)
  obtain ⟨A1, c1, rfl, hl1, -, -⟩ := ho.lay
  have D1 := Lib.hid hb
  have LY1 := Lib.hid hl1
  have cv1 := fun ws (h : Lay ws A1 (enc x.s)) => conv_any ws A1 c1 (enc x.s) h (enc_small _)
  refine hK.out _ _ (SS.out _ D1.out) (fun hH => ?_)
  clear hK K hHeld hH hH0 ho hb hl1
  refine more.any_more (S' := fun ws => (ws.cell? ⟨w.heap.size, 0, none⟩ = some (.int .i64 x.s) ∧ ws.cell? ⟨w.heap.size, 2, none⟩ = some (.int .i64 x.k)) ∧ (convert 32 9 (.slice A1 (enc x.s).length c1)).run Tryd.prog ws = .ok (.string (str (enc x.s))) ws) (fun _ h => h.1) _ _ _ _ ?_
  have hH1 : (fun ws => (ws.cell? ⟨w.heap.size, 0, none⟩ = some (.int .i64 x.s) ∧ ws.cell? ⟨w.heap.size, 2, none⟩ = some (.int .i64 x.k)) ∧ (convert 32 9 (.slice A1 (enc x.s).length c1)).run Tryd.prog ws = .ok (.string (str (enc x.s))) ws) wb := ⟨SS.out _ D1.out, cv1 _ LY1.out⟩
  refine wpAnyH_take (i := 3) (v := ?_) rfl (by kernel_rfl) (by kernel_rfl) (by kernel_rfl) (fun _ _ _ h => h) (Or.inl ⟨by rfl, ?_⟩) (by assumption) ?_
  rotate_left
  · (intro w hSw; (try dsimp only at hSw); first | (go_simp; done) | (go_simp; with_reducible rfl))
  simp only [Act.put, List.getElem_toArray, List.getElem_cons_zero, List.getElem_cons_succ, List.setIfInBounds_toArray, List.set_cons_zero, List.set_cons_succ]
  refine wpAnyH_ready (rs := [6]) (by kernel_rfl) (by simp) ?_
  refine AllReadyH.cons rfl (fun K hK => ?_) AllReadyH.nil
  go_simp
  go_wp2_with (go_at_call 35; refine (rint_any x.k wb WK.out.1 WK.out.2).mono ?_; rintro e1 wc ⟨v2, rfl, ho, hb⟩)
  obtain ⟨A2, c2, rfl, hl2, -, -⟩ := ho.lay
  have D2 := Lib.hid (up D1.out hb D1.out.size)
  have LY2 := Lib.hid hl2
  have L12 := Lib.hid (LY1.out.below hb)
  have cv2 := fun ws (h : Lay ws A2 (enc x.k)) => conv_any ws A2 c2 (enc x.k) h (enc_small _)
  refine hK.out _ _ ⟨SS.out _ D2.out, cv1 _ L12.out⟩ (fun hH => ?_)
  clear hK K hH hH1 ho hb hl2
  refine more.any_more (S' := fun ws => ((ws.cell? ⟨w.heap.size, 0, none⟩ = some (.int .i64 x.s) ∧ ws.cell? ⟨w.heap.size, 2, none⟩ = some (.int .i64 x.k)) ∧ (convert 32 9 (.slice A1 (enc x.s).length c1)).run Tryd.prog ws = .ok (.string (str (enc x.s))) ws) ∧ (convert 32 9 (.slice A2 (enc x.k).length c2)).run Tryd.prog ws = .ok (.string (str (enc x.k))) ws) (fun _ h => h.1) _ _ _ _ ?_
  have hH2 : (fun ws => ((ws.cell? ⟨w.heap.size, 0, none⟩ = some (.int .i64 x.s) ∧ ws.cell? ⟨w.heap.size, 2, none⟩ = some (.int .i64 x.k)) ∧ (convert 32 9 (.slice A1 (enc x.s).length c1)).run Tryd.prog ws = .ok (.string (str (enc x.s))) ws) ∧ (convert 32 9 (.slice A2 (enc x.k).length c2)).run Tryd.prog ws = .ok (.string (str (enc x.k))) ws) wc := ⟨⟨SS.out _ D2.out, cv1 _ L12.out⟩, cv2 _ LY2.out⟩
  have z1 : ¬ 9223372036854775807 < (str (enc x.s)).size + (str (enc x.k)).size := by rw [str_size, str_size]; have := L1.out; have := L2.out; omega
  refine wpAnyH_take (i := 7) (v := ?_) rfl (by kernel_rfl) (by kernel_rfl) (by kernel_rfl) (fun _ _ _ h => h) (Or.inl ⟨by rfl, ?_⟩) (by assumption) ?_
  rotate_left
  · (intro w hSw; (try dsimp only at hSw); first | (go_simp; done) | (go_simp; with_reducible rfl))
  simp only [Act.put, List.getElem_toArray, List.getElem_cons_zero, List.getElem_cons_succ, List.setIfInBounds_toArray, List.set_cons_zero, List.set_cons_succ]
  refine wpAnyH_take (i := 8) (v := ?_) rfl (by kernel_rfl) (by kernel_rfl) (by kernel_rfl) (fun _ _ _ h => h) (Or.inl ⟨by rfl, ?_⟩) (by assumption) ?_
  rotate_left
  · (intro w hSw; (try dsimp only at hSw); first | (go_simp; done) | (go_simp; with_reducible rfl))
  simp only [Act.put, List.getElem_toArray, List.getElem_cons_zero, List.getElem_cons_succ, List.setIfInBounds_toArray, List.set_cons_zero, List.set_cons_succ]
  refine wpAnyH_take (i := 9) (v := ?_) rfl (by kernel_rfl) (by kernel_rfl) (by kernel_rfl) (fun _ _ _ h => h) (Or.inl ⟨by rfl, ?_⟩) (by assumption) ?_
  rotate_left
  · (intro w hSw; (try dsimp only at hSw); first | (go_simp; done) | (go_simp; with_reducible rfl))
  simp only [Act.put, List.getElem_toArray, List.getElem_cons_zero, List.getElem_cons_succ, List.setIfInBounds_toArray, List.set_cons_zero, List.set_cons_succ]
  refine wpAnyH_done (by kernel_rfl) ?_ _
  clear hH2 z1 cv1 cv2
  have BC := Lib.hid (BD.out.below D2.out BD.out.lt)
  have B4 := Lib.hid (up B1.out D2.out B1.out.size)
  have PZ_ := Lib.hid (show (str (enc x.s) ++ str (enc x.k)).size ≤ 20 from by rw [← str_app, str_size, List.length_append]; have := L1.out; have := L2.out; omega)
  clear SS D1 D2 LY1 LY2 L12 BD B1 hw b0 b2
  generalize str (enc x.s) ++ str (enc x.k) = sp at *
  generalize str (enc x.s) = sp1 at *
  generalize str (enc x.k) = sp2 at *
  have cel2 := BC.out.cell 2
  have US := Lib.hid (uses_any x.k wc)
  generalize wc = w4 at *
  have cel7 := BC.out.cell 7
  have cel8 := BC.out.cell 8
  rw [hu] at US
  dsimp only at US
  have S0_ := SQ0
  clear hu hn
  go_wp2_with fail
  refine US.out.mono ?_
  rintro e1 w5 ⟨rfl, e5⟩
  subst e5
  clear US
  go_wp2_with fail
  go_loopw [3, 6] (fun o j wr => ∃ (i : Nat) (W : World), W = wr ∧ i ≤ n ∧ j = .int .i64 i ∧ o = .string (sq i) ∧ Below w4.heap.size w4 wr) (fun _ j _ => n - (intOf j).toNat)
  case atStart => exact ⟨0, _, rfl, by omega, rfl, by rw [S0_.out], Below.refl _ _⟩
  case round =>
  obtain ⟨i, w6, rfl, hi, rfl, rfl, hb⟩ := hrel
  have B6 := Lib.hid hb
  by_cases hlt : i < n
  · have HI := Lib.hid (And.intro hlt hi)
    rcases (show i = 0 ∨ i = 1 ∨ i = 2 ∨ i = 3 by have := HN.out; omega) with rfl | rfl | rfl | rfl
    · have d3 := (BC.out.below hb BC.out.lt).cell 3
      have RI := Lib.hid (rint_any x.a w6 (WN.out 0).1 (WN.out 0).2)
      have LZ := Lib.hid (enc_len (n := x.a) (WN.out 0).1 (WN.out 0).2)
      have NX := Lib.hid (NXF.out 0 HI.out.1)
      rw [show NI x 0 = x.a from rfl] at NX
      unfold NewB at RI
      clear hb
      go_wp2_with fail
      refine RI.out.mono ?_
      rintro e1 w7 ⟨v7, rfl, ho7, hb7⟩
      obtain ⟨A7, c7, rfl, hl7, -, -⟩ := ho7.lay
      have cv7 : (convert 32 9 (.slice A7 (enc x.a).length c7)).run Tryd.prog w7 = .ok (.string (str (enc x.a))) w7 := conv_any w7 A7 c7 _ hl7 (enc_small _)
      have B7 := Lib.hid (up B6.out hb7 B6.out.size)
      have LQ := Lib.hid (SQL.out 0)
      have NX2 := Lib.hid (show sq (0 + 1) = sq 0 ++ str (enc x.a) from NX.out)
      have ZE := Lib.hid (show (str (enc x.a)).size ≤ 10 from by rw [str_size]; exact LZ.out)
      have z7 : ¬ 9223372036854775807 < (sq 0).size + (str (enc x.a)).size := by have := LQ.out; have := ZE.out; omega
      clear ho7 hl7 hb7 RI d3
      go_wp2_with fail
      exact ⟨⟨0 + 1, _, rfl, HI.out.1, by go_num, by rw [NX2.out], B7.out⟩, by simp [intOf]; omega⟩
    · have d4 := (BC.out.below hb BC.out.lt).cell 4
      have RI := Lib.hid (rint_any x.b w6 (WN.out 1).1 (WN.out 1).2)
      have LZ := Lib.hid (enc_len (n := x.b) (WN.out 1).1 (WN.out 1).2)
      have NX := Lib.hid (NXF.out 1 HI.out.1)
      rw [show NI x 1 = x.b from rfl] at NX
      unfold NewB at RI
      clear hb
      go_wp2_with fail
      refine RI.out.mono ?_
      rintro e1 w7 ⟨v7, rfl, ho7, hb7⟩
      obtain ⟨A7, c7, rfl, hl7, -, -⟩ := ho7.lay
      have cv7 : (convert 32 9 (.slice A7 (enc x.b).length c7)).run Tryd.prog w7 = .ok (.string (str (enc x.b))) w7 := conv_any w7 A7 c7 _ hl7 (enc_small _)
      have B7 := Lib.hid (up B6.out hb7 B6.out.size)
      have LQ := Lib.hid (SQL.out 1)
      have NX2 := Lib.hid (show sq (1 + 1) = sq 1 ++ str (enc x.b) from NX.out)
      have ZE := Lib.hid (show (str (enc x.b)).size ≤ 10 from by rw [str_size]; exact LZ.out)
      have z7 : ¬ 9223372036854775807 < (sq 1).size + (str (enc x.b)).size := by have := LQ.out; have := ZE.out; omega
      clear ho7 hl7 hb7 RI d4
      go_wp2_with fail
      exact ⟨⟨1 + 1, _, rfl, HI.out.1, by go_num, by rw [NX2.out], B7.out⟩, by simp [intOf]; omega⟩
    · have d5 := (BC.out.below hb BC.out.lt).cell 5
      have RI := Lib.hid (rint_any x.c w6 (WN.out 2).1 (WN.out 2).2)
      have LZ := Lib.hid (enc_len (n := x.c) (WN.out 2).1 (WN.out 2).2)
      have NX := Lib.hid (NXF.out 2 HI.out.1)
      rw [show NI x 2 = x.c from rfl] at NX
      unfold NewB at RI
      clear hb
      go_wp2_with fail
      refine RI.out.mono ?_
      rintro e1 w7 ⟨v7, rfl, ho7, hb7⟩
      obtain ⟨A7, c7, rfl, hl7, -, -⟩ := ho7.lay
      have cv7 : (convert 32 9 (.slice A7 (enc x.c).length c7)).run Tryd.prog w7 = .ok (.string (str (enc x.c))) w7 := conv_any w7 A7 c7 _ hl7 (enc_small _)
      have B7 := Lib.hid (up B6.out hb7 B6.out.size)
      have LQ := Lib.hid (SQL.out 2)
      have NX2 := Lib.hid (show sq (2 + 1) = sq 2 ++ str (enc x.c) from NX.out)
      have ZE := Lib.hid (show (str (enc x.c)).size ≤ 10 from by rw [str_size]; exact LZ.out)
      have z7 : ¬ 9223372036854775807 < (sq 2).size + (str (enc x.c)).size := by have := LQ.out; have := ZE.out; omega
      clear ho7 hl7 hb7 RI d5
      go_wp2_with fail
      exact ⟨⟨2 + 1, _, rfl, HI.out.1, by go_num, by rw [NX2.out], B7.out⟩, by simp [intOf]; omega⟩
    · have d6 := (BC.out.below hb BC.out.lt).cell 6
      have RI := Lib.hid (rint_any x.d w6 (WN.out 3).1 (WN.out 3).2)
      have LZ := Lib.hid (enc_len (n := x.d) (WN.out 3).1 (WN.out 3).2)
      have NX := Lib.hid (NXF.out 3 HI.out.1)
      rw [show NI x 3 = x.d from rfl] at NX
      unfold NewB at RI
      clear hb
      go_wp2_with fail
      refine RI.out.mono ?_
      rintro e1 w7 ⟨v7, rfl, ho7, hb7⟩
      obtain ⟨A7, c7, rfl, hl7, -, -⟩ := ho7.lay
      have cv7 : (convert 32 9 (.slice A7 (enc x.d).length c7)).run Tryd.prog w7 = .ok (.string (str (enc x.d))) w7 := conv_any w7 A7 c7 _ hl7 (enc_small _)
      have B7 := Lib.hid (up B6.out hb7 B6.out.size)
      have LQ := Lib.hid (SQL.out 3)
      have NX2 := Lib.hid (show sq (3 + 1) = sq 3 ++ str (enc x.d) from NX.out)
      have ZE := Lib.hid (show (str (enc x.d)).size ≤ 10 from by rw [str_size]; exact LZ.out)
      have z7 : ¬ 9223372036854775807 < (sq 3).size + (str (enc x.d)).size := by have := LQ.out; have := ZE.out; omega
      clear ho7 hl7 hb7 RI d6
      go_wp2_with fail
      exact ⟨⟨3 + 1, _, rfl, HI.out.1, by go_num, by rw [NX2.out], B7.out⟩, by simp [intOf]; omega⟩
  · obtain rfl : i = n := by omega
    clear hb
    go_wp2_with fail
    go_ret
    exact ⟨by rw [STR.out] <;> rfl, up B4.out B6.out B4.out.size⟩
theorem rb_any (x : Cm) (w : World) (hx : x.Ok) (h : rightM x = true) : Calls Tryd.prog 14 #[.agg #[.int .i64 x.s, .int .i64 x.w, .int .i64 x.k, .int .i64 x.a, .int .i64 x.b, .int .i64 x.c, .int .i64 x.d, .string x.t, .string x.l]] w (StrP (str (bytesM x)) w) := by
  by_cases hl : x.l.size = 0
  · have hle := us_le x.k
    cases hu : us x.k with
    | mk n tx =>
      rw [hu] at hle
      dsimp only at hle
      cases tx with
      | true =>
        obtain rfl := hle.2 rfl
        exact rb_text x w hx h hl hu
      | false => exact rb_nums x w hx h hl n hu hle.1
  · exact rb_login x w hx h hl
end Go.Proofs.YtndhammngejdiaaDoor.od
