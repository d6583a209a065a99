/-
  Commands: the bytes of one.
-/
import Derived.Test.YtndhammngejdiaaDoorOrC
import Derived.Test.YtndhammngejdiaaDoorMore

namespace Go.Proofs.YtndhammngejdiaaDoor.od
open Go.RowKit
open base (ret_bool ret_int made up Blk Only Nums)
open bytes (Small small_nil Lay By str Own)
open vi (bs OutAt OutV OutP oint_any otext_any all_any bs_len Apart Nums.far)
open vnum
set_option linter.unusedVariables false
set_option linter.unusedSimpArgs false
def getF (x : Cm) (f : Nat) : Int := if f = 65 then x.a else if f = 66 then x.b else if f = 67 then x.c else x.d
/-- a field's bytes -/
def fb (x : Cm) (f : Nat) : List Nat := if f = 84 then enc (x.t.size : Int) ++ bs x.t else enc (getF x f)
def bytesM (x : Cm) : List Nat := enc x.s ++ (if x.l.size = 0 then enc x.k ++ (fs x.k).flatMap (fb x) else enc 0 ++ (enc (x.l.size : Int) ++ bs x.l))
structure Wf4 (x : Cm) : Prop where
  a : -9223372036854775808 ≤ x.a ∧ x.a ≤ 9223372036854775807
  b : -9223372036854775808 ≤ x.b ∧ x.b ≤ 9223372036854775807
  c : -9223372036854775808 ≤ x.c ∧ x.c ≤ 9223372036854775807
  d : -9223372036854775808 ≤ x.d ∧ x.d ≤ 9223372036854775807
def BytesP (x : Cm) (w : World) (e : Ending) (w' : World) : Prop := Below w.heap.size w w' ∧ ((rightM x = false ∧ e = .returned (.tuple #[.slice none 0 0, .int .i64 10])) ∨ (rightM x = true ∧ ∃ v, e = .returned (.tuple #[v, .int .i64 0]) ∧ Own w' w.heap.size v (bytesM x)))
theorem wf_i64 {n : Int} (h : (Lit.int .i64 n).wf = true) : -9223372036854775808 ≤ n ∧ n ≤ 9223372036854775807 := by
  simp [Lit.wf, IntKind.min, IntKind.max, IntKind.signed, IntKind.bits] at h
  omega
theorem enc10 {n : Int} (h : (Lit.int .i64 n).wf = true) : (enc n).length ≤ 10 := enc_len (wf_i64 h).1 (wf_i64 h).2
theorem getF_wf {x : Cm} (hx : x.Ok) (f : Nat) : (Lit.int .i64 (getF x f)).wf = true := by
  unfold getF
  split
  · exact hx.a
  split
  · exact hx.b
  split
  · exact hx.c
  · exact hx.d
theorem fb_len {x : Cm} (hx : x.Ok) (ht : x.t.size ≤ 16) (f : Nat) : (fb x f).length ≤ 26 := by
  unfold fb
  split
  · have := enc_len (n := (x.t.size : Int)) (by omega) (by omega)
    rw [List.length_append, bs_len]
    omega
  · have := enc10 (getF_wf hx f)
    omega
theorem flat_len {x : Cm} (hx : x.Ok) (ht : x.t.size ≤ 16) : ∀ l : List Nat, (l.flatMap (fb x)).length ≤ 26 * l.length
  | [] => by simp
  | f :: l => by
    have h1 := fb_len hx ht f
    have h2 := flat_len hx ht l
    rw [List.flatMap_cons, List.length_append, List.length_cons]
    omega
theorem flat_next {x : Cm} {l : List Nat} {k : Nat} (h : k < l.length) : (l.take (k + 1)).flatMap (fb x) = (l.take k).flatMap (fb x) ++ fb x l[k] := by
  rw [List.take_succ_eq_append_getElem h, List.flatMap_append]
  simp
theorem right_parts {x : Cm} (h : rightM x = true) : 0 ≤ x.s ∧ x.s ≤ 1048576 ∧ x = plainM x ∧ ((x.l.size = 0 ∧ 1 ≤ x.k ∧ x.k ≤ 27 ∧ x.t.size ≤ 16) ∨ (x.l.size ≠ 0 ∧ nm.okN x.l = true ∧ x.s ≠ 0)) := by
  unfold rightM at h
  split at h
  · cases h
  split at h
  · cases h
  rename_i h1 h2
  have h2 : eqb x (plainM x) = true := by cases q : eqb x (plainM x) with | true => rfl | false => exact absurd q h2
  refine ⟨by omega, by omega, eqb_iff.1 h2, ?_⟩
  split at h
  · rename_i hl
    rw [Bool.and_eq_true, decide_eq_true_eq, decide_eq_true_eq] at h
    exact .inl ⟨hl, h.1.1, h.1.2, h.2⟩
  · rename_i hl
    rw [Bool.and_eq_true, decide_eq_true_eq] at h
    exact .inr ⟨hl, h.1, h.2⟩
theorem login_t {x : Cm} (h : rightM x = true) (hl : x.l.size ≠ 0) : x = ⟨x.s, 0, 0, 0, 0, 0, 0, ⟨#[]⟩, x.l⟩ := by
  have h3 := (right_parts h).2.2.1
  unfold plainM at h3
  rw [if_neg hl] at h3
  exact h3
theorem setF_t (x q : Cm) (f : Nat) (h : f ≠ 84) : (setF x q f).t = q.t := by
  unfold setF
  rw [if_neg h]
  repeat' split
  all_goals rfl
theorem t_len {x : Cm} (h : rightM x = true) : x.t.size ≤ 16 := by
  rcases (right_parts h).2.2.2 with h1 | h1
  · exact h1.2.2.2
  · have := login_t h h1.1
    rw [this]
    exact Nat.zero_le _
set_option maxRecDepth 100000 in
set_option maxHeartbeats 1000000 in
theorem bytes_no (x : Cm) (w : World) (hT : Tab w) (hx : x.Ok) (h : rightM x = false) : Calls Tryd.prog 11 #[.agg #[.int .i64 x.s, .int .i64 x.w, .int .i64 x.k, .int .i64 x.a, .int .i64 x.b, .int .i64 x.c, .int .i64 x.d, .string x.t, .string x.l]] w (BytesP x w) := by
  have M1 := Lib.hid (made w (.cells #[.int .i64 x.s, .int .i64 x.w, .int .i64 x.k, .int .i64 x.a, .int .i64 x.b, .int .i64 x.c, .int .i64 x.d, .string x.t, .string x.l] 25))
  have bx := Blk.new w 25 #[.int .i64 x.s, .int .i64 x.w, .int .i64 x.k, .int .i64 x.a, .int .i64 x.b, .int .i64 x.c, .int .i64 x.d, .string x.t, .string x.l]
  have b0 := bx.cell 0
  have b1 := bx.cell 1
  have b2 := bx.cell 2
  have b3 := bx.cell 3
  have b4 := bx.cell 4
  have b5 := bx.cell 5
  have b6 := bx.cell 6
  have b7 := bx.cell 7
  have b8 := bx.cell 8
  clear bx
  have RA := Lib.hid (right_any x (w.alloc (.cells #[.int .i64 x.s, .int .i64 x.w, .int .i64 x.k, .int .i64 x.a, .int .i64 x.b, .int .i64 x.c, .int .i64 x.d, .string x.t, .string x.l] 25)) (hT.keep M1.out) hx)
  rw [h] at RA
  have HF := Lib.hid h
  unfold BoolP at RA
  clear hT hx h
  generalize hw1 : w.alloc (.cells #[.int .i64 x.s, .int .i64 x.w, .int .i64 x.k, .int .i64 x.a, .int .i64 x.b, .int .i64 x.c, .int .i64 x.d, .string x.t, .string x.l] 25) = w1 at *
  go_enter Tryd.func11, Tryd.ntmps11
  go_wp2_with (rw [hw1])
  refine RA.out.mono ?_
  rintro e w2 ⟨rfl, hb⟩
  have B2 := Lib.hid (up M1.out hb M1.out.size)
  clear hb
  go_wp2_with fail
  go_ret2
  exact ⟨B2.out, .inl ⟨HF.out, rfl⟩⟩
set_option maxRecDepth 100000 in
set_option maxHeartbeats 4000000 in
theorem bytes_login (x : Cm) (w : World) (hT : Tab w) (hx : x.Ok) (h : rightM x = true) (hl : x.l.size ≠ 0) : Calls Tryd.prog 11 #[.agg #[.int .i64 x.s, .int .i64 x.w, .int .i64 x.k, .int .i64 x.a, .int .i64 x.b, .int .i64 x.c, .int .i64 x.d, .string x.t, .string x.l]] w (BytesP x w) := by
  have he : x.l.toList.isEmpty = false := by rw [toList_empty]; exact decide_eq_false hl
  have M1 := Lib.hid (made w (.cells #[.int .i64 x.s, .int .i64 x.w, .int .i64 x.k, .int .i64 x.a, .int .i64 x.b, .int .i64 x.c, .int .i64 x.d, .string x.t, .string x.l] 25))
  have bx := Blk.new w 25 #[.int .i64 x.s, .int .i64 x.w, .int .i64 x.k, .int .i64 x.a, .int .i64 x.b, .int .i64 x.c, .int .i64 x.d, .string x.t, .string x.l]
  have BX := Lib.hid bx
  have b0 := bx.cell 0
  have b1 := bx.cell 1
  have b2 := bx.cell 2
  have b3 := bx.cell 3
  have b4 := bx.cell 4
  have b5 := bx.cell 5
  have b6 := bx.cell 6
  have b7 := bx.cell 7
  have b8 := bx.cell 8
  clear bx
  have RA := Lib.hid (right_any x (w.alloc (.cells #[.int .i64 x.s, .int .i64 x.w, .int .i64 x.k, .int .i64 x.a, .int .i64 x.b, .int .i64 x.c, .int .i64 x.d, .string x.t, .string x.l] 25)) (hT.keep M1.out) hx)
  rw [h] at RA
  have HF := Lib.hid h
  have HX := Lib.hid hx
  have WS := Lib.hid (wf_i64 hx.s)
  have HT := Lib.hid (hT.keep M1.out)
  have TL := Lib.hid (t_len h)
  have LL := Lib.hid (show 1 ≤ x.l.size ∧ x.l.size ≤ 16 from by
    rcases (right_parts h).2.2.2 with h1 | h1
    · exact absurd h1.1 hl
    · exact nm.okN_len h1.2.1)
  have BM := Lib.hid (show bytesM x = enc x.s ++ (enc 0 ++ (enc (x.l.size : Int) ++ bs x.l)) from by unfold bytesM; rw [if_neg hl])
  unfold BoolP at RA
  clear hT hx h
  generalize hw1 : w.alloc (.cells #[.int .i64 x.s, .int .i64 x.w, .int .i64 x.k, .int .i64 x.a, .int .i64 x.b, .int .i64 x.c, .int .i64 x.d, .string x.t, .string x.l] 25) = w1 at *
  go_enter Tryd.func11, Tryd.ntmps11
  go_wp2_with (rw [hw1])
  refine RA.out.mono ?_
  rintro e w2 ⟨rfl, hb⟩
  have B2 := Lib.hid (up M1.out hb M1.out.size)
  have T2 := Lib.hid (HT.out.keep hb)
  have bx2 := BX.out.below hb BX.out.lt
  have BX2 := Lib.hid (show Blk (w2.alloc (.cells #[.slice none 0 0] 58)) w.heap.size 25 #[.int .i64 x.s, .int .i64 x.w, .int .i64 x.k, .int .i64 x.a, .int .i64 x.b, .int .i64 x.c, .int .i64 x.d, .string x.t, .string x.l] from bx2.alloc _)
  have c0 := BX2.out.cell 0
  have c8 := BX2.out.cell 8
  have c2 := BX2.out.cell 2
  have O0 := Lib.hid (OutV.refl (w := w2.alloc (.cells #[.slice none 0 0] 58)) (g := w2.heap.size) (v := .slice none 0 0) (l := []) ⟨Blk.new _ _ _, Own.nil _ _⟩)
  have G2 := Lib.hid (show w.heap.size < w2.heap.size from Nat.lt_of_lt_of_le BX.out.lt hb.size)
  have B3 := Lib.hid (show Below w.heap.size w (w2.alloc (.cells #[.slice none 0 0] 58)) from up B2.out (made w2 _) B2.out.size)
  clear hb b0 b1 b2 b3 b4 b5 b6 b7 b8 hw1 RA HT bx2 hl
  have T3 := Lib.hid (T2.out.keep (made w2 (.cells #[.slice none 0 0] 58)))
  have OI := Lib.hid (oint_any w2.heap.size _ _ x.s (w2.alloc (.cells #[.slice none 0 0] 58)) O0.out.at_ (by simp) WS.out.1 WS.out.2)
  unfold OutP at OI
  go_wp2_with fail
  refine OI.out.mono ?_
  rintro e w4 ⟨rfl, v4, hO⟩
  rw [List.nil_append] at hO
  have O4 := Lib.hid (O0.out.trans hO)
  have BX4 := Lib.hid (show Blk w4 w.heap.size 25 #[.int .i64 x.s, .int .i64 x.w, .int .i64 x.k, .int .i64 x.a, .int .i64 x.b, .int .i64 x.c, .int .i64 x.d, .string x.t, .string x.l] from BX2.out.only O4.out.only (by rintro (e | e); have := G2.out; omega; cases e))
  have ES := Lib.hid (enc_len WS.out.1 WS.out.2)
  have BXF := Lib.hid (fun ws l v (h : OutV (w2.alloc (.cells #[.slice none 0 0] 58)) w2.heap.size none ws l v) => (show Blk ws w.heap.size 25 #[.int .i64 x.s, .int .i64 x.w, .int .i64 x.k, .int .i64 x.a, .int .i64 x.b, .int .i64 x.c, .int .i64 x.d, .string x.t, .string x.l] from BX2.out.only h.only (by rintro (e | e); have := G2.out; omega; cases e)))
  have BWF := Lib.hid (fun ws l v (h : OutV (w2.alloc (.cells #[.slice none 0 0] 58)) w2.heap.size none ws l v) => (show Below w.heap.size w ws from B3.out.trans (h.only.to_below (fun i hi => by rintro (e | e); have := G2.out; omega; cases e) B3.out.size)))
  have B4 := Lib.hid (show Below w.heap.size w w4 from B3.out.trans (O4.out.only.to_below (fun i hi => by rintro (e | e); have := G2.out; omega; cases e) B3.out.size))
  have d8 := BX4.out.cell 8
  have d2 := BX4.out.cell 2
  have T4 := Lib.hid (show Tab w4 from ⟨by have := T3.out.1; have := O4.out.only.size; omega, fun j hj => by rw [← T3.out.2 j hj]; exact World.cell?_of_block (w := _) (a := ⟨0, j, none⟩) (O4.out.only.block 0 T3.out.1 (by rintro (e | e); have := G2.out; omega; cases e))⟩)
  clear hO c0 c2 c8 OI O0
  generalize w2.alloc (.cells #[.slice none 0 0] 58) = w3 at *
  generalize w2.heap.size = g at *
  go_upto_region 6 with fail
  have O5 := Lib.hid (show OutV w3 g none w4.drew (enc x.s) v4 from O4.out.below (Below.refl _ _).drew)
  have d8 := (BX4.out.drewN 1).cell 8
  have B5 := Lib.hid (show Below w.heap.size w w4.drew from base.below_drewN B4.out 1)
  refine wp_region_held_drew (S := fun ws => True) (by kernel_rfl) trivial (fun hHeld => ?_)
  refine more.any_more (S' := fun ws => ws.cell? ⟨w.heap.size, 8, none⟩ = some (.string x.l)) (fun _ _ => trivial) _ _ _ _ ?_
  have hH0 : (fun (ws : World) => ws.cell? ⟨w.heap.size, 8, none⟩ = some (.string x.l)) w4.drew := d8
  generalize w4.drew = w5 at *
  refine wpAnyH_take (i := 1) (v := ?_) rfl (by kernel_rfl) (by kernel_rfl) (by kernel_rfl) (fun _ _ _ h => h) (Or.inl ⟨by rfl, ?_⟩) (by assumption) ?_
  rotate_left
  · (intro w hSw; (try dsimp only at hSw); first | (go_simp; done) | (go_simp; with_reducible rfl))
  simp only [Act.put, List.getElem_toArray, List.getElem_cons_zero, List.getElem_cons_succ, List.setIfInBounds_toArray, List.set_cons_zero, List.set_cons_succ]
  refine wpAnyH_take (i := 2) (v := ?_) rfl (by kernel_rfl) (by kernel_rfl) (by kernel_rfl) (fun _ _ _ h => h) (Or.inl ⟨by rfl, ?_⟩) (by assumption) ?_
  rotate_left
  · (intro w hSw; (try dsimp only at hSw); first | (go_simp; done) | (go_simp; with_reducible rfl))
  simp only [Act.put, List.getElem_toArray, List.getElem_cons_zero, List.getElem_cons_succ, List.setIfInBounds_toArray, List.set_cons_zero, List.set_cons_succ]
  refine wpAnyH_ready (rs := [0]) (by kernel_rfl) (by simp) ?_
  refine AllReadyH.cons rfl (fun K hK => ?_) AllReadyH.nil
  go_simp
  go_wp2_with (go_at_call 24; refine (oint_any g _ _ 0 w5 O5.out.at_ (by have := ES.out; omega) (by omega) (by omega)).mono ?_; rintro e w6 ⟨rfl, v6, hO⟩)
  have O6 := Lib.hid (O5.out.trans hO)
  refine hK.out _ _ ((BXF.out _ _ _ O6.out).cell 8) (fun hH1 => ?_)
  clear hK K hHeld hH0 hO
  refine wpAnyH_ready (rs := [3]) (by kernel_rfl) (by simp) ?_
  refine AllReadyH.cons rfl (fun K hK => ?_) AllReadyH.nil
  go_simp
  go_wp2_with (go_at_call 25; refine (otext_any g _ _ x.l w6 O6.out.at_ (by have := ES.out; have := enc_len (n := 0) (by omega) (by omega); rw [List.length_append]; omega) (by have := LL.out; omega)).mono ?_; rintro e w7 ⟨rfl, v7, hO⟩)
  have O7 := Lib.hid (O6.out.trans hO)
  refine hK.out _ _ ((BXF.out _ _ _ O7.out).cell 8) (fun hH2 => ?_)
  clear hK K hH1 hO
  refine wpAnyH_ready (rs := [4]) (by kernel_rfl) (by simp) ?_
  refine AllReadyH.cons rfl (fun K hK => ?_) AllReadyH.nil
  go_simp
  go_wp2_with (go_at_call 26; refine (all_any g _ _ w7 O7.out.at_ (by have := ES.out; have := LL.out; have := enc_len (n := 0) (by omega) (by omega); have := enc_len (n := (x.l.size : Int)) (by omega) (by omega); simp only [List.length_append, bs_len]; omega)).mono ?_; rintro e w8 ⟨v8, rfl, ho, hb⟩)
  have O8 := Lib.hid (O7.out.below hb)
  have OW := Lib.hid (show Own w8 w.heap.size v8 (bytesM x) from by rw [BM.out, ← List.append_assoc]; exact ho.base (BWF.out _ _ _ O7.out).size)
  refine hK.out _ _ ((BXF.out _ _ _ O8.out).cell 8) (fun hH3 => ?_)
  clear hK K hH2 ho hb
  refine wpAnyH_take (i := 5) (v := ?_) rfl (by kernel_rfl) (by kernel_rfl) (by kernel_rfl) (fun _ _ _ h => h) (Or.inl ⟨by rfl, ?_⟩) (by assumption) ?_
  rotate_left
  · (intro w hSw; (try dsimp only at hSw); first | (go_simp; done) | (go_simp; with_reducible rfl))
  simp only [Act.put, List.getElem_toArray, List.getElem_cons_zero, List.getElem_cons_succ, List.setIfInBounds_toArray, List.set_cons_zero, List.set_cons_succ]
  refine wpAnyH_take (i := 6) (v := ?_) rfl (by kernel_rfl) (by kernel_rfl) (by kernel_rfl) (fun _ _ _ h => h) (Or.inl ⟨by rfl, ?_⟩) (by assumption) ?_
  rotate_left
  · (intro w hSw; (try dsimp only at hSw); first | (go_simp; done) | (go_simp; with_reducible rfl))
  simp only [Act.put, List.getElem_toArray, List.getElem_cons_zero, List.getElem_cons_succ, List.setIfInBounds_toArray, List.set_cons_zero, List.set_cons_succ]
  refine wpAnyH_done (by kernel_rfl) ?_ _
  clear hH3
  go_wp2_with fail
  obtain ⟨A8, n8, c8, rfl⟩ := vi.own_form OW.out
  go_ret2
  exact ⟨BWF.out _ _ _ O8.out, .inr ⟨HF.out, _, rfl, OW.out⟩⟩
set_option maxRecDepth 100000 in
set_option maxHeartbeats 4000000 in
theorem bytes_order (x : Cm) (w : World) (hT : Tab w) (hx : x.Ok) (h : rightM x = true) (hl : x.l.size = 0) : Calls Tryd.prog 11 #[.agg #[.int .i64 x.s, .int .i64 x.w, .int .i64 x.k, .int .i64 x.a, .int .i64 x.b, .int .i64 x.c, .int .i64 x.d, .string x.t, .string x.l]] w (BytesP x w) := by
  have he : x.l.toList.isEmpty = true := by rw [toList_empty]; exact decide_eq_true hl
  have M1 := Lib.hid (made w (.cells #[.int .i64 x.s, .int .i64 x.w, .int .i64 x.k, .int .i64 x.a, .int .i64 x.b, .int .i64 x.c, .int .i64 x.d, .string x.t, .string x.l] 25))
  have bx := Blk.new w 25 #[.int .i64 x.s, .int .i64 x.w, .int .i64 x.k, .int .i64 x.a, .int .i64 x.b, .int .i64 x.c, .int .i64 x.d, .string x.t, .string x.l]
  have BX := Lib.hid bx
  have b0 := bx.cell 0
  have b1 := bx.cell 1
  have b2 := bx.cell 2
  have b3 := bx.cell 3
  have b4 := bx.cell 4
  have b5 := bx.cell 5
  have b6 := bx.cell 6
  have b7 := bx.cell 7
  have b8 := bx.cell 8
  clear bx
  have RA := Lib.hid (right_any x (w.alloc (.cells #[.int .i64 x.s, .int .i64 x.w, .int .i64 x.k, .int .i64 x.a, .int .i64 x.b, .int .i64 x.c, .int .i64 x.d, .string x.t, .string x.l] 25)) (hT.keep M1.out) hx)
  rw [h] at RA
  have HF := Lib.hid h
  have HX := Lib.hid hx
  have WS := Lib.hid (wf_i64 hx.s)
  have HT := Lib.hid (hT.keep M1.out)
  have TL := Lib.hid (t_len h)
  have WK := Lib.hid (wf_i64 hx.k)
  have WF := Lib.hid (show Wf4 x from ⟨wf_i64 hx.a, wf_i64 hx.b, wf_i64 hx.c, wf_i64 hx.d⟩)
  have BM := Lib.hid (show bytesM x = (enc x.s ++ enc x.k) ++ (fs x.k).flatMap (fb x) from by unfold bytesM; rw [if_pos hl, List.append_assoc])
  unfold BoolP at RA
  clear hT hx h
  generalize hw1 : w.alloc (.cells #[.int .i64 x.s, .int .i64 x.w, .int .i64 x.k, .int .i64 x.a, .int .i64 x.b, .int .i64 x.c, .int .i64 x.d, .string x.t, .string x.l] 25) = w1 at *
  go_enter Tryd.func11, Tryd.ntmps11
  go_wp2_with (rw [hw1])
  refine RA.out.mono ?_
  rintro e w2 ⟨rfl, hb⟩
  have B2 := Lib.hid (up M1.out hb M1.out.size)
  have T2 := Lib.hid (HT.out.keep hb)
  have bx2 := BX.out.below hb BX.out.lt
  have BX2 := Lib.hid (show Blk (w2.alloc (.cells #[.slice none 0 0] 58)) w.heap.size 25 #[.int .i64 x.s, .int .i64 x.w, .int .i64 x.k, .int .i64 x.a, .int .i64 x.b, .int .i64 x.c, .int .i64 x.d, .string x.t, .string x.l] from bx2.alloc _)
  have c0 := BX2.out.cell 0
  have c8 := BX2.out.cell 8
  have c2 := BX2.out.cell 2
  have O0 := Lib.hid (OutV.refl (w := w2.alloc (.cells #[.slice none 0 0] 58)) (g := w2.heap.size) (v := .slice none 0 0) (l := []) ⟨Blk.new _ _ _, Own.nil _ _⟩)
  have G2 := Lib.hid (show w.heap.size < w2.heap.size from Nat.lt_of_lt_of_le BX.out.lt hb.size)
  have B3 := Lib.hid (show Below w.heap.size w (w2.alloc (.cells #[.slice none 0 0] 58)) from up B2.out (made w2 _) B2.out.size)
  clear hb b0 b1 b2 b3 b4 b5 b6 b7 b8 hw1 RA HT bx2 hl
  have T3 := Lib.hid (T2.out.keep (made w2 (.cells #[.slice none 0 0] 58)))
  have OI := Lib.hid (oint_any w2.heap.size _ _ x.s (w2.alloc (.cells #[.slice none 0 0] 58)) O0.out.at_ (by simp) WS.out.1 WS.out.2)
  unfold OutP at OI
  go_wp2_with fail
  refine OI.out.mono ?_
  rintro e w4 ⟨rfl, v4, hO⟩
  rw [List.nil_append] at hO
  have O4 := Lib.hid (O0.out.trans hO)
  have BX4 := Lib.hid (show Blk w4 w.heap.size 25 #[.int .i64 x.s, .int .i64 x.w, .int .i64 x.k, .int .i64 x.a, .int .i64 x.b, .int .i64 x.c, .int .i64 x.d, .string x.t, .string x.l] from BX2.out.only O4.out.only (by rintro (e | e); have := G2.out; omega; cases e))
  have ES := Lib.hid (enc_len WS.out.1 WS.out.2)
  have BXF := Lib.hid (fun ws l v (h : OutV (w2.alloc (.cells #[.slice none 0 0] 58)) w2.heap.size none ws l v) => (show Blk ws w.heap.size 25 #[.int .i64 x.s, .int .i64 x.w, .int .i64 x.k, .int .i64 x.a, .int .i64 x.b, .int .i64 x.c, .int .i64 x.d, .string x.t, .string x.l] from BX2.out.only h.only (by rintro (e | e); have := G2.out; omega; cases e)))
  have BWF := Lib.hid (fun ws l v (h : OutV (w2.alloc (.cells #[.slice none 0 0] 58)) w2.heap.size none ws l v) => (show Below w.heap.size w ws from B3.out.trans (h.only.to_below (fun i hi => by rintro (e | e); have := G2.out; omega; cases e) B3.out.size)))
  have B4 := Lib.hid (show Below w.heap.size w w4 from B3.out.trans (O4.out.only.to_below (fun i hi => by rintro (e | e); have := G2.out; omega; cases e) B3.out.size))
  have d8 := BX4.out.cell 8
  have d2 := BX4.out.cell 2
  have T4 := Lib.hid (show Tab w4 from ⟨by have := T3.out.1; have := O4.out.only.size; omega, fun j hj => by rw [← T3.out.2 j hj]; exact World.cell?_of_block (w := _) (a := ⟨0, j, none⟩) (O4.out.only.block 0 T3.out.1 (by rintro (e | e); have := G2.out; omega; cases e))⟩)
  clear hO c0 c2 c8 OI O0
  generalize w2.alloc (.cells #[.slice none 0 0] 58) = w3 at *
  generalize w2.heap.size = g at *
  have EK := Lib.hid (enc_len WK.out.1 WK.out.2)
  have TBF := Lib.hid (fun ws l v (h : OutV w3 g none ws l v) => (show Tab ws from ⟨by have := T3.out.1; have := h.only.size; omega, fun j hj => by rw [← T3.out.2 j hj]; exact World.cell?_of_block (w := _) (a := ⟨0, j, none⟩) (h.only.block 0 T3.out.1 (by rintro (e | e); have := G2.out; omega; cases e))⟩))
  have OK := Lib.hid (oint_any g _ _ x.k w4 O4.out.at_ (by have := ES.out; omega) WK.out.1 WK.out.2)
  unfold OutP at OK
  go_wp2_with fail
  refine OK.out.mono ?_
  rintro e w5 ⟨rfl, v5, hO⟩
  have O5 := Lib.hid (O4.out.trans hO)
  have FI := Lib.hid (fields_any x.k w5 (TBF.out _ _ _ O5.out))
  have e2 := (BXF.out _ _ _ O5.out).cell 2
  clear hO OK d2 d8
  go_wp2_with fail
  refine FI.out.mono ?_
  rintro e w6 ⟨rfl, e6⟩
  subst e6
  have cv := run_bytes_of_string (P := Tryd.prog) w5 9 32 5 (str (fs x.k)) Tryd.underlying9 Tryd.underlying32 Tryd.underlying5
  generalize grownCap w5 (str (fs x.k)).size 0 5 = cap at cv
  have LB0 := vi.bytes_of w5 (str (fs x.k)) cap ((bytesRow (str (fs x.k)) cap).size, (bytesRow (str (fs x.k)) cap).size + 1)
  rw [bs_str (fs_small _)] at LB0
  have LB := Lib.hid LB0
  have O6 := Lib.hid (show OutV w3 g none (w5.drew.alloc (.cells (bytesRow (str (fs x.k)) cap) 5 ((bytesRow (str (fs x.k)) cap).size, (bytesRow (str (fs x.k)) cap).size + 1))) (enc x.s ++ enc x.k) v5 from O5.out.below ((Below.refl _ _).drew.alloc (Nat.le_refl _) _))
  have AP := Lib.hid (show Apart (w5.drew.alloc (.cells (bytesRow (str (fs x.k)) cap) 5 ((bytesRow (str (fs x.k)) cap).size, (bytesRow (str (fs x.k)) cap).size + 1))) g v5.ownBlock (some ⟨w5.heap.size, 0, none⟩) from fun ad e => by
    injection e with e
    subst e
    refine ⟨by show w5.heap.size < _; rw [asz]; exact Nat.lt_succ_self _, ?_, fun e3 => ?_⟩
    · show w5.heap.size ≠ g
      have := O5.out.at_.1.lt
      omega
    · have := (O5.out.at_.2.lt w5.heap.size e3.symm).2
      omega)
  have FM := Lib.hid (fun f (h : f ∈ fs x.k) => fs_mem h)
  have FL := Lib.hid (fs_len x.k)
  have NX := Lib.hid (fun k (h : k < (fs x.k).length) => flat_next (x := x) h)
  have LNF := Lib.hid (fun k => (show (enc x.s ++ enc x.k ++ ((fs x.k).take k).flatMap (fb x)).length ≤ 200 from by
    have h1 := flat_len HX.out TL.out ((fs x.k).take k)
    have h2 : ((fs x.k).take k).length ≤ 4 := by have := fs_len x.k; simp; omega
    have := ES.out
    have := EK.out
    simp only [List.length_append]
    omega))
  rw [str_size] at cv
  clear LB0 e2 FI
  generalize w5.drew.alloc (.cells (bytesRow (str (fs x.k)) cap) 5 ((bytesRow (str (fs x.k)) cap).size, (bytesRow (str (fs x.k)) cap).size + 1)) = w6 at *
  generalize str (fs x.k) = sq at *
  generalize fs x.k = l at *
  generalize w5.heap.size = b6 at *
  go_wp2_with fail
  go_loopw [31] (fun i wr => ∃ (k : Nat) (W : World) (v : Value), W = wr ∧ k ≤ l.length ∧ i = .int .i64 k ∧ OutV w6 g v5.ownBlock wr (enc x.s ++ enc x.k ++ (l.take k).flatMap (fb x)) v) (fun i _ => l.length - (intOf i).toNat)
  case atStart => exact ⟨0, _, _, rfl, by omega, rfl, by rw [List.take_zero, List.flatMap_nil, List.append_nil]; exact OutV.refl O6.out.at_⟩
  case round =>
  obtain ⟨k, w7, v7, rfl, hk, rfl, hO7⟩ := hrel
  have O7 := Lib.hid hO7
  have hk4 : k ≤ 4 := by have := FL.out; omega
  by_cases hkl : k < l.length
  · have L7 : Lay w7 (some ⟨b6, 0, none⟩) l := Nums.far LB.out (fun _ => AP.out) hO7.only
    obtain ⟨b, off, e, _, hc⟩ := L7.at_ hkl
    injection e with e
    injection e with e1 e2
    subst e1 e2
    rw [Nat.zero_add] at hc
    have HKL := Lib.hid hkl
    have FN0 := NX.out k hkl
    have FM0 := FM.out _ (List.getElem_mem hkl)
    have e : l.getD k 0 = l[k] := by rw [List.getD_eq_getElem?_getD, List.getElem?_eq_getElem hkl]; rfl
    rw [e] at hc
    generalize l[k] = f at *
    have FN := Lib.hid (fun wr v (h : OutV w6 g v5.ownBlock wr (enc x.s ++ enc x.k ++ (l.take k).flatMap (fb x) ++ fb x f) v) => (show OutV w6 g v5.ownBlock wr (enc x.s ++ enc x.k ++ (l.take (k + 1)).flatMap (fb x)) v from by rw [FN0, ← List.append_assoc]; exact h))
    have LN := Lib.hid (LNF.out k)
    clear hO7 FN0 e L7
    rcases FM0 with rfl | rfl | rfl | rfl | rfl
    · have NA := Lib.hid (number_any w.heap.size 65 w7 (by omega))
      rw [show oi 65 = 3 from rfl, show ((65 : Nat) : Int) = 65 from rfl] at NA
      rw [show ((65 : Nat) : Int) = 65 from rfl] at hc
      have OI := Lib.hid (oint_any g _ _ x.a w7 O7.out.at_ (by have := LN.out; omega) WF.out.a.1 WF.out.a.2)
      unfold OutP at OI
      have d3 := (BXF.out _ _ _ (O6.out.trans O7.out)).cell 3
      go_wp2_with fail
      refine NA.out.mono ?_
      rintro e w8 ⟨rfl, e8⟩
      subst e8
      go_wp2_with fail
      refine OI.out.mono ?_
      rintro e w8 ⟨rfl, v8, hO⟩
      have O8 := Lib.hid (FN.out _ _ (O7.out.trans hO))
      clear hO OI NA d3
      go_wp2_with fail
      exact ⟨⟨k + 1, _, _, rfl, by have := HKL.out; omega, by go_num, O8.out⟩, by have := HKL.out; simp [intOf]; omega⟩
    · have NA := Lib.hid (number_any w.heap.size 66 w7 (by omega))
      rw [show oi 66 = 4 from rfl, show ((66 : Nat) : Int) = 66 from rfl] at NA
      rw [show ((66 : Nat) : Int) = 66 from rfl] at hc
      have OI := Lib.hid (oint_any g _ _ x.b w7 O7.out.at_ (by have := LN.out; omega) WF.out.b.1 WF.out.b.2)
      unfold OutP at OI
      have d4 := (BXF.out _ _ _ (O6.out.trans O7.out)).cell 4
      go_wp2_with fail
      refine NA.out.mono ?_
      rintro e w8 ⟨rfl, e8⟩
      subst e8
      go_wp2_with fail
      refine OI.out.mono ?_
      rintro e w8 ⟨rfl, v8, hO⟩
      have O8 := Lib.hid (FN.out _ _ (O7.out.trans hO))
      clear hO OI NA d4
      go_wp2_with fail
      exact ⟨⟨k + 1, _, _, rfl, by have := HKL.out; omega, by go_num, O8.out⟩, by have := HKL.out; simp [intOf]; omega⟩
    · have NA := Lib.hid (number_any w.heap.size 67 w7 (by omega))
      rw [show oi 67 = 5 from rfl, show ((67 : Nat) : Int) = 67 from rfl] at NA
      rw [show ((67 : Nat) : Int) = 67 from rfl] at hc
      have OI := Lib.hid (oint_any g _ _ x.c w7 O7.out.at_ (by have := LN.out; omega) WF.out.c.1 WF.out.c.2)
      unfold OutP at OI
      have d5 := (BXF.out _ _ _ (O6.out.trans O7.out)).cell 5
      go_wp2_with fail
      refine NA.out.mono ?_
      rintro e w8 ⟨rfl, e8⟩
      subst e8
      go_wp2_with fail
      refine OI.out.mono ?_
      rintro e w8 ⟨rfl, v8, hO⟩
      have O8 := Lib.hid (FN.out _ _ (O7.out.trans hO))
      clear hO OI NA d5
      go_wp2_with fail
      exact ⟨⟨k + 1, _, _, rfl, by have := HKL.out; omega, by go_num, O8.out⟩, by have := HKL.out; simp [intOf]; omega⟩
    · have NA := Lib.hid (number_any w.heap.size 68 w7 (by omega))
      rw [show oi 68 = 6 from rfl, show ((68 : Nat) : Int) = 68 from rfl] at NA
      rw [show ((68 : Nat) : Int) = 68 from rfl] at hc
      have OI := Lib.hid (oint_any g _ _ x.d w7 O7.out.at_ (by have := LN.out; omega) WF.out.d.1 WF.out.d.2)
      unfold OutP at OI
      have d6 := (BXF.out _ _ _ (O6.out.trans O7.out)).cell 6
      go_wp2_with fail
      refine NA.out.mono ?_
      rintro e w8 ⟨rfl, e8⟩
      subst e8
      go_wp2_with fail
      refine OI.out.mono ?_
      rintro e w8 ⟨rfl, v8, hO⟩
      have O8 := Lib.hid (FN.out _ _ (O7.out.trans hO))
      clear hO OI NA d6
      go_wp2_with fail
      exact ⟨⟨k + 1, _, _, rfl, by have := HKL.out; omega, by go_num, O8.out⟩, by have := HKL.out; simp [intOf]; omega⟩
    · rw [show ((84 : Nat) : Int) = 84 from rfl] at hc
      have OI := Lib.hid (otext_any g _ _ x.t w7 O7.out.at_ (by have := LN.out; omega) (by have := TL.out; omega))
      unfold OutP at OI
      have d7 := (BXF.out _ _ _ (O6.out.trans O7.out)).cell 7
      go_wp2_with fail
      refine OI.out.mono ?_
      rintro e w8 ⟨rfl, v8, hO⟩
      have O8 := Lib.hid (FN.out _ _ (O7.out.trans hO))
      clear hO OI d7
      go_wp2_with fail
      exact ⟨⟨k + 1, _, _, rfl, by have := HKL.out; omega, by go_num, O8.out⟩, by have := HKL.out; simp [intOf]; omega⟩
  · obtain rfl : k = l.length := by omega
    rw [List.take_length, ← BM.out] at hO7
    have LN := Lib.hid (show (bytesM x).length ≤ 200 from by have := LNF.out l.length; rwa [List.take_length, ← BM.out] at this)
    have AL := Lib.hid (all_any g _ _ w7 hO7.at_ (by have := LN.out; omega))
    have OF := Lib.hid (O6.out.trans hO7)
    clear hO7 O7 hkl hk hk4
    go_wp2_with fail
    refine AL.out.mono ?_
    rintro e w8 ⟨v8, rfl, ho, hb⟩
    have OW := Lib.hid (show Own w8 w.heap.size v8 (bytesM x) from ho.base (BWF.out _ _ _ OF.out).size)
    have O8 := Lib.hid (OF.out.below hb)
    obtain ⟨A8, n8, c8, rfl⟩ := vi.own_form ho
    clear ho hb AL
    go_wp2_with fail
    go_ret2
    exact ⟨BWF.out _ _ _ O8.out, .inr ⟨HF.out, _, rfl, OW.out⟩⟩
theorem bytes_any (x : Cm) (w : World) (hT : Tab w) (hx : x.Ok) : Calls Tryd.prog 11 #[.agg #[.int .i64 x.s, .int .i64 x.w, .int .i64 x.k, .int .i64 x.a, .int .i64 x.b, .int .i64 x.c, .int .i64 x.d, .string x.t, .string x.l]] w (BytesP x w) := by
  cases h : rightM x with
  | false => exact bytes_no x w hT hx h
  | true =>
    by_cases hl : x.l.size = 0
    · exact bytes_order x w hT hx h hl
    · exact bytes_login x w hT hx h hl
end Go.Proofs.YtndhammngejdiaaDoor.od
