/-
  Replies: their bytes, and what bytes are read as.
-/
import Derived.Test.YtndhammngejdiaaDoorOrG
import Derived.Test.YtndhammngejdiaaDoorIntsZ

namespace Go.Proofs.YtndhammngejdiaaDoor.od
open Go.RowKit
open base (ret_bool ret_int made up Blk Only Nums)
open bytes (Small small_nil small_app small_drop small_take Lay By str Own)
open vi (bs bs_len cnt cnt_some rdN rdN_len rdN_encs rdN_flat I64 encs flat OutV OutP oint_any oints_any all_any Apart NewB InAt NewInP newin_any intsz_bad intsz_fail IntsZ ints_yes IntsP OnI count_bad count_no BadP)
open vnum
set_option linter.unusedVariables false
set_option linter.unusedSimpArgs false
def replyb (e n : Int) (zs : List Int) : List Nat := enc e ++ (enc n ++ encs zs)
def W64 (n : Int) : Prop := -9223372036854775808 ≤ n ∧ n ≤ 9223372036854775807
theorem encs_len {zs : List Int} (hz : ∀ z ∈ zs, I64 z) (hm : zs.length ≤ 5000) : (encs zs).length ≤ 50010 := by
  unfold encs
  have h1 := enc_len (n := (zs.length : Int)) (by omega) (by omega)
  have h2 := vi.flat_len zs hz
  rw [List.length_append]
  omega
variable {w : World}
theorem nums_apart {g : Nat} {r : Option Nat} {A : Option Addr} {zs : List Int} {w' : World} (h : Nums .i64 w A zs) (hs : w.heap.size ≤ w'.heap.size) (hg : w.heap.size ≤ g) (hr : ∀ j, r = some j → w.heap.size ≤ j) : 0 < zs.length → Apart w' g r A := fun h0 ad e => by
  obtain ⟨b, off, e2, hlt, _⟩ := h h0
  rw [e2] at e
  injection e with e
  subst e
  refine ⟨by show b < _; omega, by show b ≠ g; omega, fun e3 => ?_⟩
  have := hr b e3.symm
  omega
set_option maxRecDepth 100000 in
set_option maxHeartbeats 2000000 in
theorem reply_any (A : Option Addr) (c : Nat) (zs : List Int) (e n : Int) (w : World) (hN : Nums .i64 w A zs) (hz : ∀ z ∈ zs, I64 z) (he : W64 e) (hn : W64 n) (hm : zs.length ≤ 5000) :
    Calls Tryd.prog 15 #[.agg #[.int .i64 e, .int .i64 n, .slice A zs.length c]] w (NewB (replyb e n zs) w) := by
  have M1 := Lib.hid (made w (.cells #[.int .i64 e, .int .i64 n, .slice A zs.length c] 44))
  have S1 := Lib.hid (asz w (.cells #[.int .i64 e, .int .i64 n, .slice A zs.length c] 44))
  have BX := Lib.hid (show Blk ((w.alloc (.cells #[.int .i64 e, .int .i64 n, .slice A zs.length c] 44)).alloc (.cells #[.slice none 0 0] 58)) w.heap.size 44 #[.int .i64 e, .int .i64 n, .slice A zs.length c] from (Blk.new _ _ _).alloc _)
  have O0 := Lib.hid (OutV.refl (w := (w.alloc (.cells #[.int .i64 e, .int .i64 n, .slice A zs.length c] 44)).alloc (.cells #[.slice none 0 0] 58)) (g := (w.alloc (.cells #[.int .i64 e, .int .i64 n, .slice A zs.length c] 44)).heap.size) (v := .slice none 0 0) (l := []) ⟨Blk.new _ _ _, Own.nil _ _⟩)
  have M2 := Lib.hid (show Below w.heap.size w ((w.alloc (.cells #[.int .i64 e, .int .i64 n, .slice A zs.length c] 44)).alloc (.cells #[.slice none 0 0] 58)) from up M1.out (made _ _) M1.out.size)
  have NN := Lib.hid hN
  have HZ := Lib.hid hz
  have HE := Lib.hid he
  have HN := Lib.hid hn
  have EL := Lib.hid (encs_len hz hm)
  clear hN hz he hn
  rw [S1.out] at O0
  go_enter Tryd.func15, Tryd.ntmps15
  go_upto_region 2 with fail
  have O1 := Lib.hid (show OutV ((w.alloc (.cells #[.int .i64 e, .int .i64 n, .slice A zs.length c] 44)).alloc (.cells #[.slice none 0 0] 58)) (w.heap.size + 1) none ((w.alloc (.cells #[.int .i64 e, .int .i64 n, .slice A zs.length c] 44)).alloc (.cells #[.slice none 0 0] 58)).drew [] (.slice none 0 0) from O0.out.below (Below.refl _ _).drew)
  have BD := Lib.hid (show Blk ((w.alloc (.cells #[.int .i64 e, .int .i64 n, .slice A zs.length c] 44)).alloc (.cells #[.slice none 0 0] 58)).drew w.heap.size 44 #[.int .i64 e, .int .i64 n, .slice A zs.length c] from BX.out.drewN 1)
  have BF := Lib.hid (fun ws l v (h : OutV ((w.alloc (.cells #[.int .i64 e, .int .i64 n, .slice A zs.length c] 44)).alloc (.cells #[.slice none 0 0] 58)) (w.heap.size + 1) none ws l v) => (show Blk ws w.heap.size 44 #[.int .i64 e, .int .i64 n, .slice A zs.length c] from BX.out.only h.only (by rintro (e | e); omega; cases e)))
  have BW := Lib.hid (fun ws l v (h : OutV ((w.alloc (.cells #[.int .i64 e, .int .i64 n, .slice A zs.length c] 44)).alloc (.cells #[.slice none 0 0] 58)) (w.heap.size + 1) none ws l v) => (show Below w.heap.size w ws from M2.out.trans (h.only.to_below (fun i hi => by rintro (e | e); omega; cases e) M2.out.size)))
  have RG := Lib.hid (fun ws l v (h : OutV ((w.alloc (.cells #[.int .i64 e, .int .i64 n, .slice A zs.length c] 44)).alloc (.cells #[.slice none 0 0] 58)) (w.heap.size + 1) none ws l v) => (show ∀ j, v.ownBlock = some j → w.heap.size ≤ j from fun j hj => by
    rcases h.row with e | ⟨i, e, hi⟩
    · rw [e] at hj; cases hj
    · rw [e] at hj
      injection hj with hj
      subst hj
      have := M2.out.size
      omega))
  refine wp_region_held_drew (S := fun ws => ws.cell? ⟨w.heap.size, 0, none⟩ = some (.int .i64 e) ∧ ws.cell? ⟨w.heap.size, 1, none⟩ = some (.int .i64 n) ∧ ws.cell? ⟨w.heap.size, 2, none⟩ = some (.slice A zs.length c)) (by kernel_rfl) ⟨BD.out.cell 0, BD.out.cell 1, BD.out.cell 2⟩ (fun hHeld => ?_)
  generalize ((w.alloc (.cells #[.int .i64 e, .int .i64 n, .slice A zs.length c] 44)).alloc (.cells #[.slice none 0 0] 58)).drew = w2 at *
  refine wpAnyH_take (i := 0) (v := ?_) rfl (by kernel_rfl) (by kernel_rfl) (by kernel_rfl) (fun _ _ _ h => h) (Or.inl ⟨by rfl, ?_⟩) (by assumption) ?_
  rotate_left
  · (intro w hSw; (try dsimp only at hSw); first | (go_simp; done) | (go_simp; with_reducible rfl))
  simp only [Act.put, List.getElem_toArray, List.getElem_cons_zero, List.getElem_cons_succ, List.setIfInBounds_toArray, List.set_cons_zero, List.set_cons_succ]
  refine wpAnyH_take (i := 1) (v := ?_) rfl (by kernel_rfl) (by kernel_rfl) (by kernel_rfl) (fun _ _ _ h => h) (Or.inl ⟨by rfl, ?_⟩) (by assumption) ?_
  rotate_left
  · (intro w hSw; (try dsimp only at hSw); first | (go_simp; done) | (go_simp; with_reducible rfl))
  simp only [Act.put, List.getElem_toArray, List.getElem_cons_zero, List.getElem_cons_succ, List.setIfInBounds_toArray, List.set_cons_zero, List.set_cons_succ]
  refine wpAnyH_take (i := 3) (v := ?_) rfl (by kernel_rfl) (by kernel_rfl) (by kernel_rfl) (fun _ _ _ h => h) (Or.inl ⟨by rfl, ?_⟩) (by assumption) ?_
  rotate_left
  · (intro w hSw; (try dsimp only at hSw); first | (go_simp; done) | (go_simp; with_reducible rfl))
  simp only [Act.put, List.getElem_toArray, List.getElem_cons_zero, List.getElem_cons_succ, List.setIfInBounds_toArray, List.set_cons_zero, List.set_cons_succ]
  refine wpAnyH_take (i := 4) (v := ?_) rfl (by kernel_rfl) (by kernel_rfl) (by kernel_rfl) (fun _ _ _ h => h) (Or.inl ⟨by rfl, ?_⟩) (by assumption) ?_
  rotate_left
  · (intro w hSw; (try dsimp only at hSw); first | (go_simp; done) | (go_simp; with_reducible rfl))
  simp only [Act.put, List.getElem_toArray, List.getElem_cons_zero, List.getElem_cons_succ, List.setIfInBounds_toArray, List.set_cons_zero, List.set_cons_succ]
  refine wpAnyH_take (i := 6) (v := ?_) rfl (by kernel_rfl) (by kernel_rfl) (by kernel_rfl) (fun _ _ _ h => h) (Or.inl ⟨by rfl, ?_⟩) (by assumption) ?_
  rotate_left
  · (intro w hSw; (try dsimp only at hSw); first | (go_simp; done) | (go_simp; with_reducible rfl))
  simp only [Act.put, List.getElem_toArray, List.getElem_cons_zero, List.getElem_cons_succ, List.setIfInBounds_toArray, List.set_cons_zero, List.set_cons_succ]
  refine wpAnyH_take (i := 7) (v := ?_) rfl (by kernel_rfl) (by kernel_rfl) (by kernel_rfl) (fun _ _ _ h => h) (Or.inl ⟨by rfl, ?_⟩) (by assumption) ?_
  rotate_left
  · (intro w hSw; (try dsimp only at hSw); first | (go_simp; done) | (go_simp; with_reducible rfl))
  simp only [Act.put, List.getElem_toArray, List.getElem_cons_zero, List.getElem_cons_succ, List.setIfInBounds_toArray, List.set_cons_zero, List.set_cons_succ]
  refine wpAnyH_ready (rs := [2]) (by kernel_rfl) (by simp) ?_
  refine AllReadyH.cons rfl (fun K hK => ?_) AllReadyH.nil
  go_simp
  go_wp2_with (go_at_call 24; refine (oint_any (w.heap.size + 1) _ _ e w2 O1.out.at_ (by simp) HE.out.1 HE.out.2).mono ?_; rintro e1 w3 ⟨rfl, v3, hO⟩)
  rw [List.nil_append] at hO
  have O3 := Lib.hid (O1.out.trans hO)
  have L3 := Lib.hid (enc_len HE.out.1 HE.out.2)
  refine hK.out _ _ ⟨(BF.out _ _ _ O3.out).cell 0, (BF.out _ _ _ O3.out).cell 1, (BF.out _ _ _ O3.out).cell 2⟩ (fun hH1 => ?_)
  clear hK K hHeld hO
  refine wpAnyH_ready (rs := [5]) (by kernel_rfl) (by simp) ?_
  refine AllReadyH.cons rfl (fun K hK => ?_) AllReadyH.nil
  go_simp
  go_wp2_with (go_at_call 24; refine (oint_any (w.heap.size + 1) _ _ n w3 O3.out.at_ (by have := L3.out; omega) HN.out.1 HN.out.2).mono ?_; rintro e1 w4 ⟨rfl, v4, hO⟩)
  have O4 := Lib.hid (O3.out.trans hO)
  have L4 := Lib.hid (enc_len HN.out.1 HN.out.2)
  refine hK.out _ _ ⟨(BF.out _ _ _ O4.out).cell 0, (BF.out _ _ _ O4.out).cell 1, (BF.out _ _ _ O4.out).cell 2⟩ (fun hH2 => ?_)
  clear hK K hH1 hO
  refine wpAnyH_ready (rs := [8]) (by kernel_rfl) (by simp) ?_
  refine AllReadyH.cons rfl (fun K hK => ?_) AllReadyH.nil
  go_simp
  go_wp2_with (go_at_call 37; refine (oints_any (w.heap.size + 1) _ _ A c zs w4 O4.out.at_ (base.Nums.keep NN.out (BW.out _ _ _ O4.out)) (nums_apart NN.out (BW.out _ _ _ O4.out).size (Nat.le_succ _) (RG.out _ _ _ O4.out)) HZ.out (by have := L3.out; have := L4.out; rw [List.length_append]; omega) (by omega)).mono ?_; rintro e1 w5 ⟨rfl, v5, hO⟩)
  have O5 := Lib.hid (O4.out.trans hO)
  refine hK.out _ _ ⟨(BF.out _ _ _ O5.out).cell 0, (BF.out _ _ _ O5.out).cell 1, (BF.out _ _ _ O5.out).cell 2⟩ (fun hH3 => ?_)
  clear hK K hH2 hO
  refine wpAnyH_ready (rs := [9]) (by kernel_rfl) (by simp) ?_
  refine AllReadyH.cons rfl (fun K hK => ?_) AllReadyH.nil
  go_simp
  go_wp2_with (go_at_call 26; refine (all_any (w.heap.size + 1) _ _ w5 O5.out.at_ (by have := L3.out; have := L4.out; have := EL.out; simp only [List.length_append]; omega)).mono ?_; rintro e1 w6 ⟨v6, rfl, ho, hb⟩)
  have O6 := Lib.hid (O5.out.below hb)
  have OW := Lib.hid (show Own w6 w.heap.size v6 (replyb e n zs) from by unfold replyb; rw [← List.append_assoc]; exact ho.base (BW.out _ _ _ O5.out).size)
  refine hK.out _ _ ⟨(BF.out _ _ _ O6.out).cell 0, (BF.out _ _ _ O6.out).cell 1, (BF.out _ _ _ O6.out).cell 2⟩ (fun hH4 => ?_)
  clear hK K hH3 ho hb
  refine wpAnyH_take (i := 10) (v := ?_) rfl (by kernel_rfl) (by kernel_rfl) (by kernel_rfl) (fun _ _ _ h => h) (Or.inl ⟨by rfl, ?_⟩) (by assumption) ?_
  rotate_left
  · (intro w hSw; (try dsimp only at hSw); first | (go_simp; done) | (go_simp; with_reducible rfl))
  simp only [Act.put, List.getElem_toArray, List.getElem_cons_zero, List.getElem_cons_succ, List.setIfInBounds_toArray, List.set_cons_zero, List.set_cons_succ]
  refine wpAnyH_done (by kernel_rfl) ?_ _
  clear hH4
  go_wp2_with fail
  obtain ⟨A6, n6, c6, rfl⟩ := vi.own_form OW.out
  go_ret
  exact ⟨_, rfl, OW.out, BW.out _ _ _ O6.out⟩
theorem w0 : W64 0 := ⟨by omega, by omega⟩
theorem w21 : W64 21 := ⟨by omega, by omega⟩
theorem w30 : W64 30 := ⟨by omega, by omega⟩
theorem nums_nil (w : World) : Nums .i64 w none [] := fun h => absurd h (by simp)
set_option maxHeartbeats 400000 in
theorem full_any (w : World) : Calls Tryd.prog 19 #[] w (NewB (replyb 21 0 []) w) := by
  have RA := Lib.hid (reply_any none 0 [] 21 0 w (nums_nil w) (fun z h => by cases h) w21 w0 (by simp))
  unfold NewB at RA
  go_enter Tryd.func19, Tryd.ntmps19
  go_wp2_with fail
  refine RA.out.mono ?_
  rintro e w1 ⟨v, rfl, ho, hb⟩
  have R := Lib.hid (And.intro ho hb)
  obtain ⟨A6, n6, c6, rfl⟩ := vi.own_form ho
  clear ho hb RA
  go_wp2_with fail
  go_ret
  exact ⟨_, rfl, R.out.1, R.out.2⟩
set_option maxHeartbeats 400000 in
theorem bad_any (w : World) : Calls Tryd.prog 22 #[] w (NewB (replyb 30 0 []) w) := by
  have RA := Lib.hid (reply_any none 0 [] 30 0 w (nums_nil w) (fun z h => by cases h) w30 w0 (by simp))
  unfold NewB at RA
  go_enter Tryd.func22, Tryd.ntmps22
  go_wp2_with fail
  refine RA.out.mono ?_
  rintro e w1 ⟨v, rfl, ho, hb⟩
  have R := Lib.hid (And.intro ho hb)
  obtain ⟨A6, n6, c6, rfl⟩ := vi.own_form ho
  clear ho hb RA
  go_wp2_with fail
  go_ret
  exact ⟨_, rfl, R.out.1, R.out.2⟩
/-! What is told is as it should be. -/
structure GS (p : Cm × Option (List Nat)) : Prop where
  ok : p.1.Ok
  small : Small (p.2.getD [])
theorem wf_of {z : Int} (h : -9223372036854775808 ≤ z ∧ z ≤ 9223372036854775807) : (Lit.int .i64 z).wf = true := by
  simp [Lit.wf, IntKind.min, IntKind.max, IntKind.signed, IntKind.bits]
  omega
theorem rdI_good {st : Option (List Nat)} (h : Small (st.getD [])) : (Lit.int .i64 (rdI st).1).wf = true ∧ Small ((rdI st).2.getD []) := by
  cases st with
  | none => exact ⟨wf0, small_nil⟩
  | some l =>
    cases hd : dec l with
    | none => rw [rdI_none hd]; exact ⟨wf0, small_nil⟩
    | some p =>
      obtain ⟨z, k⟩ := p
      rw [rdI_some hd]
      obtain ⟨-, -, -, -, h1, h2⟩ := dec_some h hd
      exact ⟨wf_of ⟨h1, h2⟩, small_drop h k⟩
theorem rdT_good {st : Option (List Nat)} (h : Small (st.getD [])) : (rdT st).1.size ≤ maxLen ∧ Small ((rdT st).2.getD []) := by
  cases st with
  | none => exact ⟨sz0, small_nil⟩
  | some l =>
    cases hd : cnt 16 l with
    | none => rw [rdT_none hd]; exact ⟨sz0, small_nil⟩
    | some p =>
      obtain ⟨n, r⟩ := p
      rw [rdT_some hd]
      obtain ⟨k, -, rfl, h3, h4⟩ := cnt_some hd
      refine ⟨?_, small_drop (small_drop h k) n⟩
      show (str _).size ≤ maxLen
      rw [str_size]
      unfold maxLen
      have : ((l.drop k).take n).length ≤ n := List.length_take_le _ _
      omega
theorem step_good {p : Cm × Option (List Nat)} (h : GS p) (f : Nat) : GS (stepS p f) := by
  have hi := rdI_good h.small
  have ht := rdT_good h.small
  unfold stepS
  split
  · exact ⟨⟨h.ok.s, h.ok.w, h.ok.k, h.ok.a, h.ok.b, h.ok.c, h.ok.d, ht.1, h.ok.l⟩, ht.2⟩
  · refine ⟨?_, hi.2⟩
    simp only
    unfold putF
    split
    · exact ⟨h.ok.s, h.ok.w, h.ok.k, hi.1, h.ok.b, h.ok.c, h.ok.d, h.ok.t, h.ok.l⟩
    split
    · exact ⟨h.ok.s, h.ok.w, h.ok.k, h.ok.a, hi.1, h.ok.c, h.ok.d, h.ok.t, h.ok.l⟩
    split
    · exact ⟨h.ok.s, h.ok.w, h.ok.k, h.ok.a, h.ok.b, hi.1, h.ok.d, h.ok.t, h.ok.l⟩
    · exact ⟨h.ok.s, h.ok.w, h.ok.k, h.ok.a, h.ok.b, h.ok.c, hi.1, h.ok.t, h.ok.l⟩
theorem fold_good : ∀ (l : List Nat) {p : Cm × Option (List Nat)}, GS p → GS (l.foldl stepS p)
  | [], _, h => h
  | f :: l, _, h => fold_good l (step_good h f)
theorem head_good {b : List Nat} (h : Small b) : GS (headS b) := by
  have h1 := rdI_good (st := some b) h
  have h2 := rdI_good h1.2
  have h3 := rdT_good h2.2
  unfold headS
  simp only
  split
  · exact ⟨⟨h1.1, wf0, h2.1, wf0, wf0, wf0, wf0, sz0, h3.1⟩, h3.2⟩
  · exact ⟨⟨h1.1, wf0, h2.1, wf0, wf0, wf0, wf0, sz0, sz0⟩, h2.2⟩
theorem allS_ok {b : List Nat} (h : Small b) : (allS b).1.Ok := (fold_good _ (head_good h)).ok
theorem parse_any (A : Option Addr) (c : Nat) (b : List Nat) (w : World) (hT : Tab w) (hL : Lay w A b) (hs : Small b) : Calls Tryd.prog 13 #[.slice A b.length c] w (ParseP b w) := by
  by_cases h : 512 < b.length
  · exact parse_long A c b w h
  · exact parse_short A c b w hT hL hs (by omega) (allS_ok hs)
theorem parse_ok {b : List Nat} {x : Cm} (hs : Small b) (h : parse512 b = some x) : x.Ok ∧ b.length ≤ 512 ∧ rightM x = true ∧ bytesM x = b := by
  unfold parse512 at h
  split at h
  · cases h
  · refine ⟨?_, by omega, (bytes_parse hs h).1, (bytes_parse hs h).2⟩
    rw [allS_parse] at h
    split at h
    · injection h with h
      rw [← h]
      exact allS_ok hs
    · cases h
end Go.Proofs.YtndhammngejdiaaDoor.od
