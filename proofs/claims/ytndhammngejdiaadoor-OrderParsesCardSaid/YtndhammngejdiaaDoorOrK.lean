/-
  Replies: alike; the reference's bytes; what a kind uses.
-/
import Derived.Test.YtndhammngejdiaaDoorOrJ

namespace Go.Proofs.YtndhammngejdiaaDoor.od
open Go.RowKit
open base (ret_bool ret_int made up Blk Only Nums below_drewN)
open bytes (Small small_nil small_app small_drop small_take Lay By str Own conv_any)
open vi (bs bs_len I64 encs rint_any rints_any NewB)
open vnum
set_option linter.unusedVariables false
set_option linter.unusedSimpArgs false
theorem nat {w : World} {A : Option Addr} {l : List Int} (h : Nums .i64 w A l) {k : Nat} (hk : k < l.length) : ∃ b off, A = some ⟨b, off, none⟩ ∧ w.cell? ⟨b, off + k, none⟩ = some (.int .i64 (l.getD k 0)) := by
  obtain ⟨b, off, e, _, hc⟩ := h (by omega)
  exact ⟨b, off, e, hc k hk⟩
set_option maxHeartbeats 1000000 in
theorem equal_eq (A : Option Addr) (c : Nat) (l : List Int) (B : Option Addr) (d : Nat) (w : World) (h : Nums .i64 w A l) (h2 : Nums .i64 w B l) (hl : l.length ≤ 9000000) :
    Calls Tryd.prog 40 #[.slice A l.length c, .slice B l.length d] w (BoolP true w) := by
  have N := Lib.hid h
  have M := Lib.hid h2
  clear h h2
  go_enter Tryd.func40, Tryd.ntmps40
  go_wp2_with fail
  go_loopw [13] (fun j wr => ∃ (k : Nat) (W : World), W = wr ∧ j = .int .i64 k ∧ k ≤ l.length ∧ Below w.heap.size w wr) (fun j _ => l.length - (intOf j).toNat)
  case atStart => exact ⟨0, _, rfl, rfl, by omega, Below.refl _ _⟩
  case round =>
    obtain ⟨k, w1, rfl, rfl, hk, hb⟩ := hrel
    have HB := Lib.hid hb
    by_cases hkl : k < l.length
    · obtain ⟨b, off, rfl, hc⟩ := nat (base.Nums.keep N.out hb) hkl
      obtain ⟨b2, off2, rfl, hc2⟩ := nat (base.Nums.keep M.out hb) hkl
      clear hb
      generalize l.getD k 0 = v at *
      go_wp2_with fail
      go_quiet (fail)
      go_wp2_with fail
      refine ⟨⟨k + 1, _, rfl, by go_num, by omega, below_drewN HB.out _⟩, by simp [intOf]; omega⟩
    · clear hb
      go_wp2_with fail
      go_ret
      exact ⟨rfl, HB.out⟩
set_option maxHeartbeats 1000000 in
theorem requal_any (A : Option Addr) (c : Nat) (B : Option Addr) (d : Nat) (zs : List Int) (e n : Int) (w : World) (hA : Nums .i64 w A zs) (hB : Nums .i64 w B zs) (hl : zs.length ≤ 5000) :
    Calls Tryd.prog 18 #[.agg #[.int .i64 e, .int .i64 n, .slice A zs.length c], .agg #[.int .i64 e, .int .i64 n, .slice B zs.length d]] w (BoolP true w) := by
  have M1 := Lib.hid (made w (.cells #[.int .i64 e, .int .i64 n, .slice A zs.length c] 44))
  have M2 := Lib.hid (show Below w.heap.size w ((w.alloc (.cells #[.int .i64 e, .int .i64 n, .slice A zs.length c] 44)).alloc (.cells #[.int .i64 e, .int .i64 n, .slice B zs.length d] 44)) from up M1.out (made _ _) M1.out.size)
  have EQ := Lib.hid (equal_eq A c zs B d _ (base.Nums.keep hA M2.out) (base.Nums.keep hB M2.out) (by omega))
  have b1 : Blk ((w.alloc (.cells #[.int .i64 e, .int .i64 n, .slice A zs.length c] 44)).alloc (.cells #[.int .i64 e, .int .i64 n, .slice B zs.length d] 44)) w.heap.size 44 #[.int .i64 e, .int .i64 n, .slice A zs.length c] := (Blk.new _ _ _).alloc _
  have b2 := Blk.new (w.alloc (.cells #[.int .i64 e, .int .i64 n, .slice A zs.length c] 44)) 44 #[.int .i64 e, .int .i64 n, .slice B zs.length d]
  rw [asz] at b2
  have x0 := b1.cell 0
  have x1 := b1.cell 1
  have x2 := b1.cell 2
  have y0 := b2.cell 0
  have y1 := b2.cell 1
  have y2 := b2.cell 2
  clear b1 b2 hA hB
  generalize hw : (w.alloc (.cells #[.int .i64 e, .int .i64 n, .slice A zs.length c] 44)).alloc (.cells #[.int .i64 e, .int .i64 n, .slice B zs.length d] 44) = w2 at *
  unfold BoolP at EQ
  go_enter Tryd.func18, Tryd.ntmps18
  go_wp2_with (rw [hw])
  refine EQ.out.mono ?_
  rintro e1 w3 ⟨rfl, hb⟩
  have B3 := Lib.hid (up M2.out hb M2.out.size)
  clear hb
  go_wp2_with fail
  go_ret
  exact ⟨rfl, B3.out⟩
theorem str_app (a b : List Nat) : str (a ++ b) = str a ++ str b := by
  unfold str
  apply ByteArray.ext
  simp
theorem replyb_small {e n : Int} {zs : List Int} : Small (replyb e n zs) := small_app (enc_small _) (small_app (enc_small _) (vi.encs_small _))
def StrP (s : ByteArray) (w : World) (e : Ending) (w' : World) : Prop := e = .returned (.string s) ∧ Below w.heap.size w w'
set_option maxRecDepth 100000 in
set_option maxHeartbeats 2000000 in
theorem rreply_any (A : Option Addr) (c : Nat) (zs : List Int) (e n : Int) (w : World) (hN : Nums .i64 w A zs) (hz : ∀ z ∈ zs, I64 z) (he : W64 e) (hn : W64 n) (hm : zs.length ≤ 5000) :
    Calls Tryd.prog 17 #[.int .i64 e, .int .i64 n, .slice A zs.length c] w (StrP (str (replyb e n zs)) w) := by
  have NN := Lib.hid hN
  have HZ := Lib.hid hz
  have HE := Lib.hid he
  have HN := Lib.hid hn
  have EL := Lib.hid (encs_len hz hm)
  have L1 := Lib.hid (enc_len he.1 he.2)
  have L2 := Lib.hid (enc_len hn.1 hn.2)
  clear hN hz he hn
  go_enter Tryd.func17, Tryd.ntmps17
  go_upto_region 1 with fail
  have B0 := Lib.hid (show Below w.heap.size w w.drew from (Below.refl _ _).drew)
  refine wp_region_held_drew (S := fun _ => True) (by kernel_rfl) trivial (fun hHeld => ?_)
  generalize w.drew = w0 at *
  refine wpAnyH_take (i := 0) (v := ?_) rfl (by kernel_rfl) (by kernel_rfl) (by kernel_rfl) (fun _ _ _ h => h) (Or.inl ⟨by rfl, ?_⟩) (by assumption) ?_
  rotate_left
  · (intro w hSw; (try dsimp only at hSw); first | (go_simp; done) | (go_simp; with_reducible rfl))
  simp only [Act.put, List.getElem_toArray, List.getElem_cons_zero, List.getElem_cons_succ, List.setIfInBounds_toArray, List.set_cons_zero, List.set_cons_succ]
  refine wpAnyH_take (i := 3) (v := ?_) rfl (by kernel_rfl) (by kernel_rfl) (by kernel_rfl) (fun _ _ _ h => h) (Or.inl ⟨by rfl, ?_⟩) (by assumption) ?_
  rotate_left
  · (intro w hSw; (try dsimp only at hSw); first | (go_simp; done) | (go_simp; with_reducible rfl))
  simp only [Act.put, List.getElem_toArray, List.getElem_cons_zero, List.getElem_cons_succ, List.setIfInBounds_toArray, List.set_cons_zero, List.set_cons_succ]
  refine wpAnyH_take (i := 7) (v := ?_) rfl (by kernel_rfl) (by kernel_rfl) (by kernel_rfl) (fun _ _ _ h => h) (Or.inl ⟨by rfl, ?_⟩) (by assumption) ?_
  rotate_left
  · (intro w hSw; (try dsimp only at hSw); first | (go_simp; done) | (go_simp; with_reducible rfl))
  simp only [Act.put, List.getElem_toArray, List.getElem_cons_zero, List.getElem_cons_succ, List.setIfInBounds_toArray, List.set_cons_zero, List.set_cons_succ]
  refine wpAnyH_ready (rs := [1]) (by kernel_rfl) (by simp) ?_
  refine AllReadyH.cons rfl (fun K hK => ?_) AllReadyH.nil
  go_simp
  go_wp2_with (go_at_call 35; refine (rint_any e w0 HE.out.1 HE.out.2).mono ?_; rintro e1 w1 ⟨v1, rfl, ho, hb⟩)
  obtain ⟨A1, c1, rfl, hl1, -, -⟩ := ho.lay
  have B1 := Lib.hid (up B0.out hb B0.out.size)
  have cv1 := fun ws (h : Lay ws A1 (enc e)) => conv_any ws A1 c1 (enc e) h (enc_small e)
  have LY1 := Lib.hid hl1
  refine hK.out _ _ trivial (fun hH => ?_)
  clear hK K hHeld hH ho hb
  refine more.any_more (S' := fun ws => (convert 32 9 (.slice A1 (enc e).length c1)).run Tryd.prog ws = .ok (.string (str (enc e))) ws) (fun _ _ => trivial) _ _ _ _ ?_
  have hH1 := cv1 w1 hl1
  have hH1' : (fun ws => (convert 32 9 (.slice A1 (enc e).length c1)).run Tryd.prog ws = .ok (.string (str (enc e))) ws) w1 := hH1
  clear hl1
  refine wpAnyH_take (i := 2) (v := ?_) rfl (by kernel_rfl) (by kernel_rfl) (by kernel_rfl) (fun _ _ _ h => h) (Or.inl ⟨by rfl, ?_⟩) (by assumption) ?_
  rotate_left
  · (intro w hSw; (try dsimp only at hSw); first | (go_simp; done) | (go_simp; with_reducible rfl))
  simp only [Act.put, List.getElem_toArray, List.getElem_cons_zero, List.getElem_cons_succ, List.setIfInBounds_toArray, List.set_cons_zero, List.set_cons_succ]
  refine wpAnyH_ready (rs := [4]) (by kernel_rfl) (by simp) ?_
  refine AllReadyH.cons rfl (fun K hK => ?_) AllReadyH.nil
  go_simp
  go_wp2_with (go_at_call 35; refine (rint_any n w1 HN.out.1 HN.out.2).mono ?_; rintro e1 w2 ⟨v2, rfl, ho, hb⟩)
  obtain ⟨A2, c2, rfl, hl2, -, -⟩ := ho.lay
  have B2 := Lib.hid (up B1.out hb B1.out.size)
  have cv2 := fun ws (h : Lay ws A2 (enc n)) => conv_any ws A2 c2 (enc n) h (enc_small n)
  have LY2 := Lib.hid hl2
  have L12 := Lib.hid (LY1.out.below hb)
  refine hK.out _ _ (cv1 _ L12.out) (fun hH => ?_)
  clear hK K hH hH1 hH1' ho hb
  refine more.any_more (S' := fun ws => (convert 32 9 (.slice A1 (enc e).length c1)).run Tryd.prog ws = .ok (.string (str (enc e))) ws ∧ (convert 32 9 (.slice A2 (enc n).length c2)).run Tryd.prog ws = .ok (.string (str (enc n))) ws) (fun _ h => h.1) _ _ _ _ ?_
  have hH2 := cv2 w2 hl2
  have hH2' : (fun ws => (convert 32 9 (.slice A1 (enc e).length c1)).run Tryd.prog ws = .ok (.string (str (enc e))) ws ∧ (convert 32 9 (.slice A2 (enc n).length c2)).run Tryd.prog ws = .ok (.string (str (enc n))) ws) w2 := ⟨cv1 _ L12.out, hH2⟩
  have z1 : ¬ 9223372036854775807 < (str (enc e)).size + (str (enc n)).size := by rw [str_size, str_size]; have := L1.out; have := L2.out; omega
  clear hl2
  refine wpAnyH_take (i := 5) (v := ?_) rfl (by kernel_rfl) (by kernel_rfl) (by kernel_rfl) (fun _ _ _ h => h) (Or.inl ⟨by rfl, ?_⟩) (by assumption) ?_
  rotate_left
  · (intro w hSw; (try dsimp only at hSw); first | (go_simp; done) | (go_simp; with_reducible rfl))
  simp only [Act.put, List.getElem_toArray, List.getElem_cons_zero, List.getElem_cons_succ, List.setIfInBounds_toArray, List.set_cons_zero, List.set_cons_succ]
  refine wpAnyH_take (i := 6) (v := ?_) rfl (by kernel_rfl) (by kernel_rfl) (by kernel_rfl) (fun _ _ _ h => h) (Or.inl ⟨by rfl, ?_⟩) (by assumption) ?_
  rotate_left
  · (intro w hSw; (try dsimp only at hSw); first | (go_simp; done) | (go_simp; with_reducible rfl))
  simp only [Act.put, List.getElem_toArray, List.getElem_cons_zero, List.getElem_cons_succ, List.setIfInBounds_toArray, List.set_cons_zero, List.set_cons_succ]
  refine wpAnyH_ready (rs := [8]) (by kernel_rfl) (by simp) ?_
  refine AllReadyH.cons rfl (fun K hK => ?_) AllReadyH.nil
  go_simp
  go_wp2_with (go_at_call 39; refine (rints_any A c zs w2 (base.Nums.keep NN.out B2.out) HZ.out (by omega)).mono ?_; rintro e1 w3 ⟨v3, rfl, ho, hb⟩)
  obtain ⟨A3, c3, rfl, hl3, -, -⟩ := ho.lay
  have B3 := Lib.hid (up B2.out hb B2.out.size)
  have cv3 := fun ws (h : Lay ws A3 (encs zs)) => conv_any ws A3 c3 (encs zs) h (vi.encs_small zs)
  have L13 := Lib.hid (L12.out.below hb)
  have L23 := Lib.hid (LY2.out.below hb)
  refine hK.out _ _ ⟨cv1 _ L13.out, cv2 _ L23.out⟩ (fun hH => ?_)
  clear hK K hH hH2 hH2' ho hb
  refine more.any_more (S' := fun ws => ((convert 32 9 (.slice A1 (enc e).length c1)).run Tryd.prog ws = .ok (.string (str (enc e))) ws ∧ (convert 32 9 (.slice A2 (enc n).length c2)).run Tryd.prog ws = .ok (.string (str (enc n))) ws) ∧ (convert 32 9 (.slice A3 (encs zs).length c3)).run Tryd.prog ws = .ok (.string (str (encs zs))) ws) (fun _ h => h.1) _ _ _ _ ?_
  have hH3 := cv3 w3 hl3
  have hH3' : (fun ws => ((convert 32 9 (.slice A1 (enc e).length c1)).run Tryd.prog ws = .ok (.string (str (enc e))) ws ∧ (convert 32 9 (.slice A2 (enc n).length c2)).run Tryd.prog ws = .ok (.string (str (enc n))) ws) ∧ (convert 32 9 (.slice A3 (encs zs).length c3)).run Tryd.prog ws = .ok (.string (str (encs zs))) ws) w3 := ⟨⟨cv1 _ L13.out, cv2 _ L23.out⟩, hH3⟩
  have z2 : ¬ 9223372036854775807 < (str (enc e)).size + (str (enc n)).size + (str (encs zs)).size := by rw [str_size, str_size, str_size]; have := L1.out; have := L2.out; have := EL.out; omega
  clear hl3
  refine wpAnyH_take (i := 9) (v := ?_) rfl (by kernel_rfl) (by kernel_rfl) (by kernel_rfl) (fun _ _ _ h => h) (Or.inl ⟨by rfl, ?_⟩) (by assumption) ?_
  rotate_left
  · (intro w hSw; (try dsimp only at hSw); first | (go_simp; done) | (go_simp; with_reducible rfl))
  simp only [Act.put, List.getElem_toArray, List.getElem_cons_zero, List.getElem_cons_succ, List.setIfInBounds_toArray, List.set_cons_zero, List.set_cons_succ]
  refine wpAnyH_take (i := 10) (v := ?_) rfl (by kernel_rfl) (by kernel_rfl) (by kernel_rfl) (fun _ _ _ h => h) (Or.inl ⟨by rfl, ?_⟩) (by assumption) ?_
  rotate_left
  · (intro w hSw; (try dsimp only at hSw); first | (go_simp; done) | (go_simp; with_reducible rfl))
  simp only [Act.put, List.getElem_toArray, List.getElem_cons_zero, List.getElem_cons_succ, List.setIfInBounds_toArray, List.set_cons_zero, List.set_cons_succ]
  refine wpAnyH_take (i := 11) (v := ?_) rfl (by kernel_rfl) (by kernel_rfl) (by kernel_rfl) (fun _ _ _ h => h) (Or.inl ⟨by rfl, ?_⟩) (by assumption) ?_
  rotate_left
  · (intro w hSw; (try dsimp only at hSw); first | (go_simp; done) | (go_simp; with_reducible rfl))
  simp only [Act.put, List.getElem_toArray, List.getElem_cons_zero, List.getElem_cons_succ, List.setIfInBounds_toArray, List.set_cons_zero, List.set_cons_succ]
  refine wpAnyH_done (by kernel_rfl) ?_ _
  clear hH3 hH3'
  go_wp2_with fail
  go_ret
  refine ⟨?_, B3.out⟩
  unfold replyb
  rw [← List.append_assoc, str_app, str_app]
  rfl
set_option maxHeartbeats 400000 in
theorem uses_1 (w : World) : Calls Tryd.prog 20 #[.int .i64 1] w fun e w' => e = .returned (.tuple #[.int .i64 0, .bool true]) ∧ w = w' := by
  go_enter Tryd.func20, Tryd.ntmps20
  go_wp2_with fail
  go_ret2
  exact ⟨rfl, rfl⟩
set_option maxHeartbeats 400000 in
theorem uses_2 (w : World) : Calls Tryd.prog 20 #[.int .i64 2] w fun e w' => e = .returned (.tuple #[.int .i64 2, .bool false]) ∧ w = w' := by
  go_enter Tryd.func20, Tryd.ntmps20
  go_wp2_with fail
  go_ret2
  exact ⟨rfl, rfl⟩
set_option maxHeartbeats 400000 in
theorem uses_3 (w : World) : Calls Tryd.prog 20 #[.int .i64 3] w fun e w' => e = .returned (.tuple #[.int .i64 2, .bool false]) ∧ w = w' := by
  go_enter Tryd.func20, Tryd.ntmps20
  go_wp2_with fail
  go_ret2
  exact ⟨rfl, rfl⟩
set_option maxHeartbeats 400000 in
theorem uses_4 (w : World) : Calls Tryd.prog 20 #[.int .i64 4] w fun e w' => e = .returned (.tuple #[.int .i64 4, .bool false]) ∧ w = w' := by
  go_enter Tryd.func20, Tryd.ntmps20
  go_wp2_with fail
  go_ret2
  exact ⟨rfl, rfl⟩
set_option maxHeartbeats 400000 in
theorem uses_5 (w : World) : Calls Tryd.prog 20 #[.int .i64 5] w fun e w' => e = .returned (.tuple #[.int .i64 1, .bool false]) ∧ w = w' := by
  go_enter Tryd.func20, Tryd.ntmps20
  go_wp2_with fail
  go_ret2
  exact ⟨rfl, rfl⟩
set_option maxHeartbeats 400000 in
theorem uses_6 (w : World) : Calls Tryd.prog 20 #[.int .i64 6] w fun e w' => e = .returned (.tuple #[.int .i64 2, .bool false]) ∧ w = w' := by
  go_enter Tryd.func20, Tryd.ntmps20
  go_wp2_with fail
  go_ret2
  exact ⟨rfl, rfl⟩
set_option maxHeartbeats 400000 in
theorem uses_7 (w : World) : Calls Tryd.prog 20 #[.int .i64 7] w fun e w' => e = .returned (.tuple #[.int .i64 4, .bool false]) ∧ w = w' := by
  go_enter Tryd.func20, Tryd.ntmps20
  go_wp2_with fail
  go_ret2
  exact ⟨rfl, rfl⟩
set_option maxHeartbeats 400000 in
theorem uses_8 (w : World) : Calls Tryd.prog 20 #[.int .i64 8] w fun e w' => e = .returned (.tuple #[.int .i64 0, .bool true]) ∧ w = w' := by
  go_enter Tryd.func20, Tryd.ntmps20
  go_wp2_with fail
  go_ret2
  exact ⟨rfl, rfl⟩
set_option maxHeartbeats 400000 in
theorem uses_9 (w : World) : Calls Tryd.prog 20 #[.int .i64 9] w fun e w' => e = .returned (.tuple #[.int .i64 1, .bool false]) ∧ w = w' := by
  go_enter Tryd.func20, Tryd.ntmps20
  go_wp2_with fail
  go_ret2
  exact ⟨rfl, rfl⟩
set_option maxHeartbeats 400000 in
theorem uses_10 (w : World) : Calls Tryd.prog 20 #[.int .i64 10] w fun e w' => e = .returned (.tuple #[.int .i64 2, .bool false]) ∧ w = w' := by
  go_enter Tryd.func20, Tryd.ntmps20
  go_wp2_with fail
  go_ret2
  exact ⟨rfl, rfl⟩
set_option maxHeartbeats 400000 in
theorem uses_11 (w : World) : Calls Tryd.prog 20 #[.int .i64 11] w fun e w' => e = .returned (.tuple #[.int .i64 3, .bool false]) ∧ w = w' := by
  go_enter Tryd.func20, Tryd.ntmps20
  go_wp2_with fail
  go_ret2
  exact ⟨rfl, rfl⟩
set_option maxHeartbeats 400000 in
theorem uses_12 (w : World) : Calls Tryd.prog 20 #[.int .i64 12] w fun e w' => e = .returned (.tuple #[.int .i64 1, .bool false]) ∧ w = w' := by
  go_enter Tryd.func20, Tryd.ntmps20
  go_wp2_with fail
  go_ret2
  exact ⟨rfl, rfl⟩
set_option maxHeartbeats 400000 in
theorem uses_13 (w : World) : Calls Tryd.prog 20 #[.int .i64 13] w fun e w' => e = .returned (.tuple #[.int .i64 1, .bool false]) ∧ w = w' := by
  go_enter Tryd.func20, Tryd.ntmps20
  go_wp2_with fail
  go_ret2
  exact ⟨rfl, rfl⟩
set_option maxHeartbeats 400000 in
theorem uses_14 (w : World) : Calls Tryd.prog 20 #[.int .i64 14] w fun e w' => e = .returned (.tuple #[.int .i64 3, .bool false]) ∧ w = w' := by
  go_enter Tryd.func20, Tryd.ntmps20
  go_wp2_with fail
  go_ret2
  exact ⟨rfl, rfl⟩
set_option maxHeartbeats 400000 in
theorem uses_15 (w : World) : Calls Tryd.prog 20 #[.int .i64 15] w fun e w' => e = .returned (.tuple #[.int .i64 1, .bool false]) ∧ w = w' := by
  go_enter Tryd.func20, Tryd.ntmps20
  go_wp2_with fail
  go_ret2
  exact ⟨rfl, rfl⟩
set_option maxHeartbeats 400000 in
theorem uses_16 (w : World) : Calls Tryd.prog 20 #[.int .i64 16] w fun e w' => e = .returned (.tuple #[.int .i64 1, .bool false]) ∧ w = w' := by
  go_enter Tryd.func20, Tryd.ntmps20
  go_wp2_with fail
  go_ret2
  exact ⟨rfl, rfl⟩
set_option maxHeartbeats 400000 in
theorem uses_17 (w : World) : Calls Tryd.prog 20 #[.int .i64 17] w fun e w' => e = .returned (.tuple #[.int .i64 1, .bool false]) ∧ w = w' := by
  go_enter Tryd.func20, Tryd.ntmps20
  go_wp2_with fail
  go_ret2
  exact ⟨rfl, rfl⟩
set_option maxHeartbeats 400000 in
theorem uses_18 (w : World) : Calls Tryd.prog 20 #[.int .i64 18] w fun e w' => e = .returned (.tuple #[.int .i64 2, .bool false]) ∧ w = w' := by
  go_enter Tryd.func20, Tryd.ntmps20
  go_wp2_with fail
  go_ret2
  exact ⟨rfl, rfl⟩
set_option maxHeartbeats 400000 in
theorem uses_19 (w : World) : Calls Tryd.prog 20 #[.int .i64 19] w fun e w' => e = .returned (.tuple #[.int .i64 3, .bool false]) ∧ w = w' := by
  go_enter Tryd.func20, Tryd.ntmps20
  go_wp2_with fail
  go_ret2
  exact ⟨rfl, rfl⟩
set_option maxHeartbeats 400000 in
theorem uses_20 (w : World) : Calls Tryd.prog 20 #[.int .i64 20] w fun e w' => e = .returned (.tuple #[.int .i64 2, .bool false]) ∧ w = w' := by
  go_enter Tryd.func20, Tryd.ntmps20
  go_wp2_with fail
  go_ret2
  exact ⟨rfl, rfl⟩
set_option maxHeartbeats 400000 in
theorem uses_21 (w : World) : Calls Tryd.prog 20 #[.int .i64 21] w fun e w' => e = .returned (.tuple #[.int .i64 2, .bool false]) ∧ w = w' := by
  go_enter Tryd.func20, Tryd.ntmps20
  go_wp2_with fail
  go_ret2
  exact ⟨rfl, rfl⟩
set_option maxHeartbeats 400000 in
theorem uses_22 (w : World) : Calls Tryd.prog 20 #[.int .i64 22] w fun e w' => e = .returned (.tuple #[.int .i64 4, .bool false]) ∧ w = w' := by
  go_enter Tryd.func20, Tryd.ntmps20
  go_wp2_with fail
  go_ret2
  exact ⟨rfl, rfl⟩
set_option maxHeartbeats 400000 in
theorem uses_23 (w : World) : Calls Tryd.prog 20 #[.int .i64 23] w fun e w' => e = .returned (.tuple #[.int .i64 1, .bool false]) ∧ w = w' := by
  go_enter Tryd.func20, Tryd.ntmps20
  go_wp2_with fail
  go_ret2
  exact ⟨rfl, rfl⟩
set_option maxHeartbeats 400000 in
theorem uses_24 (w : World) : Calls Tryd.prog 20 #[.int .i64 24] w fun e w' => e = .returned (.tuple #[.int .i64 0, .bool false]) ∧ w = w' := by
  go_enter Tryd.func20, Tryd.ntmps20
  go_wp2_with fail
  go_ret2
  exact ⟨rfl, rfl⟩
set_option maxHeartbeats 400000 in
theorem uses_25 (w : World) : Calls Tryd.prog 20 #[.int .i64 25] w fun e w' => e = .returned (.tuple #[.int .i64 1, .bool false]) ∧ w = w' := by
  go_enter Tryd.func20, Tryd.ntmps20
  go_wp2_with fail
  go_ret2
  exact ⟨rfl, rfl⟩
set_option maxHeartbeats 400000 in
theorem uses_26 (w : World) : Calls Tryd.prog 20 #[.int .i64 26] w fun e w' => e = .returned (.tuple #[.int .i64 2, .bool false]) ∧ w = w' := by
  go_enter Tryd.func20, Tryd.ntmps20
  go_wp2_with fail
  go_ret2
  exact ⟨rfl, rfl⟩
set_option maxHeartbeats 400000 in
theorem uses_27 (w : World) : Calls Tryd.prog 20 #[.int .i64 27] w fun e w' => e = .returned (.tuple #[.int .i64 0, .bool false]) ∧ w = w' := by
  go_enter Tryd.func20, Tryd.ntmps20
  go_wp2_with fail
  go_ret2
  exact ⟨rfl, rfl⟩
set_option maxHeartbeats 1000000 in
theorem uses_out (k : Int) (w : World) (h : ¬ (1 ≤ k ∧ k ≤ 27)) : Calls Tryd.prog 20 #[.int .i64 k] w fun e w' => e = .returned (.tuple #[.int .i64 0, .bool false]) ∧ w = w' := by
  have e1 : (k == 1) = false := by simp; omega
  have e2 : (k == 2) = false := by simp; omega
  have e3 : (k == 3) = false := by simp; omega
  have e4 : (k == 4) = false := by simp; omega
  have e5 : (k == 5) = false := by simp; omega
  have e6 : (k == 6) = false := by simp; omega
  have e7 : (k == 7) = false := by simp; omega
  have e8 : (k == 8) = false := by simp; omega
  have e9 : (k == 9) = false := by simp; omega
  have e10 : (k == 10) = false := by simp; omega
  have e11 : (k == 11) = false := by simp; omega
  have e12 : (k == 12) = false := by simp; omega
  have e13 : (k == 13) = false := by simp; omega
  have e14 : (k == 14) = false := by simp; omega
  have e15 : (k == 15) = false := by simp; omega
  have e16 : (k == 16) = false := by simp; omega
  have e17 : (k == 17) = false := by simp; omega
  have e18 : (k == 18) = false := by simp; omega
  have e19 : (k == 19) = false := by simp; omega
  have e20 : (k == 20) = false := by simp; omega
  have e21 : (k == 21) = false := by simp; omega
  have e22 : (k == 22) = false := by simp; omega
  have e23 : (k == 23) = false := by simp; omega
  have e24 : (k == 24) = false := by simp; omega
  have e25 : (k == 25) = false := by simp; omega
  have e26 : (k == 26) = false := by simp; omega
  have e27 : (k == 27) = false := by simp; omega
  by_cases h1 : k < 1
  · have k1 : decide (k < 1) = true := decide_eq_true h1
    clear h h1
    go_enter Tryd.func20, Tryd.ntmps20
    go_wp2_with fail
    go_ret2
    exact ⟨rfl, rfl⟩
  · have k1 : decide (k < 1) = false := decide_eq_false h1
    have k2 : decide (k > 27) = true := decide_eq_true (by omega)
    clear h h1
    go_enter Tryd.func20, Tryd.ntmps20
    go_wp2_with fail
    go_ret2
    exact ⟨rfl, rfl⟩
theorem us_out {k : Int} (h : ¬ (1 ≤ k ∧ k ≤ 27)) : us k = (0, false) := by
  unfold us
  rw [if_neg (by omega), if_neg (by omega), if_neg (by omega), if_neg (by omega), if_pos (by omega)]
theorem uses_any (k : Int) (w : World) : Calls Tryd.prog 20 #[.int .i64 k] w fun e w' => e = .returned (.tuple #[.int .i64 (us k).1, .bool (us k).2]) ∧ w = w' := by
  by_cases h : 1 ≤ k ∧ k ≤ 27
  · rcases (show k = 1 ∨ k = 2 ∨ k = 3 ∨ k = 4 ∨ k = 5 ∨ k = 6 ∨ k = 7 ∨ k = 8 ∨ k = 9 ∨ k = 10 ∨ k = 11 ∨ k = 12 ∨ k = 13 ∨ k = 14 ∨ k = 15 ∨ k = 16 ∨ k = 17 ∨ k = 18 ∨ k = 19 ∨ k = 20 ∨ k = 21 ∨ k = 22 ∨ k = 23 ∨ k = 24 ∨ k = 25 ∨ k = 26 ∨ k = 27 by omega) with rfl | rfl | rfl | rfl | rfl | rfl | rfl | rfl | rfl | rfl | rfl | rfl | rfl | rfl | rfl | rfl | rfl | rfl | rfl | rfl | rfl | rfl | rfl | rfl | rfl | rfl | rfl
    · exact uses_1 w
    · exact uses_2 w
    · exact uses_3 w
    · exact uses_4 w
    · exact uses_5 w
    · exact uses_6 w
    · exact uses_7 w
    · exact uses_8 w
    · exact uses_9 w
    · exact uses_10 w
    · exact uses_11 w
    · exact uses_12 w
    · exact uses_13 w
    · exact uses_14 w
    · exact uses_15 w
    · exact uses_16 w
    · exact uses_17 w
    · exact uses_18 w
    · exact uses_19 w
    · exact uses_20 w
    · exact uses_21 w
    · exact uses_22 w
    · exact uses_23 w
    · exact uses_24 w
    · exact uses_25 w
    · exact uses_26 w
    · exact uses_27 w
  · rw [us_out h]
    exact uses_out k w h
end Go.Proofs.YtndhammngejdiaaDoor.od
