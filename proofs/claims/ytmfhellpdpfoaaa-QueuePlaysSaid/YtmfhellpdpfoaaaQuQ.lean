/-
  The queue and the document's list: Move.
-/
import Derived.Test.YtmfhellpdpfoaaaQuP
import Derived.LoopTactic
namespace Go.Proofs.Ytmfhellpdpfoaaa.qu
open Go.RowKit
open base (ret_bool ret_int made up Blk Only)
open rk mk
set_option linter.unusedVariables false
set_option linter.unusedSimpArgs false
variable {w w' : World} {q sb B : Nat} {vl : Value} {L M : List It} {ad : Int} {F F' : Nat → Prop}

set_option maxRecDepth 100000 in
set_option maxHeartbeats 8000000 in
theorem step_3 {A : Option Addr} {c : Nat} (P : Pair F w q sb (.slice A M.length c) M ad B) (had : ad ≤ 98000) (n t : Int) (s : ByteArray) (hn : (Lit.int .i64 n).wf = true) :
    Calls Try.prog 10 #[.pointer (some ⟨sb, 0, none⟩), .pointer (some ⟨q, 0, none⟩), .agg #[.int .i64 3, .int .i64 n, .int .i64 t, .string s]] w (StepQ q sb B ad w) := by
  have OB := Lib.hid (Blk.new w 31 #[.int .i64 3, .int .i64 n, .int .i64 t, .string s])
  have M1 := Lib.hid (made w (.cells #[.int .i64 3, .int .i64 n, .int .i64 t, .string s] 31))
  have P1 := Lib.hid (P.below M1.out)
  have BW := Lib.hid P.size
  have hml : M.length ≤ 99000 := by have := P.len; omega
  have PL := Lib.hid P.len
  clear P
  go_enter Try.func10, Try.ntmps10
  go_upto_region 1 with fail
  generalize w.alloc (.cells #[.int .i64 3, .int .i64 n, .int .i64 t, .string s] 31) = w1 at *
  have P2 := Lib.hid (show Pair F w1.drew q sb _ M ad B from P1.out.below (Below.refl _ _).drew)
  have OB2 := Lib.hid (show Blk w1.drew w.heap.size _ _ from OB.out.drewN 1)
  have M2 := Lib.hid (show Below w.heap.size w w1.drew from M1.out.drew)
  clear P1 OB M1
  refine wp_region_held_drew (S := fun ws => ws.cell? ⟨sb, 0, none⟩ = some (.slice A M.length c) ∧ ws.cell? ⟨w.heap.size, 1, none⟩ = some (.int .i64 n)) (by kernel_rfl) ⟨P2.out.st.blk.cell 0, OB2.out.cell 1⟩ (fun hHeld => ?_)
  generalize w1.drew = W at *
  have LA := Lib.hid (layO P2.out.st.row)
  have FD := Lib.hid (find_any A c M n W LA.out (by omega))
  have BM := Lib.hid (show Bf B w W from Bf.new M2.out BW.out)
  refine wpAnyH_take (i := 0) (v := ?_) rfl (by kernel_rfl) (by kernel_rfl) (by kernel_rfl) (fun _ _ _ h => h) (Or.inl ⟨by rfl, ?_⟩) (by assumption) ?_
  rotate_left
  · (intro w hSw; (try dsimp only at hSw); first | (go_simp; done) | (go_simp; with_reducible rfl))
  simp only [Act.put, List.getElem_toArray, List.getElem_cons_zero, List.getElem_cons_succ, List.setIfInBounds_toArray, List.set_cons_zero, List.set_cons_succ]
  refine wpAnyH_take (i := 1) (v := ?_) rfl (by kernel_rfl) (by kernel_rfl) (by kernel_rfl) (fun _ _ _ h => h) (Or.inl ⟨by rfl, ?_⟩) (by assumption) ?_
  rotate_left
  · (intro w hSw; (try dsimp only at hSw); first | (go_simp; done) | (go_simp; with_reducible rfl))
  simp only [Act.put, List.getElem_toArray, List.getElem_cons_zero, List.getElem_cons_succ, List.setIfInBounds_toArray, List.set_cons_zero, List.set_cons_succ]
  refine wpAnyH_take (i := 2) (v := ?_) rfl (by kernel_rfl) (by kernel_rfl) (by kernel_rfl) (fun _ _ _ h => h) (Or.inl ⟨by rfl, ?_⟩) (by assumption) ?_
  rotate_left
  · (intro w hSw; (try dsimp only at hSw); first | (go_simp; done) | (go_simp; with_reducible rfl))
  simp only [Act.put, List.getElem_toArray, List.getElem_cons_zero, List.getElem_cons_succ, List.setIfInBounds_toArray, List.set_cons_zero, List.set_cons_succ]
  refine wpAnyH_take (i := 3) (v := ?_) rfl (by kernel_rfl) (by kernel_rfl) (by kernel_rfl) (fun _ _ _ h => h) (Or.inl ⟨by rfl, ?_⟩) (by assumption) ?_
  rotate_left
  · (intro w hSw; (try dsimp only at hSw); first | (go_simp; done) | (go_simp; with_reducible rfl))
  simp only [Act.put, List.getElem_toArray, List.getElem_cons_zero, List.getElem_cons_succ, List.setIfInBounds_toArray, List.set_cons_zero, List.set_cons_succ]
  refine wpAnyH_take (i := 4) (v := ?_) rfl (by kernel_rfl) (by kernel_rfl) (by kernel_rfl) (fun _ _ _ h => h) (Or.inl ⟨by rfl, ?_⟩) (by assumption) ?_
  rotate_left
  · (intro w hSw; (try dsimp only at hSw); first | (go_simp; done) | (go_simp; with_reducible rfl))
  simp only [Act.put, List.getElem_toArray, List.getElem_cons_zero, List.getElem_cons_succ, List.setIfInBounds_toArray, List.set_cons_zero, List.set_cons_succ]
  refine wpAnyH_take (i := 5) (v := ?_) rfl (by kernel_rfl) (by kernel_rfl) (by kernel_rfl) (fun _ _ _ h => h) (Or.inl ⟨by rfl, ?_⟩) (by assumption) ?_
  rotate_left
  · (intro w hSw; (try dsimp only at hSw); first | (go_simp; done) | (go_simp; with_reducible rfl))
  simp only [Act.put, List.getElem_toArray, List.getElem_cons_zero, List.getElem_cons_succ, List.setIfInBounds_toArray, List.set_cons_zero, List.set_cons_succ]
  refine wpAnyH_ready (rs := [6]) (by kernel_rfl) (by simp) ?_
  refine AllReadyH.cons rfl (fun K hK => ?_) AllReadyH.nil
  go_simp
  refine FD.out.mono ?_
  rintro e w2 ⟨v, rfl, r, rfl, hr, rfl⟩
  have FI := Lib.hid hr
  refine hK.out _ _ ⟨P2.out.st.blk.cell 0, OB2.out.cell 1⟩ (fun hHeld2 => ?_)
  clear hK K hHeld hr FD
  refine wpAnyH_take (i := 7) (v := ?_) rfl (by kernel_rfl) (by kernel_rfl) (by kernel_rfl) (fun _ _ _ h => h) (Or.inl ⟨by rfl, ?_⟩) (by assumption) ?_
  rotate_left
  · (intro w hSw; (try dsimp only at hSw); first | (go_simp; done) | (go_simp; with_reducible rfl))
  simp only [Act.put, List.getElem_toArray, List.getElem_cons_zero, List.getElem_cons_succ, List.setIfInBounds_toArray, List.set_cons_zero, List.set_cons_succ]
  refine wpAnyH_done (by kernel_rfl) ?_ _
  clear hHeld2
  have o0 := OB2.out.cell 0
  have o1 := OB2.out.cell 1
  have o2 := OB2.out.cell 2
  have o3 := OB2.out.cell 3
  have s0 := P2.out.st.blk.cell 0
  have s1 := P2.out.st.blk.cell 1
  have f0 := P2.out.st.blk.free 0
  have f1 := P2.out.st.blk.free 1
  rcases FI.out with ⟨rfl, hno⟩ | ⟨k, hk, rfl, hkn⟩
  · have CA := Lib.hid (move_no P2.out.qs t hn (by omega) hno)
    have FIN := Lib.hid (show ∃ F' vl' M' ad', Pair F' W q sb vl' M' ad' B ∧ Bf B w W ∧ ad' ≤ ad + 1 from ⟨F, _, M, ad, P2.out, BM.out, by omega⟩)
    clear FI hno
    go_wp2_with fail
    refine CA.out.mono ?_
    rintro e w3 ⟨rfl, rfl⟩
    go_wp2_with fail
    go_ret
    exact ⟨rfl, FIN.out⟩
  · have tk : decide ((k : Int) < 0) = false := decide_eq_false (by omega)
    have tl : decide (k < M.length) = true := decide_eq_true hk
    obtain ⟨bb, off, rfl, e0, e1, e2⟩ := layQ LA.out hk
    have KX := Lib.hid (Blk.new W 39 #[.int .i64 (at_ M k).1, .int .i64 (at_ M k).2.1, .string (at_ M k).2.2])
    have MX := Lib.hid (made W (.cells #[.int .i64 (at_ M k).1, .int .i64 (at_ M k).2.1, .string (at_ M k).2.2] 39))
    have DN := Lib.hid (show (at_ M k).1 = n from hkn)
    have hln := PL.out
    clear FI
    generalize hdd : at_ M k = dd at *
    obtain ⟨d0, d1, d2⟩ := dd
    dsimp only at e0 e1 e2 KX MX DN hkn
    subst hkn
    have HD := Lib.hid hdd
    clear hdd
    go_upto_region 16 with fail
    generalize W.alloc (.cells #[.int .i64 d0, .int .i64 d1, .string d2] 39) = W1 at *
    have x0 := KX.out.cell 0
    have x1 := KX.out.cell 1
    have x2 := KX.out.cell 2
    have g1 := KX.out.free 1
    have OX := Lib.hid (OB2.out.below MX.out OB2.out.lt)
    clear s0 s1 f0 f1 o0 o1 o2 o3 e0 e1 e2
    have o0 := OX.out.cell 0
    have o1 := OX.out.cell 1
    have o2 := OX.out.cell 2
    have o3 := OX.out.cell 3
    have KY := Lib.hid (KX.out.put 1 (.int .i64 t))
    have MY := Lib.hid (show Below W.heap.size W (W1.setCell ⟨W.heap.size, 1, none⟩ (.int .i64 t)) from MX.out.setCell (p := ⟨W.heap.size, 1, none⟩) (Nat.le_refl _) _)
    clear KX
    go_upto_region 17 with fail
    generalize W1.setCell ⟨W.heap.size, 1, none⟩ (.int .i64 t) = W2 at *
    clear x0 x1 x2 g1 o0 o1 o2 o3 OX MX
    have KZ := Lib.hid (show Blk W2.drew W.heap.size 39 #[.int .i64 d0, .int .i64 t, .string d2] from KY.out.drewN 1)
    have MZ := Lib.hid (show Below W.heap.size W W2.drew from MY.out.drew)
    clear KY MY
    refine wp_region_held_drew (S := fun ws => ws.cell? ⟨W.heap.size, 0, none⟩ = some (.int .i64 d0) ∧ ws.cell? ⟨W.heap.size, 1, none⟩ = some (.int .i64 t) ∧ ws.cell? ⟨W.heap.size, 2, none⟩ = some (.string d2)) (by kernel_rfl) ⟨KZ.out.cell 0, KZ.out.cell 1, KZ.out.cell 2⟩ (fun hHeld => ?_)
    generalize W2.drew = W3 at *
    have S3 := Lib.hid (P2.out.st.below MZ.out)
    have WO := Lib.hid (without_any (some ⟨bb, off, none⟩) c M k W3 (layO S3.out.row) (by omega) (by omega))
    have s0 := S3.out.blk.cell 0
    refine wpAnyH_take (i := 0) (v := ?_) rfl (by kernel_rfl) (by kernel_rfl) (by kernel_rfl) (fun _ _ _ h => h) (Or.inl ⟨by rfl, ?_⟩) (by assumption) ?_
    rotate_left
    · (intro w hSw; (try dsimp only at hSw); first | (go_simp; done) | (go_simp; with_reducible rfl))
    simp only [Act.put, List.getElem_toArray, List.getElem_cons_zero, List.getElem_cons_succ, List.setIfInBounds_toArray, List.set_cons_zero, List.set_cons_succ]
    refine wpAnyH_take (i := 1) (v := ?_) rfl (by kernel_rfl) (by kernel_rfl) (by kernel_rfl) (fun _ _ _ h => h) (Or.inl ⟨by rfl, ?_⟩) (by assumption) ?_
    rotate_left
    · (intro w hSw; (try dsimp only at hSw); first | (go_simp; done) | (go_simp; with_reducible rfl))
    simp only [Act.put, List.getElem_toArray, List.getElem_cons_zero, List.getElem_cons_succ, List.setIfInBounds_toArray, List.set_cons_zero, List.set_cons_succ]
    refine wpAnyH_take (i := 2) (v := ?_) rfl (by kernel_rfl) (by kernel_rfl) (by kernel_rfl) (fun _ _ _ h => h) (Or.inl ⟨by rfl, ?_⟩) (by assumption) ?_
    rotate_left
    · (intro w hSw; (try dsimp only at hSw); first | (go_simp; done) | (go_simp; with_reducible rfl))
    simp only [Act.put, List.getElem_toArray, List.getElem_cons_zero, List.getElem_cons_succ, List.setIfInBounds_toArray, List.set_cons_zero, List.set_cons_succ]
    refine wpAnyH_take (i := 3) (v := ?_) rfl (by kernel_rfl) (by kernel_rfl) (by kernel_rfl) (fun _ _ _ h => h) (Or.inl ⟨by rfl, ?_⟩) (by assumption) ?_
    rotate_left
    · (intro w hSw; (try dsimp only at hSw); first | (go_simp; done) | (go_simp; with_reducible rfl))
    simp only [Act.put, List.getElem_toArray, List.getElem_cons_zero, List.getElem_cons_succ, List.setIfInBounds_toArray, List.set_cons_zero, List.set_cons_succ]
    refine wpAnyH_take (i := 5) (v := ?_) rfl (by kernel_rfl) (by kernel_rfl) (by kernel_rfl) (fun _ _ _ h => h) (Or.inl ⟨by rfl, ?_⟩) (by assumption) ?_
    rotate_left
    · (intro w hSw; (try dsimp only at hSw); first | (go_simp; done) | (go_simp; with_reducible rfl))
    simp only [Act.put, List.getElem_toArray, List.getElem_cons_zero, List.getElem_cons_succ, List.setIfInBounds_toArray, List.set_cons_zero, List.set_cons_succ]
    refine wpAnyH_take (i := 7) (v := ?_) rfl (by kernel_rfl) (by kernel_rfl) (by kernel_rfl) (fun _ _ _ h => h) (Or.inl ⟨by rfl, ?_⟩) (by assumption) ?_
    rotate_left
    · (intro w hSw; (try dsimp only at hSw); first | (go_simp; done) | (go_simp; with_reducible rfl))
    simp only [Act.put, List.getElem_toArray, List.getElem_cons_zero, List.getElem_cons_succ, List.setIfInBounds_toArray, List.set_cons_zero, List.set_cons_succ]
    refine wpAnyH_ready (rs := [4]) (by kernel_rfl) (by simp) ?_
    refine AllReadyH.cons rfl (fun K hK => ?_) AllReadyH.nil
    go_simp
    refine hK.out _ _ ⟨KZ.out.cell 0, KZ.out.cell 1, KZ.out.cell 2⟩ (fun hHeld2 => ?_)
    clear hK K hHeld s0
    refine wpAnyH_ready (rs := [6]) (by kernel_rfl) (by simp) ?_
    refine AllReadyH.cons rfl (fun K hK => ?_) AllReadyH.nil
    go_simp
    refine WO.out.mono ?_
    rintro e w4 ⟨v', rfl, ho, hb4⟩
    have hlen4 : (M.eraseIdx k).length ≤ 100000 := by have := List.length_eraseIdx_le M k; omega
    obtain ⟨A4, c4, rfl, hl4, -⟩ := ho.open_
    have PU := Lib.hid (put_any A4 c4 (M.eraseIdx k) d0 t d2 w4 hl4 hlen4)
    have K4 := Lib.hid (KZ.out.below hb4 KZ.out.lt)
    have M4 := Lib.hid (show Below W.heap.size W w4 from up MZ.out hb4 MZ.out.size)
    generalize (M.eraseIdx k).length = n4 at *
    refine hK.out _ _ ⟨K4.out.cell 0, K4.out.cell 1, K4.out.cell 2⟩ (fun hHeld3 => ?_)
    clear hK K hHeld2 ho hb4 WO hl4
    refine wpAnyH_ready (rs := [8]) (by kernel_rfl) (by simp) ?_
    refine AllReadyH.cons rfl (fun K hK => ?_) AllReadyH.nil
    go_simp
    refine PU.out.mono ?_
    rintro e w5 ⟨v', rfl, ho, hb5⟩
    obtain ⟨nn, A', c', rfl⟩ : ∃ n A c, v' = .slice A n c := by obtain ⟨A, c, e, -⟩ := ho.open_; exact ⟨_, A, c, e⟩
    have M5 := Lib.hid (show Below W.heap.size W w5 from up M4.out hb5 M4.out.size)
    have S5 := Lib.hid (P2.out.st.below M5.out)
    have K5 := Lib.hid (K4.out.below hb5 K4.out.lt)
    obtain ⟨s6, o6⟩ := S5.out.put (ho.mono (Nat.le_trans P2.out.size M4.out.size))
    have S6 := Lib.hid s6
    have O6 := Lib.hid (only_row M5.out o6)
    have K6 := Lib.hid (K5.out.far (p := ⟨sb, 0, none⟩) (fun e => ty_ne K5.out S5.out.blk (by decide) e) (.slice A' nn c'))
    have s0 := S5.out.blk.cell 0
    have f0 := S5.out.blk.free 0
    refine hK.out _ _ ⟨K5.out.cell 0, K5.out.cell 1, K5.out.cell 2⟩ (fun hHeld4 => ?_)
    clear hK K hHeld3 ho hb5 s6 o6 PU
    refine wpAnyH_take (i := 9) (v := ?_) rfl (by kernel_rfl) (by kernel_rfl) (by kernel_rfl) (fun _ _ _ h => h) (Or.inl ⟨by rfl, ?_⟩) (by assumption) ?_
    rotate_left
    · (intro w hSw; (try dsimp only at hSw); first | (go_simp; done) | (go_simp; with_reducible rfl))
    simp only [Act.put, List.getElem_toArray, List.getElem_cons_zero, List.getElem_cons_succ, List.setIfInBounds_toArray, List.set_cons_zero, List.set_cons_succ]
    refine wpAnyH_take (i := 10) (v := ?_) rfl (by kernel_rfl) (by kernel_rfl) (by kernel_rfl) (fun _ _ _ h => h) (Or.inl ⟨by rfl, ?_⟩) (by assumption) ?_
    rotate_left
    · (intro w hSw; (try dsimp only at hSw); first | (go_simp; done) | (go_simp; with_reducible rfl))
    simp only [Act.put, List.getElem_toArray, List.getElem_cons_zero, List.getElem_cons_succ, List.setIfInBounds_toArray, List.set_cons_zero, List.set_cons_succ]
    refine wpAnyH_ready (rs := [11]) (by kernel_rfl) (by simp) ?_
    refine AllReadyH.cons rfl (fun K hK => ?_) AllReadyH.nil
    go_simp
    generalize w5.setCell ⟨sb, 0, none⟩ (.slice A' nn c') = W6 at *
    refine hK.out _ _ ⟨K6.out.cell 0, K6.out.cell 1, K6.out.cell 2⟩ (fun hHeld5 => ?_)
    clear hK K hHeld4 s0 f0
    refine wpAnyH_done (by kernel_rfl) ?_ _
    clear hHeld5
    have Q6 := Lib.hid (P2.out.qs.mid P2.out.st O6.out)
    have MV := Lib.hid (move_yes Q6.out t hk (by rw [HD.out]; exact hn) (by omega) (by omega))
    rw [HD.out] at MV
    have OB6 := Lib.hid ((OB2.out.only O6.out (fun h => by
      rcases h with h | h
      · exact ty_ne OB2.out P2.out.st.blk (by decide) h
      · have := OB2.out.lt; omega)))
    have o1 := OB6.out.cell 1
    have o2 := OB6.out.cell 2
    go_wp2_with fail
    refine MV.out.mono ?_
    rintro e w7 ⟨rfl, F7, h7, m7⟩
    have FIN := Lib.hid (Pair.done BM.out BW.out P2.out.qs P2.out.lo S6.out O6.out P2.out.st h7 m7 (by rw [(ins_perm _ _).length_eq, List.length_cons, List.length_eraseIdx, if_pos hk]; have := PL.out; omega) (by omega))
    clear h7 m7 MV
    go_wp2_with fail
    go_ret
    exact ⟨rfl, FIN.out⟩
end Go.Proofs.Ytmfhellpdpfoaaa.qu
