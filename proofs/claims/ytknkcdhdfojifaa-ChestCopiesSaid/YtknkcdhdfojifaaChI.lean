/-
  One call of both: the chests and the list.
-/
import Derived.Test.YtknkcdhdfojifaaChG
namespace Go.Proofs.Ytknkcdhdfojifaa.ch
open Go.RowKit
open base (ret_bool ret_int made up Blk Only)
open rk mk
set_option linter.unusedVariables false
set_option linter.unusedSimpArgs false

set_option maxRecDepth 100000 in
set_option maxHeartbeats 2000000 in
theorem step1_yes (A : Option Addr) (c : Nat) (L : List C2) (n i r : Int) (Bx B g b cn : Nat) (w : World) (hd : CAt w B g b L cn) (ho : Own E2 w Bx 37 (.slice A L.length c) L) (hl : L.length ≤ 1000) (hcn : cn ≤ 1000) (hB : B ≤ w.heap.size) (hX : Bx ≤ w.heap.size) (hwn : (Lit.int .i64 n).wf = true) (he : buildErr L n r = 0) :
    Calls Try.prog 9 #[.pointer (some ⟨g, 0, none⟩), .slice A L.length c, .agg #[.int .i64 1, .int .i64 n, .int .i64 i, .int .i64 r]] w (StepP Bx B g b cn (L ++ [(n, r)]) w) := by
  have hm := made w (.cells #[.int .i64 1, .int .i64 n, .int .i64 i, .int .i64 r] 28)
  have O2 := Lib.hid (rk.Own.below ho hm)
  have D2 := Lib.hid (hd.below hm)
  have BO2 := Lib.hid (Blk.new w 28 #[.int .i64 1, .int .i64 n, .int .i64 i, .int .i64 r])
  have T2_ := Lib.hid (show Tch B b w (w.alloc (.cells #[.int .i64 1, .int .i64 n, .int .i64 i, .int .i64 r] 28)) from Tch.of_below hm)
  have HB := Lib.hid (Nat.le_trans hB hm.size)
  have HX := Lib.hid (Nat.le_trans hX hm.size)
  clear ho hd hm hB hX
  generalize hw2 : w.alloc (.cells #[.int .i64 1, .int .i64 n, .int .i64 i, .int .i64 r] 28) = w2 at *
  have o0 := BO2.out.cell 0
  have o1 := BO2.out.cell 1
  have o2 := BO2.out.cell 2
  have o3 := BO2.out.cell 3
  have BY := Lib.hid (build_yes (r := r) D2.out hwn (by omega) (by omega) HB.out he)
  obtain ⟨q1, q2, q3⟩ := build_ok he
  have q1a : decide (n < 1) = false := by simpa using q1
  have RL := Lib.hid (fun ws (h : Lay E2 ws A L) => rlen_any A c L n ws h (by omega))
  have RN := Lib.hid (fun ws => rneed_any r ws)
  rw [q2] at RN
  have hnl := nd_len L n
  generalize (nd L n).length = z at *
  have hwz : IntKind.i64.wrap ((z : Int) + 1) = (z : Int) + 1 := IntWalk.i64_in _ (by omega)
  clear he hwn q1 q2
  go_enter Try.func9, Try.ntmps9
  go_wp2_with (rw [hw2])
  refine BY.out.mono ?_
  rintro e w3 ⟨rfl, c3, hd3, ht3, hc3⟩
  obtain ⟨fm, hfm⟩ := D2.out.map
  have O3 := Lib.hid (own_tch O2.out hfm ht3 (by decide))
  have BO3 := Lib.hid (ht3.blk BO2.out hfm (by decide))
  have D3 := Lib.hid hd3
  have T3 := Lib.hid (Only.trans T2_.out ht3 (fun k hk h => tch_back T2_.out hk h))
  have HX3 := Lib.hid (Nat.le_trans HX.out ht3.size)
  clear hfm hd3 ht3 BY o0 o1 o2 o3 hw2
  have o1 := BO3.out.cell 1
  have o3 := BO3.out.cell 3
  go_wp2_with fail
  refine (RL.out _ (Own.lay O3.out)).mono ?_
  rintro e w4 ⟨rfl, rfl⟩
  go_wp2_with fail
  refine (RN.out _).mono ?_
  rintro e w4 ⟨rfl, rfl⟩
  go_upto_region 11 with fail
  have hdr := (Below.refl w3.heap.size w3).drew
  have D5 := Lib.hid (show CAt w3.drew B g b (L ++ [(n, r)]) c3 from D3.out.below hdr)
  have O5 := Lib.hid (show rk.Own E2 w3.drew Bx 37 (.slice A L.length c) L from rk.Own.below O3.out hdr)
  have BO5 := Lib.hid (show Blk w3.drew w.heap.size 28 #[.int .i64 1, .int .i64 n, .int .i64 i, .int .i64 r] from BO3.out.below hdr BO3.out.lt)
  have T5 := Lib.hid (show Tch B b w w3.drew from Tch.then_ T3.out hdr)
  have HX5 := Lib.hid (show Bx ≤ w3.drew.heap.size from HX3.out)
  clear D3 O3 BO3 T3 HX3 hdr o1 o3
  refine wp_region_held_drew (S := fun ws => ws.cell? ⟨w.heap.size, 1, none⟩ = some (.int .i64 n) ∧ ws.cell? ⟨w.heap.size, 3, none⟩ = some (.int .i64 r)) (by kernel_rfl) ⟨BO5.out.cell 1, BO5.out.cell 3⟩ (fun hHeld => ?_)
  generalize w3.drew = W at *
  have SS := Lib.hid (show ∀ ws, Below W.heap.size W ws → ws.cell? ⟨w.heap.size, 1, none⟩ = some (.int .i64 n) ∧ ws.cell? ⟨w.heap.size, 3, none⟩ = some (.int .i64 r) from fun ws h => ⟨(BO5.out.below h BO5.out.lt).cell 1, (BO5.out.below h BO5.out.lt).cell 3⟩)
  have LY := Lib.hid (Own.lay O5.out)
  refine wpAnyH_take (i := 1) (v := ?_) rfl (by kernel_rfl) (by kernel_rfl) (by kernel_rfl) (fun _ _ _ h => h) (Or.inl ⟨by rfl, ?_⟩) (by assumption) ?_
  rotate_left
  · (intro w hSw; (try dsimp only at hSw); first | (go_simp; done) | (go_simp; with_reducible rfl))
  simp only [Act.put, List.getElem_toArray, List.getElem_cons_zero, List.getElem_cons_succ, List.setIfInBounds_toArray, List.set_cons_zero, List.set_cons_succ]
  refine wpAnyH_take (i := 3) (v := ?_) rfl (by kernel_rfl) (by kernel_rfl) (by kernel_rfl) (fun _ _ _ h => h) (Or.inl ⟨by rfl, ?_⟩) (by assumption) ?_
  rotate_left
  · (intro w hSw; (try dsimp only at hSw); first | (go_simp; done) | (go_simp; with_reducible rfl))
  simp only [Act.put, List.getElem_toArray, List.getElem_cons_zero, List.getElem_cons_succ, List.setIfInBounds_toArray, List.set_cons_zero, List.set_cons_succ]
  refine wpAnyH_take (i := 4) (v := ?_) rfl (by kernel_rfl) (by kernel_rfl) (by kernel_rfl) (fun _ _ _ h => h) (Or.inl ⟨by rfl, ?_⟩) (by assumption) ?_
  rotate_left
  · (intro w hSw; (try dsimp only at hSw); first | (go_simp; done) | (go_simp; with_reducible rfl))
  simp only [Act.put, List.getElem_toArray, List.getElem_cons_zero, List.getElem_cons_succ, List.setIfInBounds_toArray, List.set_cons_zero, List.set_cons_succ]
  refine wpAnyH_take (i := 5) (v := ?_) rfl (by kernel_rfl) (by kernel_rfl) (by kernel_rfl) (fun _ _ _ h => h) (Or.inl ⟨by rfl, ?_⟩) (by assumption) ?_
  rotate_left
  · (intro w hSw; (try dsimp only at hSw); first | (go_simp; done) | (go_simp; with_reducible rfl))
  simp only [Act.put, List.getElem_toArray, List.getElem_cons_zero, List.getElem_cons_succ, List.setIfInBounds_toArray, List.set_cons_zero, List.set_cons_succ]
  refine wpAnyH_take (i := 6) (v := ?_) rfl (by kernel_rfl) (by kernel_rfl) (by kernel_rfl) (fun _ _ _ h => h) (Or.inl ⟨by rfl, ?_⟩) (by assumption) ?_
  rotate_left
  · (intro w hSw; (try dsimp only at hSw); first | (go_simp; done) | (go_simp; with_reducible rfl))
  simp only [Act.put, List.getElem_toArray, List.getElem_cons_zero, List.getElem_cons_succ, List.setIfInBounds_toArray, List.set_cons_zero, List.set_cons_succ]
  refine wpAnyH_take (i := 7) (v := ?_) rfl (by kernel_rfl) (by kernel_rfl) (by kernel_rfl) (fun _ _ _ h => h) (Or.inl ⟨by rfl, ?_⟩) (by assumption) ?_
  rotate_left
  · (intro w hSw; (try dsimp only at hSw); first | (go_simp; done) | (go_simp; with_reducible rfl))
  simp only [Act.put, List.getElem_toArray, List.getElem_cons_zero, List.getElem_cons_succ, List.setIfInBounds_toArray, List.set_cons_zero, List.set_cons_succ]
  refine wpAnyH_take (i := 10) (v := ?_) rfl (by kernel_rfl) (by kernel_rfl) (by kernel_rfl) (fun _ _ _ h => h) (Or.inl ⟨by rfl, ?_⟩) (by assumption) ?_
  rotate_left
  · (intro w hSw; (try dsimp only at hSw); first | (go_simp; done) | (go_simp; with_reducible rfl))
  simp only [Act.put, List.getElem_toArray, List.getElem_cons_zero, List.getElem_cons_succ, List.setIfInBounds_toArray, List.set_cons_zero, List.set_cons_succ]
  refine wpAnyH_take (i := 11) (v := ?_) rfl (by kernel_rfl) (by kernel_rfl) (by kernel_rfl) (fun _ _ _ h => h) (Or.inl ⟨by rfl, ?_⟩) (by assumption) ?_
  rotate_left
  · (intro w hSw; (try dsimp only at hSw); first | (go_simp; done) | (go_simp; with_reducible rfl))
  simp only [Act.put, List.getElem_toArray, List.getElem_cons_zero, List.getElem_cons_succ, List.setIfInBounds_toArray, List.set_cons_zero, List.set_cons_succ]
  refine wpAnyH_ready (rs := [0, 8]) (by kernel_rfl) (by simp) ?_
  refine AllReadyH.cons rfl (fun K hK => ?_) (AllReadyH.cons rfl (fun K hK => ?_) AllReadyH.nil)
  · have hma := made W (.cells #[] 37)
    have SA := Lib.hid (SS.out _ hma)
    clear hma
    go_simp
    refine hK.out _ _ SA.out (fun hH1 => ?_)
    clear hK K hHeld SA
    refine wpAnyH_ready (rs := [2, 8]) (by kernel_rfl) (by simp) ?_
    refine AllReadyH.cons rfl (fun K hK => ?_) (AllReadyH.cons rfl (fun K hK => ?_) AllReadyH.nil)
    · obtain ⟨v2, W2, v4, W4, hr2, hr4, hb2, own4, hb4⟩ := two_a W A c L n r LY.out (by omega)
      rw [if_pos (by rfl)]
      refine op_app (.tmp 64) (.tmp 65) rfl rfl rfl rfl hr2 ?_
      simp only [Act.put, List.setIfInBounds_toArray, List.set_cons_zero, List.set_cons_succ]
      refine hK.out _ _ (SS.out _ hb2) (fun hH2 => ?_)
      clear hK K hH1 hr2
      have hmx := SS.out _ (up hb2 (made W2 (.cells #[.int .i64 n, .int .i64 r] 37)) hb2.size)
      refine wpAnyH_ready (rs := [8]) (by kernel_rfl) (by simp) ?_
      refine AllReadyH.cons rfl (fun K hK => ?_) AllReadyH.nil
      go_simp
      refine hK.out _ _ hmx (fun hH3 => ?_)
      clear hK K hH2 hmx
      refine wpAnyH_ready (rs := [9]) (by kernel_rfl) (by simp) ?_
      refine AllReadyH.cons rfl (fun K hK => ?_) AllReadyH.nil
      rw [if_pos (by rfl)]
      refine op_app (.tmp 66) (.tmp 72) rfl rfl rfl rfl hr4 ?_
      simp only [Act.put, List.setIfInBounds_toArray, List.set_cons_zero, List.set_cons_succ]
      refine hK.out _ _ (SS.out _ hb4) (fun hHX => ?_)
      clear hK K hr4
      clear hH3 hb2
      refine wpAnyH_take (i := 12) (v := ?_) rfl (by kernel_rfl) (by kernel_rfl) (by kernel_rfl) (fun _ _ _ h => h) (Or.inl ⟨by rfl, ?_⟩) (by assumption) ?_
      rotate_left
      · (intro w hSw; (try dsimp only at hSw); first | (go_simp; done) | (go_simp; with_reducible rfl))
      simp only [Act.put, List.getElem_toArray, List.getElem_cons_zero, List.getElem_cons_succ, List.setIfInBounds_toArray, List.set_cons_zero, List.set_cons_succ]
      refine wpAnyH_take (i := 13) (v := ?_) rfl (by kernel_rfl) (by kernel_rfl) (by kernel_rfl) (fun _ _ _ h => h) (Or.inl ⟨by rfl, ?_⟩) (by assumption) ?_
      rotate_left
      · (intro w hSw; (try dsimp only at hSw); first | (go_simp; done) | (go_simp; with_reducible rfl))
      simp only [Act.put, List.getElem_toArray, List.getElem_cons_zero, List.getElem_cons_succ, List.setIfInBounds_toArray, List.set_cons_zero, List.set_cons_succ]
      refine wpAnyH_take (i := 14) (v := ?_) rfl (by kernel_rfl) (by kernel_rfl) (by kernel_rfl) (fun _ _ _ h => h) (Or.inl ⟨by rfl, ?_⟩) (by assumption) ?_
      rotate_left
      · (intro w hSw; (try dsimp only at hSw); first | (go_simp; done) | (go_simp; with_reducible rfl))
      simp only [Act.put, List.getElem_toArray, List.getElem_cons_zero, List.getElem_cons_succ, List.setIfInBounds_toArray, List.set_cons_zero, List.set_cons_succ]
      refine wpAnyH_take (i := 15) (v := ?_) rfl (by kernel_rfl) (by kernel_rfl) (by kernel_rfl) (fun _ _ _ h => h) (Or.inl ⟨by rfl, ?_⟩) (by assumption) ?_
      rotate_left
      · (intro w hSw; (try dsimp only at hSw); first | (go_simp; done) | (go_simp; with_reducible rfl))
      simp only [Act.put, List.getElem_toArray, List.getElem_cons_zero, List.getElem_cons_succ, List.setIfInBounds_toArray, List.set_cons_zero, List.set_cons_succ]
      refine wpAnyH_take (i := 16) (v := ?_) rfl (by kernel_rfl) (by kernel_rfl) (by kernel_rfl) (fun _ _ _ h => h) (Or.inl ⟨by rfl, ?_⟩) (by assumption) ?_
      rotate_left
      · (intro w hSw; (try dsimp only at hSw); first | (go_simp; done) | (go_simp; with_reducible rfl))
      simp only [Act.put, List.getElem_toArray, List.getElem_cons_zero, List.getElem_cons_succ, List.setIfInBounds_toArray, List.set_cons_zero, List.set_cons_succ]
      refine wpAnyH_take (i := 17) (v := ?_) rfl (by kernel_rfl) (by kernel_rfl) (by kernel_rfl) (fun _ _ _ h => h) (Or.inl ⟨by rfl, ?_⟩) (by assumption) ?_
      rotate_left
      · (intro w hSw; (try dsimp only at hSw); first | (go_simp; done) | (go_simp; with_reducible rfl))
      simp only [Act.put, List.getElem_toArray, List.getElem_cons_zero, List.getElem_cons_succ, List.setIfInBounds_toArray, List.set_cons_zero, List.set_cons_succ]
      refine wpAnyH_take (i := 18) (v := ?_) rfl (by kernel_rfl) (by kernel_rfl) (by kernel_rfl) (fun _ _ _ h => h) (Or.inl ⟨by rfl, ?_⟩) (by assumption) ?_
      rotate_left
      · (intro w hSw; (try dsimp only at hSw); first | (go_simp; done) | (go_simp; with_reducible rfl))
      simp only [Act.put, List.getElem_toArray, List.getElem_cons_zero, List.getElem_cons_succ, List.setIfInBounds_toArray, List.set_cons_zero, List.set_cons_succ]
      refine wpAnyH_take (i := 19) (v := ?_) rfl (by kernel_rfl) (by kernel_rfl) (by kernel_rfl) (fun _ _ _ h => h) (Or.inl ⟨by rfl, ?_⟩) (by assumption) ?_
      rotate_left
      · (intro w hSw; (try dsimp only at hSw); first | (go_simp; done) | (go_simp; with_reducible rfl))
      simp only [Act.put, List.getElem_toArray, List.getElem_cons_zero, List.getElem_cons_succ, List.setIfInBounds_toArray, List.set_cons_zero, List.set_cons_succ]
      refine wpAnyH_done (by kernel_rfl) ?_ _
      have P4 := Lib.hid own4
      have Y4 := Lib.hid hb4
      clear own4 hb4 hHX
      go_wp2_with fail
      go_ret2
      exact ⟨_, _, rfl, D5.out.below Y4.out, hc3, P4.out.mono HX5.out, Tch.then_ T5.out Y4.out⟩
    · have hmb := SS.out _ (((made W (.cells #[] 37))).alloc (o := (.cells #[.int .i64 n, .int .i64 r] 37)) (by rw [asz]; omega))
      go_simp
      refine hK.out _ _ hmb (fun hH2 => ?_)
      clear hK K hH1 hmb
      obtain ⟨v2, W2, v4, W4, hr2, hr4, hb2, own4, hb4⟩ := two_b W ((W.alloc (.cells #[] 37)).alloc (.cells #[.int .i64 n, .int .i64 r] 37)) W.heap.size (W.heap.size + 1) A c L n r LY.out (by omega) ((made W (.cells #[] 37)).alloc (by rw [asz]; omega) _) ((Blk.new _ _ _).alloc _) (by have := Blk.new (W.alloc (.cells #[] 37)) 37 #[.int .i64 n, .int .i64 r]; rw [asz] at this; exact this) (by omega) (by omega)
      refine wpAnyH_ready (rs := [2]) (by kernel_rfl) (by simp) ?_
      refine AllReadyH.cons rfl (fun K hK => ?_) AllReadyH.nil
      rw [if_pos (by rfl)]
      refine op_app (.tmp 64) (.tmp 65) rfl rfl rfl rfl hr2 ?_
      simp only [Act.put, List.setIfInBounds_toArray, List.set_cons_zero, List.set_cons_succ]
      refine hK.out _ _ (SS.out _ hb2) (fun hH3 => ?_)
      clear hK K hH2 hr2
      refine wpAnyH_ready (rs := [9]) (by kernel_rfl) (by simp) ?_
      refine AllReadyH.cons rfl (fun K hK => ?_) AllReadyH.nil
      rw [if_pos (by rfl)]
      refine op_app (.tmp 66) (.tmp 72) rfl rfl rfl rfl hr4 ?_
      simp only [Act.put, List.setIfInBounds_toArray, List.set_cons_zero, List.set_cons_succ]
      refine hK.out _ _ (SS.out _ hb4) (fun hHX => ?_)
      clear hK K hr4
      clear hH3 hb2
      refine wpAnyH_take (i := 12) (v := ?_) rfl (by kernel_rfl) (by kernel_rfl) (by kernel_rfl) (fun _ _ _ h => h) (Or.inl ⟨by rfl, ?_⟩) (by assumption) ?_
      rotate_left
      · (intro w hSw; (try dsimp only at hSw); first | (go_simp; done) | (go_simp; with_reducible rfl))
      simp only [Act.put, List.getElem_toArray, List.getElem_cons_zero, List.getElem_cons_succ, List.setIfInBounds_toArray, List.set_cons_zero, List.set_cons_succ]
      refine wpAnyH_take (i := 13) (v := ?_) rfl (by kernel_rfl) (by kernel_rfl) (by kernel_rfl) (fun _ _ _ h => h) (Or.inl ⟨by rfl, ?_⟩) (by assumption) ?_
      rotate_left
      · (intro w hSw; (try dsimp only at hSw); first | (go_simp; done) | (go_simp; with_reducible rfl))
      simp only [Act.put, List.getElem_toArray, List.getElem_cons_zero, List.getElem_cons_succ, List.setIfInBounds_toArray, List.set_cons_zero, List.set_cons_succ]
      refine wpAnyH_take (i := 14) (v := ?_) rfl (by kernel_rfl) (by kernel_rfl) (by kernel_rfl) (fun _ _ _ h => h) (Or.inl ⟨by rfl, ?_⟩) (by assumption) ?_
      rotate_left
      · (intro w hSw; (try dsimp only at hSw); first | (go_simp; done) | (go_simp; with_reducible rfl))
      simp only [Act.put, List.getElem_toArray, List.getElem_cons_zero, List.getElem_cons_succ, List.setIfInBounds_toArray, List.set_cons_zero, List.set_cons_succ]
      refine wpAnyH_take (i := 15) (v := ?_) rfl (by kernel_rfl) (by kernel_rfl) (by kernel_rfl) (fun _ _ _ h => h) (Or.inl ⟨by rfl, ?_⟩) (by assumption) ?_
      rotate_left
      · (intro w hSw; (try dsimp only at hSw); first | (go_simp; done) | (go_simp; with_reducible rfl))
      simp only [Act.put, List.getElem_toArray, List.getElem_cons_zero, List.getElem_cons_succ, List.setIfInBounds_toArray, List.set_cons_zero, List.set_cons_succ]
      refine wpAnyH_take (i := 16) (v := ?_) rfl (by kernel_rfl) (by kernel_rfl) (by kernel_rfl) (fun _ _ _ h => h) (Or.inl ⟨by rfl, ?_⟩) (by assumption) ?_
      rotate_left
      · (intro w hSw; (try dsimp only at hSw); first | (go_simp; done) | (go_simp; with_reducible rfl))
      simp only [Act.put, List.getElem_toArray, List.getElem_cons_zero, List.getElem_cons_succ, List.setIfInBounds_toArray, List.set_cons_zero, List.set_cons_succ]
      refine wpAnyH_take (i := 17) (v := ?_) rfl (by kernel_rfl) (by kernel_rfl) (by kernel_rfl) (fun _ _ _ h => h) (Or.inl ⟨by rfl, ?_⟩) (by assumption) ?_
      rotate_left
      · (intro w hSw; (try dsimp only at hSw); first | (go_simp; done) | (go_simp; with_reducible rfl))
      simp only [Act.put, List.getElem_toArray, List.getElem_cons_zero, List.getElem_cons_succ, List.setIfInBounds_toArray, List.set_cons_zero, List.set_cons_succ]
      refine wpAnyH_take (i := 18) (v := ?_) rfl (by kernel_rfl) (by kernel_rfl) (by kernel_rfl) (fun _ _ _ h => h) (Or.inl ⟨by rfl, ?_⟩) (by assumption) ?_
      rotate_left
      · (intro w hSw; (try dsimp only at hSw); first | (go_simp; done) | (go_simp; with_reducible rfl))
      simp only [Act.put, List.getElem_toArray, List.getElem_cons_zero, List.getElem_cons_succ, List.setIfInBounds_toArray, List.set_cons_zero, List.set_cons_succ]
      refine wpAnyH_take (i := 19) (v := ?_) rfl (by kernel_rfl) (by kernel_rfl) (by kernel_rfl) (fun _ _ _ h => h) (Or.inl ⟨by rfl, ?_⟩) (by assumption) ?_
      rotate_left
      · (intro w hSw; (try dsimp only at hSw); first | (go_simp; done) | (go_simp; with_reducible rfl))
      simp only [Act.put, List.getElem_toArray, List.getElem_cons_zero, List.getElem_cons_succ, List.setIfInBounds_toArray, List.set_cons_zero, List.set_cons_succ]
      refine wpAnyH_done (by kernel_rfl) ?_ _
      have P4 := Lib.hid own4
      have Y4 := Lib.hid hb4
      clear own4 hb4 hHX
      go_wp2_with fail
      go_ret2
      exact ⟨_, _, rfl, D5.out.below Y4.out, hc3, P4.out.mono HX5.out, Tch.then_ T5.out Y4.out⟩
  · have hma := made W (.cells #[.int .i64 n, .int .i64 r] 37)
    have SA := Lib.hid (SS.out _ hma)
    clear hma
    go_simp
    refine hK.out _ _ SA.out (fun hH1 => ?_)
    clear hK K hHeld SA
    have hmb := SS.out _ (((made W (.cells #[.int .i64 n, .int .i64 r] 37))).alloc (o := (.cells #[] 37)) (by rw [asz]; omega))
    refine wpAnyH_ready (rs := [0]) (by kernel_rfl) (by simp) ?_
    refine AllReadyH.cons rfl (fun K hK => ?_) AllReadyH.nil
    go_simp
    refine hK.out _ _ hmb (fun hH2 => ?_)
    clear hK K hH1 hmb
    obtain ⟨v2, W2, v4, W4, hr2, hr4, hb2, own4, hb4⟩ := two_b W ((W.alloc (.cells #[.int .i64 n, .int .i64 r] 37)).alloc (.cells #[] 37)) (W.heap.size + 1) W.heap.size A c L n r LY.out (by omega) ((made W (.cells #[.int .i64 n, .int .i64 r] 37)).alloc (by rw [asz]; omega) _) (by have := Blk.new (W.alloc (.cells #[.int .i64 n, .int .i64 r] 37)) 37 #[]; rw [asz] at this; exact this) ((Blk.new _ _ _).alloc _) (by omega) (by omega)
    refine wpAnyH_ready (rs := [2]) (by kernel_rfl) (by simp) ?_
    refine AllReadyH.cons rfl (fun K hK => ?_) AllReadyH.nil
    rw [if_pos (by rfl)]
    refine op_app (.tmp 64) (.tmp 65) rfl rfl rfl rfl hr2 ?_
    simp only [Act.put, List.setIfInBounds_toArray, List.set_cons_zero, List.set_cons_succ]
    refine hK.out _ _ (SS.out _ hb2) (fun hH3 => ?_)
    clear hK K hH2 hr2
    refine wpAnyH_ready (rs := [9]) (by kernel_rfl) (by simp) ?_
    refine AllReadyH.cons rfl (fun K hK => ?_) AllReadyH.nil
    rw [if_pos (by rfl)]
    refine op_app (.tmp 66) (.tmp 72) rfl rfl rfl rfl hr4 ?_
    simp only [Act.put, List.setIfInBounds_toArray, List.set_cons_zero, List.set_cons_succ]
    refine hK.out _ _ (SS.out _ hb4) (fun hHX => ?_)
    clear hK K hr4
    clear hH3 hb2
    refine wpAnyH_take (i := 12) (v := ?_) rfl (by kernel_rfl) (by kernel_rfl) (by kernel_rfl) (fun _ _ _ h => h) (Or.inl ⟨by rfl, ?_⟩) (by assumption) ?_
    rotate_left
    · (intro w hSw; (try dsimp only at hSw); first | (go_simp; done) | (go_simp; with_reducible rfl))
    simp only [Act.put, List.getElem_toArray, List.getElem_cons_zero, List.getElem_cons_succ, List.setIfInBounds_toArray, List.set_cons_zero, List.set_cons_succ]
    refine wpAnyH_take (i := 13) (v := ?_) rfl (by kernel_rfl) (by kernel_rfl) (by kernel_rfl) (fun _ _ _ h => h) (Or.inl ⟨by rfl, ?_⟩) (by assumption) ?_
    rotate_left
    · (intro w hSw; (try dsimp only at hSw); first | (go_simp; done) | (go_simp; with_reducible rfl))
    simp only [Act.put, List.getElem_toArray, List.getElem_cons_zero, List.getElem_cons_succ, List.setIfInBounds_toArray, List.set_cons_zero, List.set_cons_succ]
    refine wpAnyH_take (i := 14) (v := ?_) rfl (by kernel_rfl) (by kernel_rfl) (by kernel_rfl) (fun _ _ _ h => h) (Or.inl ⟨by rfl, ?_⟩) (by assumption) ?_
    rotate_left
    · (intro w hSw; (try dsimp only at hSw); first | (go_simp; done) | (go_simp; with_reducible rfl))
    simp only [Act.put, List.getElem_toArray, List.getElem_cons_zero, List.getElem_cons_succ, List.setIfInBounds_toArray, List.set_cons_zero, List.set_cons_succ]
    refine wpAnyH_take (i := 15) (v := ?_) rfl (by kernel_rfl) (by kernel_rfl) (by kernel_rfl) (fun _ _ _ h => h) (Or.inl ⟨by rfl, ?_⟩) (by assumption) ?_
    rotate_left
    · (intro w hSw; (try dsimp only at hSw); first | (go_simp; done) | (go_simp; with_reducible rfl))
    simp only [Act.put, List.getElem_toArray, List.getElem_cons_zero, List.getElem_cons_succ, List.setIfInBounds_toArray, List.set_cons_zero, List.set_cons_succ]
    refine wpAnyH_take (i := 16) (v := ?_) rfl (by kernel_rfl) (by kernel_rfl) (by kernel_rfl) (fun _ _ _ h => h) (Or.inl ⟨by rfl, ?_⟩) (by assumption) ?_
    rotate_left
    · (intro w hSw; (try dsimp only at hSw); first | (go_simp; done) | (go_simp; with_reducible rfl))
    simp only [Act.put, List.getElem_toArray, List.getElem_cons_zero, List.getElem_cons_succ, List.setIfInBounds_toArray, List.set_cons_zero, List.set_cons_succ]
    refine wpAnyH_take (i := 17) (v := ?_) rfl (by kernel_rfl) (by kernel_rfl) (by kernel_rfl) (fun _ _ _ h => h) (Or.inl ⟨by rfl, ?_⟩) (by assumption) ?_
    rotate_left
    · (intro w hSw; (try dsimp only at hSw); first | (go_simp; done) | (go_simp; with_reducible rfl))
    simp only [Act.put, List.getElem_toArray, List.getElem_cons_zero, List.getElem_cons_succ, List.setIfInBounds_toArray, List.set_cons_zero, List.set_cons_succ]
    refine wpAnyH_take (i := 18) (v := ?_) rfl (by kernel_rfl) (by kernel_rfl) (by kernel_rfl) (fun _ _ _ h => h) (Or.inl ⟨by rfl, ?_⟩) (by assumption) ?_
    rotate_left
    · (intro w hSw; (try dsimp only at hSw); first | (go_simp; done) | (go_simp; with_reducible rfl))
    simp only [Act.put, List.getElem_toArray, List.getElem_cons_zero, List.getElem_cons_succ, List.setIfInBounds_toArray, List.set_cons_zero, List.set_cons_succ]
    refine wpAnyH_take (i := 19) (v := ?_) rfl (by kernel_rfl) (by kernel_rfl) (by kernel_rfl) (fun _ _ _ h => h) (Or.inl ⟨by rfl, ?_⟩) (by assumption) ?_
    rotate_left
    · (intro w hSw; (try dsimp only at hSw); first | (go_simp; done) | (go_simp; with_reducible rfl))
    simp only [Act.put, List.getElem_toArray, List.getElem_cons_zero, List.getElem_cons_succ, List.setIfInBounds_toArray, List.set_cons_zero, List.set_cons_succ]
    refine wpAnyH_done (by kernel_rfl) ?_ _
    have P4 := Lib.hid own4
    have Y4 := Lib.hid hb4
    clear own4 hb4 hHX
    go_wp2_with fail
    go_ret2
    exact ⟨_, _, rfl, D5.out.below Y4.out, hc3, P4.out.mono HX5.out, Tch.then_ T5.out Y4.out⟩
end Go.Proofs.Ytknkcdhdfojifaa.ch
