/-
  One call of both: the chests and the list.
-/
import Derived.Test.YtknkcdhdfojifaaChG
namespace Go.Proofs.Ytknkcdhdfojifaa.ch
open Go.RowKit
open base (ret_bool ret_int made up Blk Only)
open rk mk
set_option linter.unusedVariables false
set_option linter.unusedSimpArgs false

set_option maxRecDepth 100000 in
set_option maxHeartbeats 2000000 in
theorem step3_any (A : Option Addr) (c : Nat) (L : List C2) (n i r : Int) (Bx B g b cn : Nat) (w : World) (hd : CAt w B g b L cn) (ho : Own E2 w Bx 37 (.slice A L.length c) L) (hl : L.length ≤ 1000) (hcn : cn ≤ 1000) (hB : B ≤ w.heap.size) (hX : Bx ≤ w.heap.size) (hwn : (Lit.int .i64 n).wf = true) :
    Calls Try.prog 9 #[.pointer (some ⟨g, 0, none⟩), .slice A L.length c, .agg #[.int .i64 3, .int .i64 n, .int .i64 i, .int .i64 r]] w (StepP Bx B g b cn (woL L n) w) := by
  have hm := made w (.cells #[.int .i64 3, .int .i64 n, .int .i64 i, .int .i64 r] 28)
  have O2 := Lib.hid (rk.Own.below ho hm)
  have D2 := Lib.hid (hd.below hm)
  have BO2 := Lib.hid (Blk.new w 28 #[.int .i64 3, .int .i64 n, .int .i64 i, .int .i64 r])
  have T2_ := Lib.hid (show Tch B b w (w.alloc (.cells #[.int .i64 3, .int .i64 n, .int .i64 i, .int .i64 r] 28)) from Tch.of_below hm)
  have HB := Lib.hid (Nat.le_trans hB hm.size)
  have HX := Lib.hid (Nat.le_trans hX hm.size)
  clear ho hd hm hB hX
  generalize hw2 : w.alloc (.cells #[.int .i64 3, .int .i64 n, .int .i64 i, .int .i64 r] 28) = w2 at *
  have o0 := BO2.out.cell 0
  have o1 := BO2.out.cell 1
  have o2 := BO2.out.cell 2
  have o3 := BO2.out.cell 3
  have hdr := (Below.refl w2.heap.size w2).drew
  have D3 := Lib.hid (show CAt w2.drew B g b L cn from D2.out.below hdr)
  have O3 := Lib.hid (show rk.Own E2 w2.drew Bx 37 (.slice A L.length c) L from rk.Own.below O2.out hdr)
  have BO3 := Lib.hid (show Blk w2.drew w.heap.size 28 #[.int .i64 3, .int .i64 n, .int .i64 i, .int .i64 r] from BO2.out.below hdr BO2.out.lt)
  have T3 := Lib.hid (show Tch B b w w2.drew from Tch.then_ T2_.out hdr)
  have HX3 := Lib.hid (show Bx ≤ w2.drew.heap.size from HX.out)
  have WO := Lib.hid (rwithout_any A c L n Bx w2.drew (Own.lay O3.out) (by omega) HX3.out)
  have CL := Lib.hid (fun ws (h : CAt ws B g b L cn) => clear_any h hwn)
  have RL := Lib.hid (fun ws (h : Lay E2 ws A L) => rlen_any A c L n ws h (by omega))
  have hnl := nd_len L n
  generalize (nd L n).length = z at *
  clear hdr hwn D2 O2 T2_ HX
  go_enter Try.func9, Try.ntmps9
  go_wp2_with (rw [hw2])
  go_upto_region 23 with fail
  refine wp_region_held_drew (S := fun ws => ws.cell? ⟨w.heap.size, 1, none⟩ = some (.int .i64 n)) (by kernel_rfl) (BO3.out.cell 1) (fun hHeld => ?_)
  clear o0 o1 o2 o3 BO2 hw2
  generalize w2.drew = W at *
  refine wpAnyH_take (i := 0) (v := ?_) rfl (by kernel_rfl) (by kernel_rfl) (by kernel_rfl) (fun _ _ _ h => h) (Or.inl ⟨by rfl, ?_⟩) (by assumption) ?_
  rotate_left
  · (intro w hSw; (try dsimp only at hSw); first | (go_simp; done) | (go_simp; with_reducible rfl))
  simp only [Act.put, List.getElem_toArray, List.getElem_cons_zero, List.getElem_cons_succ, List.setIfInBounds_toArray, List.set_cons_zero, List.set_cons_succ]
  refine wpAnyH_take (i := 1) (v := ?_) rfl (by kernel_rfl) (by kernel_rfl) (by kernel_rfl) (fun _ _ _ h => h) (Or.inl ⟨by rfl, ?_⟩) (by assumption) ?_
  rotate_left
  · (intro w hSw; (try dsimp only at hSw); first | (go_simp; done) | (go_simp; with_reducible rfl))
  simp only [Act.put, List.getElem_toArray, List.getElem_cons_zero, List.getElem_cons_succ, List.setIfInBounds_toArray, List.set_cons_zero, List.set_cons_succ]
  refine wpAnyH_take (i := 2) (v := ?_) rfl (by kernel_rfl) (by kernel_rfl) (by kernel_rfl) (fun _ _ _ h => h) (Or.inl ⟨by rfl, ?_⟩) (by assumption) ?_
  rotate_left
  · (intro w hSw; (try dsimp only at hSw); first | (go_simp; done) | (go_simp; with_reducible rfl))
  simp only [Act.put, List.getElem_toArray, List.getElem_cons_zero, List.getElem_cons_succ, List.setIfInBounds_toArray, List.set_cons_zero, List.set_cons_succ]
  refine wpAnyH_take (i := 4) (v := ?_) rfl (by kernel_rfl) (by kernel_rfl) (by kernel_rfl) (fun _ _ _ h => h) (Or.inl ⟨by rfl, ?_⟩) (by assumption) ?_
  rotate_left
  · (intro w hSw; (try dsimp only at hSw); first | (go_simp; done) | (go_simp; with_reducible rfl))
  simp only [Act.put, List.getElem_toArray, List.getElem_cons_zero, List.getElem_cons_succ, List.setIfInBounds_toArray, List.set_cons_zero, List.set_cons_succ]
  refine wpAnyH_take (i := 5) (v := ?_) rfl (by kernel_rfl) (by kernel_rfl) (by kernel_rfl) (fun _ _ _ h => h) (Or.inl ⟨by rfl, ?_⟩) (by assumption) ?_
  rotate_left
  · (intro w hSw; (try dsimp only at hSw); first | (go_simp; done) | (go_simp; with_reducible rfl))
  simp only [Act.put, List.getElem_toArray, List.getElem_cons_zero, List.getElem_cons_succ, List.setIfInBounds_toArray, List.set_cons_zero, List.set_cons_succ]
  refine wpAnyH_take (i := 6) (v := ?_) rfl (by kernel_rfl) (by kernel_rfl) (by kernel_rfl) (fun _ _ _ h => h) (Or.inl ⟨by rfl, ?_⟩) (by assumption) ?_
  rotate_left
  · (intro w hSw; (try dsimp only at hSw); first | (go_simp; done) | (go_simp; with_reducible rfl))
  simp only [Act.put, List.getElem_toArray, List.getElem_cons_zero, List.getElem_cons_succ, List.setIfInBounds_toArray, List.set_cons_zero, List.set_cons_succ]
  refine wpAnyH_take (i := 8) (v := ?_) rfl (by kernel_rfl) (by kernel_rfl) (by kernel_rfl) (fun _ _ _ h => h) (Or.inl ⟨by rfl, ?_⟩) (by assumption) ?_
  rotate_left
  · (intro w hSw; (try dsimp only at hSw); first | (go_simp; done) | (go_simp; with_reducible rfl))
  simp only [Act.put, List.getElem_toArray, List.getElem_cons_zero, List.getElem_cons_succ, List.setIfInBounds_toArray, List.set_cons_zero, List.set_cons_succ]
  refine wpAnyH_take (i := 9) (v := ?_) rfl (by kernel_rfl) (by kernel_rfl) (by kernel_rfl) (fun _ _ _ h => h) (Or.inl ⟨by rfl, ?_⟩) (by assumption) ?_
  rotate_left
  · (intro w hSw; (try dsimp only at hSw); first | (go_simp; done) | (go_simp; with_reducible rfl))
  simp only [Act.put, List.getElem_toArray, List.getElem_cons_zero, List.getElem_cons_succ, List.setIfInBounds_toArray, List.set_cons_zero, List.set_cons_succ]
  refine wpAnyH_take (i := 10) (v := ?_) rfl (by kernel_rfl) (by kernel_rfl) (by kernel_rfl) (fun _ _ _ h => h) (Or.inl ⟨by rfl, ?_⟩) (by assumption) ?_
  rotate_left
  · (intro w hSw; (try dsimp only at hSw); first | (go_simp; done) | (go_simp; with_reducible rfl))
  simp only [Act.put, List.getElem_toArray, List.getElem_cons_zero, List.getElem_cons_succ, List.setIfInBounds_toArray, List.set_cons_zero, List.set_cons_succ]
  refine wpAnyH_ready (rs := [3]) (by kernel_rfl) (by simp) ?_
  refine AllReadyH.cons rfl (fun K hK => ?_) AllReadyH.nil
  go_simp
  refine WO.out.mono ?_
  rintro e w4 ⟨v4, rfl, ho4, hb4⟩
  have D4 := Lib.hid (D3.out.below hb4)
  have O4 := Lib.hid (rk.Own.below O3.out hb4)
  have P4 := Lib.hid ho4
  have BO4 := Lib.hid (BO3.out.below hb4 BO3.out.lt)
  have T4 := Lib.hid (Tch.then_ T3.out hb4)
  clear ho4 hb4 WO D3 O3 BO3 T3
  refine hK.out _ _ (BO4.out.cell 1) (fun hH1 => ?_)
  clear hK K hHeld
  refine wpAnyH_ready (rs := [7]) (by kernel_rfl) (by simp) ?_
  refine AllReadyH.cons rfl (fun K hK => ?_) AllReadyH.nil
  go_simp
  refine (CL.out _ D4.out).mono ?_
  rintro e w5 ⟨rfl, c5, hd5, ht5, hc5⟩
  obtain ⟨fm, hfm⟩ := D4.out.map
  have O5 := Lib.hid (own_tch O4.out hfm ht5 (by decide))
  have P5 := Lib.hid (own_tch P4.out hfm ht5 (by decide))
  have BO5 := Lib.hid (ht5.blk BO4.out hfm (by decide))
  have D5 := Lib.hid hd5
  have T5 := Lib.hid (Only.trans T4.out ht5 (fun k hk h => tch_back T4.out hk h))
  clear hfm hd5 ht5 CL D4 O4 P4 BO4 T4
  refine hK.out _ _ (BO5.out.cell 1) (fun hH2 => ?_)
  clear hK K hH1
  refine wpAnyH_ready (rs := [11]) (by kernel_rfl) (by simp) ?_
  refine AllReadyH.cons rfl (fun K hK => ?_) AllReadyH.nil
  go_simp
  refine (RL.out _ (Own.lay O5.out)).mono ?_
  rintro e w6 ⟨rfl, rfl⟩
  refine hK.out _ _ (BO5.out.cell 1) (fun hH3 => ?_)
  clear hK K hH2
  refine wpAnyH_take (i := 12) (v := ?_) rfl (by kernel_rfl) (by kernel_rfl) (by kernel_rfl) (fun _ _ _ h => h) (Or.inl ⟨by rfl, ?_⟩) (by assumption) ?_
  rotate_left
  · (intro w hSw; (try dsimp only at hSw); first | (go_simp; done) | (go_simp; with_reducible rfl))
  simp only [Act.put, List.getElem_toArray, List.getElem_cons_zero, List.getElem_cons_succ, List.setIfInBounds_toArray, List.set_cons_zero, List.set_cons_succ]
  refine wpAnyH_take (i := 13) (v := ?_) rfl (by kernel_rfl) (by kernel_rfl) (by kernel_rfl) (fun _ _ _ h => h) (Or.inl ⟨by rfl, ?_⟩) (by assumption) ?_
  rotate_left
  · (intro w hSw; (try dsimp only at hSw); first | (go_simp; done) | (go_simp; with_reducible rfl))
  simp only [Act.put, List.getElem_toArray, List.getElem_cons_zero, List.getElem_cons_succ, List.setIfInBounds_toArray, List.set_cons_zero, List.set_cons_succ]
  refine wpAnyH_take (i := 14) (v := ?_) rfl (by kernel_rfl) (by kernel_rfl) (by kernel_rfl) (fun _ _ _ h => h) (Or.inl ⟨by rfl, ?_⟩) (by assumption) ?_
  rotate_left
  · (intro w hSw; (try dsimp only at hSw); first | (go_simp; done) | (go_simp; with_reducible rfl))
  simp only [Act.put, List.getElem_toArray, List.getElem_cons_zero, List.getElem_cons_succ, List.setIfInBounds_toArray, List.set_cons_zero, List.set_cons_succ]
  refine wpAnyH_done (by kernel_rfl) ?_ _
  clear hH3
  go_wp2_with fail
  go_ret2
  exact ⟨_, _, rfl, D5.out, by omega, P5.out, T5.out⟩
set_option maxRecDepth 100000 in
set_option maxHeartbeats 2000000 in
theorem step0_any (k : Int) (A : Option Addr) (c : Nat) (L : List C2) (n i r : Int) (Bx B g b cn : Nat) (w : World) (hd : CAt w B g b L cn) (ho : Own E2 w Bx 37 (.slice A L.length c) L) (hl : L.length ≤ 1000) (hcn : cn ≤ 1000) (hB : B ≤ w.heap.size) (hX : Bx ≤ w.heap.size) (hwn : (Lit.int .i64 n).wf = true) (h1 : k ≠ 1) (h2 : k ≠ 2) (h3 : k ≠ 3) :
    Calls Try.prog 9 #[.pointer (some ⟨g, 0, none⟩), .slice A L.length c, .agg #[.int .i64 k, .int .i64 n, .int .i64 i, .int .i64 r]] w (StepP Bx B g b cn L w) := by
  have hm := made w (.cells #[.int .i64 k, .int .i64 n, .int .i64 i, .int .i64 r] 28)
  have O2 := Lib.hid (rk.Own.below ho hm)
  have D2 := Lib.hid (hd.below hm)
  have BO2 := Lib.hid (Blk.new w 28 #[.int .i64 k, .int .i64 n, .int .i64 i, .int .i64 r])
  have T2_ := Lib.hid (show Tch B b w (w.alloc (.cells #[.int .i64 k, .int .i64 n, .int .i64 i, .int .i64 r] 28)) from Tch.of_below hm)
  have HB := Lib.hid (Nat.le_trans hB hm.size)
  have HX := Lib.hid (Nat.le_trans hX hm.size)
  clear ho hd hm hB hX
  generalize hw2 : w.alloc (.cells #[.int .i64 k, .int .i64 n, .int .i64 i, .int .i64 r] 28) = w2 at *
  have o0 := BO2.out.cell 0
  have o1 := BO2.out.cell 1
  have o2 := BO2.out.cell 2
  have o3 := BO2.out.cell 3
  have q1 : (k == 1) = false := by simpa using h1
  have q2 : (k == 2) = false := by simpa using h2
  have q3 : (k == 3) = false := by simpa using h3
  clear hwn h1 h2 h3
  go_enter Try.func9, Try.ntmps9
  go_wp2_with (rw [hw2])
  go_ret2
  exact ⟨_, _, rfl, D2.out, by omega, O2.out, T2_.out⟩
end Go.Proofs.Ytknkcdhdfojifaa.ch
