/-
  The queue: Copy.
-/
import Derived.Test.YtmfhellpdpfoaaaQuV
import Derived.Test.YtmfhellpdpfoaaaQuClone
import Derived.Deep.RegionHeld
namespace Go.Proofs.Ytmfhellpdpfoaaa.qu
open Go.RowKit
open base (ret_bool ret_int made up Blk Only)
open rk mk
set_option linter.unusedVariables false
set_option linter.unusedSimpArgs false
variable {w w' : World} {q sb B m c : Nat} {v vl : Value} {L M : List It} {ad : Int} {F : Nat → Prop}

theorem mclone_any {b : Nat} {G : Int → Option Value} (hm : IMap w Try.prog 3 b G c) : Calls Try.prog 28 #[.map (some b)] w fun e w' => e = .returned (.map (some w.heap.size)) ∧ IMap w' Try.prog 3 w.heap.size G c ∧ Below w.heap.size w w' := by
  obtain ⟨D, h1, h2, h3⟩ := MapIs.ex hm
  refine Calls.mono (AnyW.maps_Clone_owns Ytmfhellpdpfoaaa.cloneA 3 Rv b c D w h1) ?_
  rintro e w' ⟨he, k1, k2, k3⟩
  exact ⟨he, ⟨⟨D, k1, h2, h3⟩⟩, k3⟩
theorem own_empty (w : World) (t : TypeId) : rk.Own EQ (w.alloc (.cells #[] t)) w.heap.size t (.slice (some ⟨w.heap.size, 0, none⟩) 0 0) [] :=
  ⟨rfl, .inr ⟨w.heap.size, 0, #[], rfl, Nat.le_refl _, Blk.new w t #[], Nat.le_refl _, Nat.zero_le _, rfl, rfl⟩⟩
theorem eql_nil (w : World) (a : Option Addr) (n c : Nat) : (binOp .eql 53 (.slice a n c) (.slice none 0 0)).run Try.prog w = .ok (.bool a.isNone) w := by
  simp only [binOp]
  simp [Op.equal, Op.maxDepth, run_equalIn_slice_nil w 9999 53 66 a n c Try.underlying53]
set_option maxRecDepth 100000 in
set_option maxHeartbeats 1000000 in
theorem clone_any (A : Option Addr) (c : Nat) (L : List It) (w : World) (hA : Lay EQ w A L) (hl : L.length ≤ 100000) :
    Calls Try.prog 27 #[.slice A L.length c] w fun e w' => ∃ v, e = .returned v ∧ rk.Own EQ w' w.heap.size 66 v L ∧ Below w.heap.size w w' := by
  cases A with
  | none =>
    have hL : L = [] := by
      cases L with
      | nil => rfl
      | cons d L =>
        obtain ⟨b, off, e, -⟩ := hA (by simp)
        cases e
    subst hL
    have en := eql_nil w none 0 c
    dsimp only [List.length_nil, Option.isNone] at en ⊢
    go_enter Try.func27, Try.ntmps27
    go_wp2_with fail
    go_ret
    exact ⟨_, rfl, rk.Own.nil _ _ _, Below.refl _ _⟩
  | some ad =>
    have OE := Lib.hid (own_empty w 66)
    have LY := Lib.hid (hA.below (made w (.cells #[] 66)))
    have B6 := Lib.hid (made w (.cells #[] 66))
    clear hA
    have en := eql_nil w (some ad) L.length c
    dsimp only [Option.isNone] at en
    go_enter Try.func27, Try.ntmps27
    go_wp2_with ((with_reducible show wpList _ _ _ (⟨some 7, _, _, _, _, _⟩ :: _) _ _); go_must (refine wp_app TQ (c := c) (n := L.length) rfl _ _ rfl rfl rfl rfl rfl OE.out LY.out (by simp; omega) B6.out.size ?_))
    intro v7 w7 own7 gr7
    have B7 := Lib.hid (B6.out.trans (gr7.below OE.out B6.out.size))
    have O7 := Lib.hid own7
    obtain ⟨A2, c2, rfl, -⟩ := own7.open_
    clear own7 gr7 OE LY B6
    go_wp2_with fail
    go_ret
    exact ⟨_, rfl, O7.out, B7.out⟩
set_option maxRecDepth 100000 in
set_option maxHeartbeats 2000000 in
theorem copy_at (H : QAt w q m v L ad) (hl : L.length ≤ 99000) :
    Calls Try.prog 14 #[.pointer (some ⟨q, 0, none⟩)] w fun e w' => ∃ q' m' v', e = .returned (.pointer (some ⟨q', 0, none⟩)) ∧ QAt w' q' m' v' L ad ∧ (∀ k, Foot q' m' v' k → w.heap.size ≤ k) ∧ Below w.heap.size w w' := by
  obtain ⟨A, c, rfl, hlay, -, -, -⟩ := H.open_
  obtain ⟨G, hG, hM⟩ := H.map
  have HB := Lib.hid H.blk
  have NU := Lib.hid H.nums
  have HM := Lib.hid hM
  have CL := Lib.hid (fun ws (h : Below w.heap.size w ws) => clone_any A c L ws (hlay.below h) (by omega))
  have MC := Lib.hid (fun ws (h : Below w.heap.size w ws) => mclone_any (MapIs.below hG h (MapIs.lt hG)))
  have KX := Lib.hid (fun ws (h : Below w.heap.size w ws) => (show ws.cell? ⟨q, 0, none⟩ = some (.slice A L.length c) ∧ ws.cell? ⟨q, 1, none⟩ = some (.map (some m)) ∧ ws.cell? ⟨q, 2, none⟩ = some (.int .i64 ad) from ⟨(HB.out.below h HB.out.lt).cell 0, (HB.out.below h HB.out.lt).cell 1, (HB.out.below h HB.out.lt).cell 2⟩))
  have BV := Lib.hid ((Below.refl w.heap.size w).drew)
  clear hlay hG hM H
  go_enter Try.func14, Try.ntmps14
  go_upto_region 1 with fail
  refine wp_region_held_drew (S := (fun ws => ws.cell? ⟨q, 0, none⟩ = some (.slice A L.length c) ∧ ws.cell? ⟨q, 1, none⟩ = some (.map (some m)) ∧ ws.cell? ⟨q, 2, none⟩ = some (.int .i64 ad))) (by kernel_rfl) (KX.out _ BV.out) (fun hHeld => ?_)
  refine wpAnyH_take (i := 0) (v := ?_) rfl (by kernel_rfl) (by kernel_rfl) (by kernel_rfl) (fun _ _ _ h => h) (Or.inl ⟨by rfl, ?_⟩) (by assumption) ?_
  rotate_left
  · (intro w hSw; (try dsimp only at hSw); first | (go_simp; done) | (go_simp; with_reducible rfl))
  simp only [Act.put, List.getElem_toArray, List.getElem_cons_zero, List.getElem_cons_succ, List.setIfInBounds_toArray, List.set_cons_zero, List.set_cons_succ]
  refine wpAnyH_take (i := 1) (v := ?_) rfl (by kernel_rfl) (by kernel_rfl) (by kernel_rfl) (fun _ _ _ h => h) (Or.inl ⟨by rfl, ?_⟩) (by assumption) ?_
  rotate_left
  · (intro w hSw; (try dsimp only at hSw); first | (go_simp; done) | (go_simp; with_reducible rfl))
  simp only [Act.put, List.getElem_toArray, List.getElem_cons_zero, List.getElem_cons_succ, List.setIfInBounds_toArray, List.set_cons_zero, List.set_cons_succ]
  refine wpAnyH_take (i := 2) (v := ?_) rfl (by kernel_rfl) (by kernel_rfl) (by kernel_rfl) (fun _ _ _ h => h) (Or.inl ⟨by rfl, ?_⟩) (by assumption) ?_
  rotate_left
  · (intro w hSw; (try dsimp only at hSw); first | (go_simp; done) | (go_simp; with_reducible rfl))
  simp only [Act.put, List.getElem_toArray, List.getElem_cons_zero, List.getElem_cons_succ, List.setIfInBounds_toArray, List.set_cons_zero, List.set_cons_succ]
  refine wpAnyH_take (i := 3) (v := ?_) rfl (by kernel_rfl) (by kernel_rfl) (by kernel_rfl) (fun _ _ _ h => h) (Or.inl ⟨by rfl, ?_⟩) (by assumption) ?_
  rotate_left
  · (intro w hSw; (try dsimp only at hSw); first | (go_simp; done) | (go_simp; with_reducible rfl))
  simp only [Act.put, List.getElem_toArray, List.getElem_cons_zero, List.getElem_cons_succ, List.setIfInBounds_toArray, List.set_cons_zero, List.set_cons_succ]
  refine wpAnyH_take (i := 5) (v := ?_) rfl (by kernel_rfl) (by kernel_rfl) (by kernel_rfl) (fun _ _ _ h => h) (Or.inl ⟨by rfl, ?_⟩) (by assumption) ?_
  rotate_left
  · (intro w hSw; (try dsimp only at hSw); first | (go_simp; done) | (go_simp; with_reducible rfl))
  simp only [Act.put, List.getElem_toArray, List.getElem_cons_zero, List.getElem_cons_succ, List.setIfInBounds_toArray, List.set_cons_zero, List.set_cons_succ]
  refine wpAnyH_take (i := 6) (v := ?_) rfl (by kernel_rfl) (by kernel_rfl) (by kernel_rfl) (fun _ _ _ h => h) (Or.inl ⟨by rfl, ?_⟩) (by assumption) ?_
  rotate_left
  · (intro w hSw; (try dsimp only at hSw); first | (go_simp; done) | (go_simp; with_reducible rfl))
  simp only [Act.put, List.getElem_toArray, List.getElem_cons_zero, List.getElem_cons_succ, List.setIfInBounds_toArray, List.set_cons_zero, List.set_cons_succ]
  refine wpAnyH_take (i := 7) (v := ?_) rfl (by kernel_rfl) (by kernel_rfl) (by kernel_rfl) (fun _ _ _ h => h) (Or.inl ⟨by rfl, ?_⟩) (by assumption) ?_
  rotate_left
  · (intro w hSw; (try dsimp only at hSw); first | (go_simp; done) | (go_simp; with_reducible rfl))
  simp only [Act.put, List.getElem_toArray, List.getElem_cons_zero, List.getElem_cons_succ, List.setIfInBounds_toArray, List.set_cons_zero, List.set_cons_succ]
  refine wpAnyH_take (i := 8) (v := ?_) rfl (by kernel_rfl) (by kernel_rfl) (by kernel_rfl) (fun _ _ _ h => h) (Or.inl ⟨by rfl, ?_⟩) (by assumption) ?_
  rotate_left
  · (intro w hSw; (try dsimp only at hSw); first | (go_simp; done) | (go_simp; with_reducible rfl))
  simp only [Act.put, List.getElem_toArray, List.getElem_cons_zero, List.getElem_cons_succ, List.setIfInBounds_toArray, List.set_cons_zero, List.set_cons_succ]
  refine wpAnyH_take (i := 10) (v := ?_) rfl (by kernel_rfl) (by kernel_rfl) (by kernel_rfl) (fun _ _ _ h => h) (Or.inl ⟨by rfl, ?_⟩) (by assumption) ?_
  rotate_left
  · (intro w hSw; (try dsimp only at hSw); first | (go_simp; done) | (go_simp; with_reducible rfl))
  simp only [Act.put, List.getElem_toArray, List.getElem_cons_zero, List.getElem_cons_succ, List.setIfInBounds_toArray, List.set_cons_zero, List.set_cons_succ]
  refine wpAnyH_take (i := 11) (v := ?_) rfl (by kernel_rfl) (by kernel_rfl) (by kernel_rfl) (fun _ _ _ h => h) (Or.inl ⟨by rfl, ?_⟩) (by assumption) ?_
  rotate_left
  · (intro w hSw; (try dsimp only at hSw); first | (go_simp; done) | (go_simp; with_reducible rfl))
  simp only [Act.put, List.getElem_toArray, List.getElem_cons_zero, List.getElem_cons_succ, List.setIfInBounds_toArray, List.set_cons_zero, List.set_cons_succ]
  refine wpAnyH_take (i := 12) (v := ?_) rfl (by kernel_rfl) (by kernel_rfl) (by kernel_rfl) (fun _ _ _ h => h) (Or.inl ⟨by rfl, ?_⟩) (by assumption) ?_
  rotate_left
  · (intro w hSw; (try dsimp only at hSw); first | (go_simp; done) | (go_simp; with_reducible rfl))
  simp only [Act.put, List.getElem_toArray, List.getElem_cons_zero, List.getElem_cons_succ, List.setIfInBounds_toArray, List.set_cons_zero, List.set_cons_succ]
  refine wpAnyH_take (i := 13) (v := ?_) rfl (by kernel_rfl) (by kernel_rfl) (by kernel_rfl) (fun _ _ _ h => h) (Or.inl ⟨by rfl, ?_⟩) (by assumption) ?_
  rotate_left
  · (intro w hSw; (try dsimp only at hSw); first | (go_simp; done) | (go_simp; with_reducible rfl))
  simp only [Act.put, List.getElem_toArray, List.getElem_cons_zero, List.getElem_cons_succ, List.setIfInBounds_toArray, List.set_cons_zero, List.set_cons_succ]
  refine wpAnyH_ready (rs := [4]) (by kernel_rfl) (by simp) ?_
  refine AllReadyH.cons rfl (fun K hK => ?_) AllReadyH.nil
  go_simp
  refine (CL.out _ BV.out).mono ?_
  rintro e w4 ⟨v4, rfl, ho4, hb4⟩
  have B4 := Lib.hid (up BV.out hb4 BV.out.size)
  have O4 := Lib.hid (ho4.mono BV.out.size)
  obtain ⟨A4, c4, rfl, -⟩ := ho4.open_
  refine hK.out _ _ (KX.out _ B4.out) (fun hH1 => ?_)
  clear hK K hHeld hb4 ho4 CL
  refine wpAnyH_ready (rs := [9]) (by kernel_rfl) (by simp) ?_
  refine AllReadyH.cons rfl (fun K hK => ?_) AllReadyH.nil
  go_simp
  refine (MC.out _ B4.out).mono ?_
  rintro e w5 ⟨rfl, hm5, hb5⟩
  have B5 := Lib.hid (up B4.out hb5 B4.out.size)
  have O5 := Lib.hid (O4.out.below hb5)
  have M5 := Lib.hid hm5
  have Z4 := Lib.hid B4.out.size
  refine hK.out _ _ (KX.out _ B5.out) (fun hH2 => ?_)
  clear hK K hH1 hb5 hm5 MC
  refine wpAnyH_take (i := 14) (v := ?_) rfl (by kernel_rfl) (by kernel_rfl) (by kernel_rfl) (fun _ _ _ h => h) (Or.inl ⟨by rfl, ?_⟩) (by assumption) ?_
  rotate_left
  · (intro w hSw; (try dsimp only at hSw); first | (go_simp; done) | (go_simp; with_reducible rfl))
  simp only [Act.put, List.getElem_toArray, List.getElem_cons_zero, List.getElem_cons_succ, List.setIfInBounds_toArray, List.set_cons_zero, List.set_cons_succ]
  refine wpAnyH_ready (rs := [15]) (by kernel_rfl) (by simp) ?_
  refine AllReadyH.cons rfl (fun K hK => ?_) AllReadyH.nil
  go_simp
  have B6 := Lib.hid (up B5.out (made w5 (.cells #[.slice A4 L.length c4, .map (some w4.heap.size), .int .i64 ad] 55)) B5.out.size)
  have O6 := Lib.hid (O5.out.below (made w5 (.cells #[.slice A4 L.length c4, .map (some w4.heap.size), .int .i64 ad] 55)))
  have M6 := Lib.hid (MapIs.alloc M5.out (.cells #[.slice A4 L.length c4, .map (some w4.heap.size), .int .i64 ad] 55))
  have N6 := Lib.hid (Blk.new w5 55 #[.slice A4 L.length c4, .map (some w4.heap.size), .int .i64 ad])
  have Z5 := Lib.hid B5.out.size
  refine hK.out _ _ (KX.out _ B6.out) (fun hH3 => ?_)
  clear hK K hH2
  refine wpAnyH_take (i := 16) (v := ?_) rfl (by kernel_rfl) (by kernel_rfl) (by kernel_rfl) (fun _ _ _ h => h) (Or.inl ⟨by rfl, ?_⟩) (by assumption) ?_
  rotate_left
  · (intro w hSw; (try dsimp only at hSw); first | (go_simp; done) | (go_simp; with_reducible rfl))
  simp only [Act.put, List.getElem_toArray, List.getElem_cons_zero, List.getElem_cons_succ, List.setIfInBounds_toArray, List.set_cons_zero, List.set_cons_succ]
  refine wpAnyH_done (by kernel_rfl) ?_ _
  clear hH3
  go_wp2_with fail
  go_ret
  refine ⟨_, _, _, rfl, ⟨N6.out, O6.out.mono (Nat.zero_le _), ⟨G, M6.out, HM.out⟩, NU.out⟩, fun k hk => ?_, B6.out⟩
  rcases hk with rfl | rfl | hk
  · exact Z5.out
  · exact Z4.out
  · exact (O6.out.lt' k hk).1
theorem qcopy (H : QS F w q M ad) (hl : M.length ≤ 99000) :
    Calls Try.prog 14 #[.pointer (some ⟨q, 0, none⟩)] w fun e w' => ∃ q' F', e = .returned (.pointer (some ⟨q', 0, none⟩)) ∧ QS F' w' q' M ad ∧ (∀ k, F' k → w.heap.size ≤ k) ∧ Below w.heap.size w w' := by
  have hs := H.sd
  have ha := H.ad0
  obtain ⟨m, v, L, h1, h2, h3, rfl⟩ := H.ex
  refine (copy_at h1 (by rw [h2.length_eq]; exact hl)).mono ?_
  rintro e w' ⟨q', m', v', rfl, hq, hf, hb⟩
  exact ⟨q', _, rfl, ⟨⟨m', v', L, hq, h2, h3, rfl⟩, hs, ha⟩, hf, hb⟩
end Go.Proofs.Ytmfhellpdpfoaaa.qu
