/-
  The queue: an item is brought to where it belongs.
-/
import Derived.Test.YtmgfnhbhgmpchaaQiC
import Derived.LoopTactic
namespace Go.Proofs.Ytmgfnhbhgmpchaa.qu
open Go.RowKit
open base (ret_bool ret_int made up Blk Only)
open rk mk
set_option linter.unusedVariables false
set_option linter.unusedSimpArgs false
variable {w w' : World} {q m : Nat} {v : Value} {L : List It} {ad : Int}

/-- what of the heap is read of two items -/
def Cs (q m g c n : Nat) (i j : Nat) (L : List It) (ws : World) : Prop := ws.cell? ⟨q, 0, none⟩ = some (.slice (some ⟨g, 0, none⟩) n c) ∧ ws.cell? ⟨g, i * 3, none⟩ = some (.int .i64 (at_ L i).1) ∧ ws.cell? ⟨g, i * 3 + 1, none⟩ = some (.int .i64 (at_ L i).2.1) ∧ ws.cell? ⟨g, i * 3 + 2, none⟩ = some (.int .i64 (at_ L i).2.2) ∧ ws.cell? ⟨g, j * 3, none⟩ = some (.int .i64 (at_ L j).1) ∧ ws.cell? ⟨g, j * 3 + 1, none⟩ = some (.int .i64 (at_ L j).2.1) ∧ ws.cell? ⟨g, j * 3 + 2, none⟩ = some (.int .i64 (at_ L j).2.2)
theorem Cs.of {g c n : Nat} (H : QAt w q m (.slice (some ⟨g, 0, none⟩) n c) L ad) {i j : Nat} (hi : i < L.length) (hj : j < L.length) : Cs q m g c n i j L w := by
  obtain ⟨i0, i1, i2, -⟩ := own_nz H.own (by omega) i hi
  obtain ⟨j0, j1, j2, -⟩ := own_nz H.own (by omega) j hj
  exact ⟨H.blk.cell 0, i0, i1, i2, j0, j1, j2⟩
theorem foot_of_below {F : Nat → Prop} (h : Below w.heap.size w w') : Only F w w' := (Only.refl F w).below h (fun i h1 h2 => by omega)
theorem lt_dec (a b : It) : decide (oi a b < 0) = decide (lt a b) := by
  by_cases h : lt a b
  · rw [decide_eq_true h, decide_eq_true ((oi_lt a b).2 h)]
  · rw [decide_eq_false h, decide_eq_false (fun q => h ((oi_lt a b).1 q))]
def SetP (q m : Nat) (v : Value) (L : List It) (ad : Int) (w : World) (e : Ending) (w' : World) : Prop := e = .returned (.tuple #[]) ∧ ∃ L', L'.Perm L ∧ Heap L' ∧ QAt w' q m v L' ad ∧ Only (Foot q m v) w w'
set_option maxRecDepth 100000 in
set_option maxHeartbeats 8000000 in
theorem settle_any (H : QAt w q m v L ad) {i : Nat} (hu : UpI L i) (hl : L.length ≤ 100000) (had : ad ≤ 100000) :
    Calls Try.prog 52 #[.pointer (some ⟨q, 0, none⟩), .int .i64 i] w (SetP q m v L ad w) := by
  obtain ⟨g, c, e, hc, hcm, -, -⟩ := H.full (by have := hu.lt_; omega)
  generalize hn : L.length = n at *
  subst e
  have HH := Lib.hid H
  have HU := Lib.hid hu
  have HN := Lib.hid hn
  clear H hu hn
  go_enter Try.func52, Try.ntmps52
  go_wp2_with fail
  go_loopw [1] (fun i wr => ∃ (k : Nat) (W : World) (L1 : List It), W = wr ∧ i = .int .i64 k ∧ UpI L1 k ∧ L1.Perm L ∧ QAt wr q m (.slice (some ⟨g, 0, none⟩) n c) L1 ad ∧ Only (Foot q m (.slice (some ⟨g, 0, none⟩) n c)) w wr) (fun i _ => (intOf i).toNat)
  case atStart => exact ⟨i, _, L, rfl, rfl, HU.out, List.Perm.refl _, HH.out, Only.refl _ _⟩
  case round =>
  obtain ⟨k, w1, L1, rfl, rfl, hu1, hp1, H1, hO1⟩ := hrel
  have PP := Lib.hid hp1
  have H2 := Lib.hid H1
  have O1 := Lib.hid hO1
  have U1 := Lib.hid hu1
  have ln := Lib.hid (hp1.length_eq.trans HN.out)
  have hkn : k < n := by rw [← ln.out]; exact hu1.lt_
  clear hp1 H1 hO1 hu1 HU HH
  obtain ⟨p, hp⟩ : ∃ p, p = par k := ⟨_, rfl⟩
  obtain ⟨b, hb⟩ : ∃ b : Bool, b = true ↔ (0 < k ∧ lt (at_ L1 k) (at_ L1 p)) := ⟨decide (0 < k ∧ lt (at_ L1 k) (at_ L1 p)), by simp⟩
  have HP := Lib.hid hp
  have HB := Lib.hid hb
  have q0_ : 0 < k → IntKind.i64.wrap (((k : Int) - 1).tdiv 2) = (p : Int) := fun h0 => by
    rw [Int.tdiv_eq_ediv_of_nonneg (by omega), hp, show ((k : Int) - 1) / 2 = ((par k : Nat) : Int) by unfold par; omega]
    have := par_lt h0
    exact IntWalk.i64_in _ (by omega)
  have Q0 := Lib.hid q0_
  have hpn : p < n := by
    rw [hp]
    unfold par
    omega
  have H3 := Lib.hid (H2.out.below (Below.refl w1.heap.size w1).drew)
  have O3 := Lib.hid (O1.out.drewN 1)
  change Hid (Only _ w w1.drew) at O3
  clear hp hb q0_
  go_upto_region 0 with fail
  go_cut [27] from 6 to 36 (fun s27 wx => s27 = .bool b ∧ QAt wx q m (.slice (some ⟨g, 0, none⟩) n c) L1 ad ∧ Only (Foot q m (.slice (some ⟨g, 0, none⟩) n c)) w wx)
  case first =>
    by_cases h0 : 0 < k
    · have t0 : decide (0 < k) = true := decide_eq_true h0
      have w1_ : IntKind.i64.wrap ((k : Int) - 1) = (k : Int) - 1 := IntWalk.i64_in _ (by omega)
      have q1_ := Q0.out h0
      have CS := Lib.hid (show Cs q m g c n k p L1 w1.drew from Cs.of H3.out (by rw [ln.out]; exact hkn) (by rw [ln.out]; exact hpn))
      clear H2 O1
      refine wp_region_held_drew (S := fun ws => ws.cell? ⟨q, 0, none⟩ = some (.slice (some ⟨g, 0, none⟩) n c) ∧ ws.cell? ⟨g, k * 3, none⟩ = some (.int .i64 (at_ L1 k).1) ∧ ws.cell? ⟨g, k * 3 + 1, none⟩ = some (.int .i64 (at_ L1 k).2.1) ∧ ws.cell? ⟨g, k * 3 + 2, none⟩ = some (.int .i64 (at_ L1 k).2.2) ∧ ws.cell? ⟨g, p * 3, none⟩ = some (.int .i64 (at_ L1 p).1) ∧ ws.cell? ⟨g, p * 3 + 1, none⟩ = some (.int .i64 (at_ L1 p).2.1) ∧ ws.cell? ⟨g, p * 3 + 2, none⟩ = some (.int .i64 (at_ L1 p).2.2)) (by kernel_rfl) CS.out (fun hHeld => ?_)
      generalize w1.drew = W at *
      have OC := Lib.hid (order_any (at_ L1 k) (at_ L1 p) W)
      refine wpAnyH_take (i := 0) (v := ?_) rfl (by kernel_rfl) (by kernel_rfl) (by kernel_rfl) (fun _ _ _ h => h) (Or.inl ⟨by rfl, ?_⟩) (by assumption) ?_
      rotate_left
      · (intro w hSw; (try dsimp only at hSw); first | (go_simp; done) | (go_simp; with_reducible rfl))
      simp only [Act.put, List.getElem_toArray, List.getElem_cons_zero, List.getElem_cons_succ, List.setIfInBounds_toArray, List.set_cons_zero, List.set_cons_succ]
      refine wpAnyH_take (i := 1) (v := ?_) rfl (by kernel_rfl) (by kernel_rfl) (by kernel_rfl) (fun _ _ _ h => h) (Or.inl ⟨by rfl, ?_⟩) (by assumption) ?_
      rotate_left
      · (intro w hSw; (try dsimp only at hSw); first | (go_simp; done) | (go_simp; with_reducible rfl))
      simp only [Act.put, List.getElem_toArray, List.getElem_cons_zero, List.getElem_cons_succ, List.setIfInBounds_toArray, List.set_cons_zero, List.set_cons_succ]
      refine wpAnyH_take (i := 2) (v := ?_) rfl (by kernel_rfl) (by kernel_rfl) (by kernel_rfl) (fun _ _ _ h => h) (Or.inl ⟨by rfl, ?_⟩) (by assumption) ?_
      rotate_left
      · (intro w hSw; (try dsimp only at hSw); first | (go_simp; done) | (go_simp; with_reducible rfl))
      simp only [Act.put, List.getElem_toArray, List.getElem_cons_zero, List.getElem_cons_succ, List.setIfInBounds_toArray, List.set_cons_zero, List.set_cons_succ]
      refine wpAnyH_take (i := 3) (v := ?_) rfl (by kernel_rfl) (by kernel_rfl) (by kernel_rfl) (fun _ _ _ h => h) (Or.inl ⟨by rfl, ?_⟩) (by assumption) ?_
      rotate_left
      · (intro w hSw; (try dsimp only at hSw); first | (go_simp; done) | (go_simp; with_reducible rfl))
      simp only [Act.put, List.getElem_toArray, List.getElem_cons_zero, List.getElem_cons_succ, List.setIfInBounds_toArray, List.set_cons_zero, List.set_cons_succ]
      refine wpAnyH_take (i := 4) (v := ?_) rfl (by kernel_rfl) (by kernel_rfl) (by kernel_rfl) (fun _ _ _ h => h) (Or.inl ⟨by rfl, ?_⟩) (by assumption) ?_
      rotate_left
      · (intro w hSw; (try dsimp only at hSw); first | (go_simp; done) | (go_simp; with_reducible rfl))
      simp only [Act.put, List.getElem_toArray, List.getElem_cons_zero, List.getElem_cons_succ, List.setIfInBounds_toArray, List.set_cons_zero, List.set_cons_succ]
      refine wpAnyH_take (i := 5) (v := ?_) rfl (by kernel_rfl) (by kernel_rfl) (by kernel_rfl) (fun _ _ _ h => h) (Or.inl ⟨by rfl, ?_⟩) (by assumption) ?_
      rotate_left
      · (intro w hSw; (try dsimp only at hSw); first | (go_simp; done) | (go_simp; with_reducible rfl))
      simp only [Act.put, List.getElem_toArray, List.getElem_cons_zero, List.getElem_cons_succ, List.setIfInBounds_toArray, List.set_cons_zero, List.set_cons_succ]
      refine wpAnyH_take (i := 6) (v := ?_) rfl (by kernel_rfl) (by kernel_rfl) (by kernel_rfl) (fun _ _ _ h => h) (Or.inl ⟨by rfl, ?_⟩) (by assumption) ?_
      rotate_left
      · (intro w hSw; (try dsimp only at hSw); first | (go_simp; done) | (go_simp; with_reducible rfl))
      simp only [Act.put, List.getElem_toArray, List.getElem_cons_zero, List.getElem_cons_succ, List.setIfInBounds_toArray, List.set_cons_zero, List.set_cons_succ]
      refine wpAnyH_take (i := 7) (v := ?_) rfl (by kernel_rfl) (by kernel_rfl) (by kernel_rfl) (fun _ _ _ h => h) (Or.inl ⟨by rfl, ?_⟩) (by assumption) ?_
      rotate_left
      · (intro w hSw; (try dsimp only at hSw); first | (go_simp; done) | (go_simp; with_reducible rfl))
      simp only [Act.put, List.getElem_toArray, List.getElem_cons_zero, List.getElem_cons_succ, List.setIfInBounds_toArray, List.set_cons_zero, List.set_cons_succ]
      refine wpAnyH_take (i := 8) (v := ?_) rfl (by kernel_rfl) (by kernel_rfl) (by kernel_rfl) (fun _ _ _ h => h) (Or.inl ⟨by rfl, ?_⟩) (by assumption) ?_
      rotate_left
      · (intro w hSw; (try dsimp only at hSw); first | (go_simp; done) | (go_simp; with_reducible rfl))
      simp only [Act.put, List.getElem_toArray, List.getElem_cons_zero, List.getElem_cons_succ, List.setIfInBounds_toArray, List.set_cons_zero, List.set_cons_succ]
      refine wpAnyH_take (i := 9) (v := ?_) rfl (by kernel_rfl) (by kernel_rfl) (by kernel_rfl) (fun _ _ _ h => h) (Or.inl ⟨by rfl, ?_⟩) (by assumption) ?_
      rotate_left
      · (intro w hSw; (try dsimp only at hSw); first | (go_simp; done) | (go_simp; with_reducible rfl))
      simp only [Act.put, List.getElem_toArray, List.getElem_cons_zero, List.getElem_cons_succ, List.setIfInBounds_toArray, List.set_cons_zero, List.set_cons_succ]
      refine wpAnyH_take (i := 10) (v := ?_) rfl (by kernel_rfl) (by kernel_rfl) (by kernel_rfl) (fun _ _ _ h => h) (Or.inl ⟨by rfl, ?_⟩) (by assumption) ?_
      rotate_left
      · (intro w hSw; (try dsimp only at hSw); first | (go_simp; done) | (go_simp; with_reducible rfl))
      simp only [Act.put, List.getElem_toArray, List.getElem_cons_zero, List.getElem_cons_succ, List.setIfInBounds_toArray, List.set_cons_zero, List.set_cons_succ]
      refine wpAnyH_take (i := 11) (v := ?_) rfl (by kernel_rfl) (by kernel_rfl) (by kernel_rfl) (fun _ _ _ h => h) (Or.inl ⟨by rfl, ?_⟩) (by assumption) ?_
      rotate_left
      · (intro w hSw; (try dsimp only at hSw); first | (go_simp; done) | (go_simp; with_reducible rfl))
      simp only [Act.put, List.getElem_toArray, List.getElem_cons_zero, List.getElem_cons_succ, List.setIfInBounds_toArray, List.set_cons_zero, List.set_cons_succ]
      refine wpAnyH_take (i := 12) (v := ?_) rfl (by kernel_rfl) (by kernel_rfl) (by kernel_rfl) (fun _ _ _ h => h) (Or.inl ⟨by rfl, ?_⟩) (by assumption) ?_
      rotate_left
      · (intro w hSw; (try dsimp only at hSw); first | (go_simp; done) | (go_simp; with_reducible rfl))
      simp only [Act.put, List.getElem_toArray, List.getElem_cons_zero, List.getElem_cons_succ, List.setIfInBounds_toArray, List.set_cons_zero, List.set_cons_succ]
      refine wpAnyH_take (i := 13) (v := ?_) rfl (by kernel_rfl) (by kernel_rfl) (by kernel_rfl) (fun _ _ _ h => h) (Or.inl ⟨by rfl, ?_⟩) (by assumption) ?_
      rotate_left
      · (intro w hSw; (try dsimp only at hSw); first | (go_simp; done) | (go_simp; with_reducible rfl))
      simp only [Act.put, List.getElem_toArray, List.getElem_cons_zero, List.getElem_cons_succ, List.setIfInBounds_toArray, List.set_cons_zero, List.set_cons_succ]
      refine wpAnyH_take (i := 14) (v := ?_) rfl (by kernel_rfl) (by kernel_rfl) (by kernel_rfl) (fun _ _ _ h => h) (Or.inl ⟨by rfl, ?_⟩) (by assumption) ?_
      rotate_left
      · (intro w hSw; (try dsimp only at hSw); first | (go_simp; done) | (go_simp; with_reducible rfl))
      simp only [Act.put, List.getElem_toArray, List.getElem_cons_zero, List.getElem_cons_succ, List.setIfInBounds_toArray, List.set_cons_zero, List.set_cons_succ]
      refine wpAnyH_take (i := 15) (v := ?_) rfl (by kernel_rfl) (by kernel_rfl) (by kernel_rfl) (fun _ _ _ h => h) (Or.inl ⟨by rfl, ?_⟩) (by assumption) ?_
      rotate_left
      · (intro w hSw; (try dsimp only at hSw); first | (go_simp; done) | (go_simp; with_reducible rfl))
      simp only [Act.put, List.getElem_toArray, List.getElem_cons_zero, List.getElem_cons_succ, List.setIfInBounds_toArray, List.set_cons_zero, List.set_cons_succ]
      refine wpAnyH_take (i := 16) (v := ?_) rfl (by kernel_rfl) (by kernel_rfl) (by kernel_rfl) (fun _ _ _ h => h) (Or.inl ⟨by rfl, ?_⟩) (by assumption) ?_
      rotate_left
      · (intro w hSw; (try dsimp only at hSw); first | (go_simp; done) | (go_simp; with_reducible rfl))
      simp only [Act.put, List.getElem_toArray, List.getElem_cons_zero, List.getElem_cons_succ, List.setIfInBounds_toArray, List.set_cons_zero, List.set_cons_succ]
      refine wpAnyH_take (i := 17) (v := ?_) rfl (by kernel_rfl) (by kernel_rfl) (by kernel_rfl) (fun _ _ _ h => h) (Or.inl ⟨by rfl, ?_⟩) (by assumption) ?_
      rotate_left
      · (intro w hSw; (try dsimp only at hSw); first | (go_simp; done) | (go_simp; with_reducible rfl))
      simp only [Act.put, List.getElem_toArray, List.getElem_cons_zero, List.getElem_cons_succ, List.setIfInBounds_toArray, List.set_cons_zero, List.set_cons_succ]
      refine wpAnyH_take (i := 18) (v := ?_) rfl (by kernel_rfl) (by kernel_rfl) (by kernel_rfl) (fun _ _ _ h => h) (Or.inl ⟨by rfl, ?_⟩) (by assumption) ?_
      rotate_left
      · (intro w hSw; (try dsimp only at hSw); first | (go_simp; done) | (go_simp; with_reducible rfl))
      simp only [Act.put, List.getElem_toArray, List.getElem_cons_zero, List.getElem_cons_succ, List.setIfInBounds_toArray, List.set_cons_zero, List.set_cons_succ]
      refine wpAnyH_ready (rs := [19]) (by kernel_rfl) (by simp) ?_
      refine AllReadyH.cons rfl (fun K hK => ?_) AllReadyH.nil
      go_simp
      refine OC.out.mono ?_
      rintro e w2 ⟨rfl, hb2⟩
      have H4 := Lib.hid (H3.out.below hb2)
      have O4 := Lib.hid (Only.trans O3.out (foot_of_below (F := Foot q m (.slice (some ⟨g, 0, none⟩) n c)) hb2) (fun _ _ h => h))
      refine hK.out _ _ (show Cs q m g c n k p L1 w2 from Cs.of H4.out (by rw [ln.out]; exact hkn) (by rw [ln.out]; exact hpn)) (fun hHeld2 => ?_)
      clear hK K hHeld hb2 OC CS H3 O3
      have hbb : decide (oi (at_ L1 k) (at_ L1 p) < 0) = b := by
        rw [lt_dec]
        cases b with
        | true => exact decide_eq_true ((HB.out.1 rfl).2)
        | false => exact decide_eq_false (fun h => by have := HB.out.2 ⟨h0, h⟩; cases this)
      refine wpAnyH_take (i := 20) (v := ?_) rfl (by kernel_rfl) (by kernel_rfl) (by kernel_rfl) (fun _ _ _ h => h) (Or.inl ⟨by rfl, ?_⟩) (by assumption) ?_
      rotate_left
      · (intro w hSw; (try dsimp only at hSw); first | (go_simp; done) | (go_simp; with_reducible rfl))
      simp only [Act.put, List.getElem_toArray, List.getElem_cons_zero, List.getElem_cons_succ, List.setIfInBounds_toArray, List.set_cons_zero, List.set_cons_succ]
      refine wpAnyH_take (i := 21) (v := ?_) rfl (by kernel_rfl) (by kernel_rfl) (by kernel_rfl) (fun _ _ _ h => h) (Or.inl ⟨by rfl, ?_⟩) (by assumption) ?_
      rotate_left
      · (intro w hSw; (try dsimp only at hSw); first | (go_simp; done) | (go_simp; with_reducible rfl))
      simp only [Act.put, List.getElem_toArray, List.getElem_cons_zero, List.getElem_cons_succ, List.setIfInBounds_toArray, List.set_cons_zero, List.set_cons_succ]
      refine wpAnyH_done (by kernel_rfl) ?_ _
      clear hHeld2
      go_wp2_with fail
      go_meet
      case rel => exact ⟨rfl, H4.out, O4.out⟩
    · have t0 : decide (0 < k) = false := decide_eq_false h0
      obtain rfl : b = false := by
        cases b with
        | true => exact absurd (HB.out.1 rfl).1 h0
        | false => rfl
      go_wp2_with fail
      go_quiet (fail)
      go_wp2_with fail
      go_meet
      case rel => exact ⟨rfl, H2.out.keep (fun _ _ => rfl), O1.out.drewN _⟩
  case rest =>
  obtain ⟨rfl, H4_, O4_⟩ := hcut
  have H4 := Lib.hid H4_
  have O4 := Lib.hid O4_
  clear H4_ O4_ H3 O3 H2 O1
  rcases (show b = true ∨ b = false by cases b <;> simp) with rfl | rfl
  · have hb2 := HB.out.1 rfl
    have q1_ := Q0.out hb2.1
    have w1_ : IntKind.i64.wrap ((k : Int) - 1) = (k : Int) - 1 := IntWalk.i64_in _ (by omega)
    have SW := Lib.hid (swap_any H4.out (i := k) (j := p) (by rw [ln.out]; exact hkn) (by rw [ln.out]; exact hpn) (by rw [ln.out]; exact hl) had)
    have UP := Lib.hid (show UpI (swp L1 k p) p by rw [HP.out]; exact U1.out.up hb2.1 (by rw [← HP.out]; exact hb2.2))
    have hpk : p < k := by rw [HP.out]; exact par_lt hb2.1
    clear hb2
    go_wp2_with fail
    refine SW.out.mono ?_
    rintro e w5 ⟨rfl, H5, O5⟩
    have H6 := Lib.hid H5
    have O6 := Lib.hid (Only.trans O4.out O5 (fun _ _ h => h))
    have PR := Lib.hid ((swp_perm (L := L1) (i := k) (j := p) (by rw [ln.out]; exact hkn) (by rw [ln.out]; exact hpn)).trans PP.out)
    clear H5 O5 SW
    go_wp2_with fail
    refine ⟨⟨p, _, _, rfl, by go_num, UP.out, PR.out, H6.out, O6.out⟩, by simp [intOf]; omega⟩
  · have DN := Lib.hid (U1.out.stop (by
      by_cases h0 : 0 < k
      · exact .inr (fun h => by have := HB.out.2 ⟨h0, by rw [HP.out]; exact h⟩; cases this)
      · exact .inl (by omega)))
    clear U1 Q0 HB HP hpn hkn ln
    go_wp2_with fail
    go_loopw [1, 4, 5] (fun i f kd wr => ∃ (k2 : Nat) (W : World) (L2 : List It), W = wr ∧ i = .int .i64 k2 ∧ DnI L2 k2 ∧ L2.Perm L ∧ QAt wr q m (.slice (some ⟨g, 0, none⟩) n c) L2 ad ∧ Only (Foot q m (.slice (some ⟨g, 0, none⟩) n c)) w wr) (fun i _ _ _ => n - (intOf i).toNat)
    case atStart => exact ⟨k, _, L1, rfl, rfl, DN.out, PP.out, H4.out, O4.out⟩
    case round =>
    obtain ⟨k2, w5, L2, rfl, rfl, dn2, pp2, h5, o5⟩ := hrel
    have D2 := Lib.hid dn2
    have P2 := Lib.hid pp2
    have H5 := Lib.hid h5
    have O5 := Lib.hid o5
    have ln2 := Lib.hid (pp2.length_eq.trans HN.out)
    have hkn2 : k2 < n := by rw [← ln2.out]; exact dn2.lt_
    have BS := Lib.hid (Best.start dn2.lt_)
    clear dn2 pp2 h5 o5 DN PP H4 O4
    go_wp2_with fail
    go_loopw [4, 5] (fun fv kv wr => ∃ (f kd : Nat) (W : World), W = wr ∧ fv = .int .i64 f ∧ kv = .int .i64 kd ∧ 2 * k2 + 1 ≤ kd ∧ kd ≤ 2 * k2 + 3 ∧ Best L2 k2 kd f ∧ QAt wr q m (.slice (some ⟨g, 0, none⟩) n c) L2 ad ∧ Only (Foot q m (.slice (some ⟨g, 0, none⟩) n c)) w wr) (fun _ kv _ => 2 * k2 + 3 - (intOf kv).toNat)
    case atStart => exact ⟨k2, 2 * k2 + 1, _, rfl, rfl, by go_num, by omega, by omega, BS.out, H5.out, O5.out⟩
    case round =>
    obtain ⟨f, kd, w6, rfl, rfl, rfl, hkd1, hkd2, hbest, h6, o6⟩ := hrel
    have B3 := Lib.hid hbest
    have H7 := Lib.hid h6
    have O7 := Lib.hid o6
    have hfn : f < n := by rw [← ln2.out]; exact hbest.le
    clear hbest h6 o6 H5 O5 BS
    have c0 := H7.out.blk.cell 0
    by_cases hk1 : kd ≤ 2 * k2 + 2
    · have t1 : decide ((kd : Int) ≤ 2 * (k2 : Int) + 2) = true := decide_eq_true (by omega)
      by_cases hk2 : kd < n
      · have t2 : decide (kd < n) = true := decide_eq_true hk2
        have PK := Lib.hid (show 0 < kd ∧ par kd = k2 from ⟨by omega, by unfold par; omega⟩)
        obtain ⟨b, hb⟩ : ∃ b : Bool, decide (oi (at_ L2 kd) (at_ L2 f) < 0) = b := ⟨_, rfl⟩
        have BN := Lib.hid (show Best L2 k2 (kd + 1) (if b = true then kd else f) by
          rw [lt_dec] at hb
          cases b with
          | true => exact B3.out.take (by rw [ln2.out]; exact hk2) PK.out.1 PK.out.2 (of_decide_eq_true hb)
          | false => exact B3.out.leave (of_decide_eq_false hb))
        have H8 := Lib.hid (show QAt w6.drew q m (.slice (some ⟨g, 0, none⟩) n c) L2 ad from H7.out.keep (fun _ _ => rfl))
        have O8 := Lib.hid (show Only (Foot q m (.slice (some ⟨g, 0, none⟩) n c)) w w6.drew from O7.out.drewN 1)
        have CS := Lib.hid (show Cs q m g c n kd f L2 w6.drew from Cs.of H8.out (by rw [ln2.out]; exact hk2) (by rw [ln2.out]; exact hfn))
        go_upto_region 7 with fail
        clear c0 H7 O7
        refine wp_region_held_drew (S := fun ws => ws.cell? ⟨q, 0, none⟩ = some (.slice (some ⟨g, 0, none⟩) n c) ∧ ws.cell? ⟨g, kd * 3, none⟩ = some (.int .i64 (at_ L2 kd).1) ∧ ws.cell? ⟨g, kd * 3 + 1, none⟩ = some (.int .i64 (at_ L2 kd).2.1) ∧ ws.cell? ⟨g, kd * 3 + 2, none⟩ = some (.int .i64 (at_ L2 kd).2.2) ∧ ws.cell? ⟨g, f * 3, none⟩ = some (.int .i64 (at_ L2 f).1) ∧ ws.cell? ⟨g, f * 3 + 1, none⟩ = some (.int .i64 (at_ L2 f).2.1) ∧ ws.cell? ⟨g, f * 3 + 2, none⟩ = some (.int .i64 (at_ L2 f).2.2)) (by kernel_rfl) CS.out (fun hHeld => ?_)
        generalize w6.drew = W at *
        have OC := Lib.hid (order_any (at_ L2 kd) (at_ L2 f) W)
        refine wpAnyH_take (i := 0) (v := ?_) rfl (by kernel_rfl) (by kernel_rfl) (by kernel_rfl) (fun _ _ _ h => h) (Or.inl ⟨by rfl, ?_⟩) (by assumption) ?_
        rotate_left
        · (intro w hSw; (try dsimp only at hSw); first | (go_simp; done) | (go_simp; with_reducible rfl))
        simp only [Act.put, List.getElem_toArray, List.getElem_cons_zero, List.getElem_cons_succ, List.setIfInBounds_toArray, List.set_cons_zero, List.set_cons_succ]
        refine wpAnyH_take (i := 1) (v := ?_) rfl (by kernel_rfl) (by kernel_rfl) (by kernel_rfl) (fun _ _ _ h => h) (Or.inl ⟨by rfl, ?_⟩) (by assumption) ?_
        rotate_left
        · (intro w hSw; (try dsimp only at hSw); first | (go_simp; done) | (go_simp; with_reducible rfl))
        simp only [Act.put, List.getElem_toArray, List.getElem_cons_zero, List.getElem_cons_succ, List.setIfInBounds_toArray, List.set_cons_zero, List.set_cons_succ]
        refine wpAnyH_take (i := 2) (v := ?_) rfl (by kernel_rfl) (by kernel_rfl) (by kernel_rfl) (fun _ _ _ h => h) (Or.inl ⟨by rfl, ?_⟩) (by assumption) ?_
        rotate_left
        · (intro w hSw; (try dsimp only at hSw); first | (go_simp; done) | (go_simp; with_reducible rfl))
        simp only [Act.put, List.getElem_toArray, List.getElem_cons_zero, List.getElem_cons_succ, List.setIfInBounds_toArray, List.set_cons_zero, List.set_cons_succ]
        refine wpAnyH_take (i := 3) (v := ?_) rfl (by kernel_rfl) (by kernel_rfl) (by kernel_rfl) (fun _ _ _ h => h) (Or.inl ⟨by rfl, ?_⟩) (by assumption) ?_
        rotate_left
        · (intro w hSw; (try dsimp only at hSw); first | (go_simp; done) | (go_simp; with_reducible rfl))
        simp only [Act.put, List.getElem_toArray, List.getElem_cons_zero, List.getElem_cons_succ, List.setIfInBounds_toArray, List.set_cons_zero, List.set_cons_succ]
        refine wpAnyH_take (i := 4) (v := ?_) rfl (by kernel_rfl) (by kernel_rfl) (by kernel_rfl) (fun _ _ _ h => h) (Or.inl ⟨by rfl, ?_⟩) (by assumption) ?_
        rotate_left
        · (intro w hSw; (try dsimp only at hSw); first | (go_simp; done) | (go_simp; with_reducible rfl))
        simp only [Act.put, List.getElem_toArray, List.getElem_cons_zero, List.getElem_cons_succ, List.setIfInBounds_toArray, List.set_cons_zero, List.set_cons_succ]
        refine wpAnyH_take (i := 5) (v := ?_) rfl (by kernel_rfl) (by kernel_rfl) (by kernel_rfl) (fun _ _ _ h => h) (Or.inl ⟨by rfl, ?_⟩) (by assumption) ?_
        rotate_left
        · (intro w hSw; (try dsimp only at hSw); first | (go_simp; done) | (go_simp; with_reducible rfl))
        simp only [Act.put, List.getElem_toArray, List.getElem_cons_zero, List.getElem_cons_succ, List.setIfInBounds_toArray, List.set_cons_zero, List.set_cons_succ]
        refine wpAnyH_take (i := 6) (v := ?_) rfl (by kernel_rfl) (by kernel_rfl) (by kernel_rfl) (fun _ _ _ h => h) (Or.inl ⟨by rfl, ?_⟩) (by assumption) ?_
        rotate_left
        · (intro w hSw; (try dsimp only at hSw); first | (go_simp; done) | (go_simp; with_reducible rfl))
        simp only [Act.put, List.getElem_toArray, List.getElem_cons_zero, List.getElem_cons_succ, List.setIfInBounds_toArray, List.set_cons_zero, List.set_cons_succ]
        refine wpAnyH_take (i := 7) (v := ?_) rfl (by kernel_rfl) (by kernel_rfl) (by kernel_rfl) (fun _ _ _ h => h) (Or.inl ⟨by rfl, ?_⟩) (by assumption) ?_
        rotate_left
        · (intro w hSw; (try dsimp only at hSw); first | (go_simp; done) | (go_simp; with_reducible rfl))
        simp only [Act.put, List.getElem_toArray, List.getElem_cons_zero, List.getElem_cons_succ, List.setIfInBounds_toArray, List.set_cons_zero, List.set_cons_succ]
        refine wpAnyH_take (i := 8) (v := ?_) rfl (by kernel_rfl) (by kernel_rfl) (by kernel_rfl) (fun _ _ _ h => h) (Or.inl ⟨by rfl, ?_⟩) (by assumption) ?_
        rotate_left
        · (intro w hSw; (try dsimp only at hSw); first | (go_simp; done) | (go_simp; with_reducible rfl))
        simp only [Act.put, List.getElem_toArray, List.getElem_cons_zero, List.getElem_cons_succ, List.setIfInBounds_toArray, List.set_cons_zero, List.set_cons_succ]
        refine wpAnyH_take (i := 9) (v := ?_) rfl (by kernel_rfl) (by kernel_rfl) (by kernel_rfl) (fun _ _ _ h => h) (Or.inl ⟨by rfl, ?_⟩) (by assumption) ?_
        rotate_left
        · (intro w hSw; (try dsimp only at hSw); first | (go_simp; done) | (go_simp; with_reducible rfl))
        simp only [Act.put, List.getElem_toArray, List.getElem_cons_zero, List.getElem_cons_succ, List.setIfInBounds_toArray, List.set_cons_zero, List.set_cons_succ]
        refine wpAnyH_take (i := 10) (v := ?_) rfl (by kernel_rfl) (by kernel_rfl) (by kernel_rfl) (fun _ _ _ h => h) (Or.inl ⟨by rfl, ?_⟩) (by assumption) ?_
        rotate_left
        · (intro w hSw; (try dsimp only at hSw); first | (go_simp; done) | (go_simp; with_reducible rfl))
        simp only [Act.put, List.getElem_toArray, List.getElem_cons_zero, List.getElem_cons_succ, List.setIfInBounds_toArray, List.set_cons_zero, List.set_cons_succ]
        refine wpAnyH_take (i := 11) (v := ?_) rfl (by kernel_rfl) (by kernel_rfl) (by kernel_rfl) (fun _ _ _ h => h) (Or.inl ⟨by rfl, ?_⟩) (by assumption) ?_
        rotate_left
        · (intro w hSw; (try dsimp only at hSw); first | (go_simp; done) | (go_simp; with_reducible rfl))
        simp only [Act.put, List.getElem_toArray, List.getElem_cons_zero, List.getElem_cons_succ, List.setIfInBounds_toArray, List.set_cons_zero, List.set_cons_succ]
        refine wpAnyH_take (i := 12) (v := ?_) rfl (by kernel_rfl) (by kernel_rfl) (by kernel_rfl) (fun _ _ _ h => h) (Or.inl ⟨by rfl, ?_⟩) (by assumption) ?_
        rotate_left
        · (intro w hSw; (try dsimp only at hSw); first | (go_simp; done) | (go_simp; with_reducible rfl))
        simp only [Act.put, List.getElem_toArray, List.getElem_cons_zero, List.getElem_cons_succ, List.setIfInBounds_toArray, List.set_cons_zero, List.set_cons_succ]
        refine wpAnyH_take (i := 13) (v := ?_) rfl (by kernel_rfl) (by kernel_rfl) (by kernel_rfl) (fun _ _ _ h => h) (Or.inl ⟨by rfl, ?_⟩) (by assumption) ?_
        rotate_left
        · (intro w hSw; (try dsimp only at hSw); first | (go_simp; done) | (go_simp; with_reducible rfl))
        simp only [Act.put, List.getElem_toArray, List.getElem_cons_zero, List.getElem_cons_succ, List.setIfInBounds_toArray, List.set_cons_zero, List.set_cons_succ]
        refine wpAnyH_ready (rs := [14]) (by kernel_rfl) (by simp) ?_
        refine AllReadyH.cons rfl (fun K hK => ?_) AllReadyH.nil
        go_simp
        refine OC.out.mono ?_
        rintro e w8 ⟨rfl, hb8⟩
        have H9 := Lib.hid (H8.out.below hb8)
        have O9 := Lib.hid (Only.trans O8.out (foot_of_below (F := Foot q m (.slice (some ⟨g, 0, none⟩) n c)) hb8) (fun _ _ h => h))
        refine hK.out _ _ (show Cs q m g c n kd f L2 w8 from Cs.of H9.out (by rw [ln2.out]; exact hk2) (by rw [ln2.out]; exact hfn)) (fun hHeld2 => ?_)
        clear hK K hHeld hb8 OC CS H8 O8
        refine wpAnyH_take (i := 15) (v := ?_) rfl (by kernel_rfl) (by kernel_rfl) (by kernel_rfl) (fun _ _ _ h => h) (Or.inl ⟨by rfl, ?_⟩) (by assumption) ?_
        rotate_left
        · (intro w hSw; (try dsimp only at hSw); first | (go_simp; done) | (go_simp; with_reducible rfl))
        simp only [Act.put, List.getElem_toArray, List.getElem_cons_zero, List.getElem_cons_succ, List.setIfInBounds_toArray, List.set_cons_zero, List.set_cons_succ]
        refine wpAnyH_done (by kernel_rfl) ?_ _
        clear hHeld2
        rcases (show b = true ∨ b = false by cases b <;> simp) with rfl | rfl
        · rw [if_pos rfl] at BN
          go_wp2_with fail
          refine ⟨⟨kd, kd + 1, _, rfl, rfl, by go_num, by omega, by omega, BN.out, H9.out, O9.out⟩, by simp [intOf]; omega⟩
        · rw [if_neg (by simp)] at BN
          go_wp2_with fail
          refine ⟨⟨f, kd + 1, _, rfl, rfl, by go_num, by omega, by omega, BN.out, H9.out, O9.out⟩, by simp [intOf]; omega⟩
      · have t2 : decide (kd < n) = false := decide_eq_false hk2
        have ALL : kd = 2 * k2 + 3 ∨ L2.length ≤ kd := by rw [ln2.out]; omega
        by_cases hfk : f = k2
        · subst hfk
          have HEAP := Lib.hid (D2.out.done B3.out ALL)
          have tq : ((f : Int) == (f : Int)) = true := by simp
          clear ALL
          go_wp2_with fail
          go_end0
          exact ⟨rfl, L2, P2.out, HEAP.out, H7.out, O7.out⟩
        · have DN2 := Lib.hid (D2.out.down B3.out ALL hfk)
          have tq : ((f : Int) == (k2 : Int)) = false := by simp; omega
          have hfn : f < n := by rw [← ln2.out]; exact B3.out.le
          have hkf : k2 < f := by
            rcases B3.out.is with h | ⟨h, h'⟩
            · exact absurd h hfk
            · rw [← h']; exact par_lt h
          have SW := Lib.hid (swap_any H7.out (i := k2) (j := f) (by rw [ln2.out]; exact hkn2) (by rw [ln2.out]; exact hfn) (by rw [ln2.out]; exact hl) had)
          have PR := Lib.hid ((swp_perm (L := L2) (i := k2) (j := f) (by rw [ln2.out]; exact hkn2) (by rw [ln2.out]; exact hfn)).trans P2.out)
          clear ALL hfk
          go_wp2_with fail
          refine SW.out.mono ?_
          rintro e w9 ⟨rfl, H9, O9⟩
          have H10 := Lib.hid H9
          have O10 := Lib.hid (Only.trans O7.out O9 (fun _ _ h => h))
          clear H9 O9 SW
          go_wp2_with fail
          refine ⟨⟨f, _, _, rfl, by go_num, DN2.out, PR.out, H10.out, O10.out⟩, by simp [intOf]; omega⟩
    · have t1 : decide ((kd : Int) ≤ 2 * (k2 : Int) + 2) = false := decide_eq_false (by omega)
      have ALL : kd = 2 * k2 + 3 ∨ L2.length ≤ kd := by rw [ln2.out]; omega
      by_cases hfk : f = k2
      · subst hfk
        have HEAP := Lib.hid (D2.out.done B3.out ALL)
        have tq : ((f : Int) == (f : Int)) = true := by simp
        clear ALL
        go_wp2_with fail
        go_end0
        exact ⟨rfl, L2, P2.out, HEAP.out, H7.out, O7.out⟩
      · have DN2 := Lib.hid (D2.out.down B3.out ALL hfk)
        have tq : ((f : Int) == (k2 : Int)) = false := by simp; omega
        have hfn : f < n := by rw [← ln2.out]; exact B3.out.le
        have hkf : k2 < f := by
          rcases B3.out.is with h | ⟨h, h'⟩
          · exact absurd h hfk
          · rw [← h']; exact par_lt h
        have SW := Lib.hid (swap_any H7.out (i := k2) (j := f) (by rw [ln2.out]; exact hkn2) (by rw [ln2.out]; exact hfn) (by rw [ln2.out]; exact hl) had)
        have PR := Lib.hid ((swp_perm (L := L2) (i := k2) (j := f) (by rw [ln2.out]; exact hkn2) (by rw [ln2.out]; exact hfn)).trans P2.out)
        clear ALL hfk
        go_wp2_with fail
        refine SW.out.mono ?_
        rintro e w9 ⟨rfl, H9, O9⟩
        have H10 := Lib.hid H9
        have O10 := Lib.hid (Only.trans O7.out O9 (fun _ _ h => h))
        clear H9 O9 SW
        go_wp2_with fail
        refine ⟨⟨f, _, _, rfl, by go_num, DN2.out, PR.out, H10.out, O10.out⟩, by simp [intOf]; omega⟩
end Go.Proofs.Ytmgfnhbhgmpchaa.qu
