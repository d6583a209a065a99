/-
  Chests and a list tell the same.
-/
import Derived.Test.YtknkcdhdfojifaaChP
import Derived.Test.YtknkcdhdfojifaaChF
namespace Go.Proofs.Ytknkcdhdfojifaa.ch
open Go.RowKit
open base (ret_bool ret_int made up Blk Only)
open rk mk
set_option linter.unusedVariables false
set_option linter.unusedSimpArgs false

/-- right chests -/
def Gd (L : List C2) : Prop := ∀ d, d ∈ L → (1 ≤ d.1 ∧ (Lit.int .i64 d.1).wf = true) ∧ oki d.2 = true
theorem step_good {L : List C2} (h : Gd L) (k n i r : Int) (hw : (Lit.int .i64 n).wf = true) : Gd (stepS L k n i r) := by
  unfold stepS
  split
  · split
    · rename_i e
      obtain ⟨a1, a2, _⟩ := build_ok e
      intro d hd
      rcases List.mem_append.1 hd with q | q
      · exact h d q
      · obtain rfl : d = (n, r) := by simpa using q
        exact ⟨⟨by show 1 ≤ n; omega, hw⟩, a2⟩
    · exact h
  · split
    · split
      · rename_i p hp
        split
        · rename_i hr
          obtain ⟨hlt, hpn, _⟩ := plc_some L n i p hp (plc_ge hp)
          intro d hd
          rcases List.mem_or_eq_of_mem_set hd with q | q
          · exact h d q
          · subst q
            have := (h _ (List.getElem_mem hlt)).1
            rw [hpn] at this
            exact ⟨this, hr⟩
        · exact h
      · exact h
    · split
      · exact fun d hd => h d (List.mem_filter.1 hd).1
      · exact h
theorem plc_at_some {L : List C2} {n : Int} {q : Nat} (hq : q < (nd L n).length) : ∃ p, plc L n ((q : Int) + 1) = some p ∧ ∃ hp : p < L.length, (nd L n)[q] = L[p].2 := by
  cases e : plc L n ((q : Int) + 1) with
  | none =>
    have := plc_none L n _ e (by omega)
    omega
  | some p =>
    obtain ⟨hp, _, _, _, h3, _⟩ := plc_some L n _ p e (by omega)
    rw [show ((q : Int) + 1 - 1).toNat = q by omega, List.getElem?_eq_getElem hq] at h3
    injection h3 with h3
    exact ⟨p, rfl, hp, h3⟩
set_option maxRecDepth 100000 in
set_option maxHeartbeats 8000000 in
theorem same_any {B g b cn : Nat} {L : List C2} {A : Option Addr} {c : Nat} {w : World} (h : CAt w B g b L cn) (hA : Lay E2 w A L) (hl : L.length ≤ 1000) (hcn : cn ≤ 1000) (hgd : Gd L) :
    Calls Try.prog 10 #[.pointer (some ⟨g, 0, none⟩), .slice A L.length c] w fun e w' => e = .returned (.bool true) ∧ Below w.heap.size w w' := by
  have RO := Lib.hid (rows_any h (by omega) (by omega))
  have H := Lib.hid h
  have HA := Lib.hid hA
  have GD := Lib.hid hgd
  have TO := Lib.hid (fun ws (h : CAt ws B g b L cn) => total_any h (by omega) (fun d hd => (hgd d hd).1.2))
  clear h hA hgd
  go_enter Try.func10, Try.ntmps10
  go_wp2_with fail
  refine RO.out.mono ?_
  rintro e w1 ⟨v1, ss, R, rfl, ht, hs, hlen, hb1⟩
  have T1_ := Lib.hid ht
  have HS := Lib.hid hs
  have B1 := Lib.hid hb1
  have RL := Lib.hid ht.len
  obtain ⟨Ar, cr, rfl, -⟩ := ht.own.open_
  have LR := Lib.hid (layE ht.own)
  clear ht hs hb1 RO
  go_wp2_with fail
  go_loopw [5, 6, 17] (fun la m i wr => ∃ (k : Nat) (W : World) (lz : Int), W = wr ∧ k ≤ R.length ∧ i = .int .i64 k ∧ la = .int .i64 lz ∧ (∀ j (hj : j < ss.length), k ≤ j → lz < ss[j]) ∧ m = .int .i64 (tot L (ss.take k) : Nat) ∧ Below w1.heap.size w1 wr) (fun _ _ i _ => R.length - (intOf i).toNat)
  case atStart =>
    refine ⟨0, _, 0, rfl, by omega, rfl, rfl, fun j hj _ => ?_, rfl, Below.refl _ _⟩
    obtain ⟨hne, _⟩ := HS.out.mem ss[j] (List.getElem_mem hj)
    cases e : L.filter (fun d => d.1 == ss[j]) with
    | nil => exact absurd (by unfold nd; rw [e]; rfl) hne
    | cons d M =>
      have hd : d ∈ L.filter (fun d => d.1 == ss[j]) := by rw [e]; simp
      obtain ⟨a1, a2⟩ := List.mem_filter.1 hd
      have := (GD.out d a1).1.1
      have : d.1 = ss[j] := by simpa using a2
      omega
  case round =>
  obtain ⟨k, w2, lz, rfl, hk, rfl, rfl, hlz, rfl, hb2⟩ := hrel
  have B2 := Lib.hid hb2
  have H2 := Lib.hid (H.out.below (up B1.out B2.out B1.out.size))
  clear hb2
  by_cases hkl : k < R.length
  · have hks : k < ss.length := by have := RL.out; omega
    have TK := Lib.hid (show tot L (ss.take (k + 1)) = tot L (ss.take k) + (nd L ss[k]).length by rw [List.take_succ_eq_append_getElem hks, tot_snoc])
    have TL := Lib.hid (show tot L (ss.take k) ≤ L.length from tot_le _ _ ((HS.out.lt.sublist (List.take_sublist k ss)).imp (fun h => by omega)))
    have TL2 := Lib.hid (show tot L (ss.take (k + 1)) ≤ L.length from tot_le _ _ ((HS.out.lt.sublist (List.take_sublist (k + 1) ss)).imp (fun h => by omega)))
    have NX := Lib.hid (show ∀ j (hj : j < ss.length), k + 1 ≤ j → ss[k] < ss[j] from fun j hj hkj => List.pairwise_iff_getElem.1 HS.out.lt k j hks hj (by omega))
    have hl1 := hlz k hks (Nat.le_refl _)
    obtain ⟨hne, hwf⟩ := HS.out.mem ss[k] (List.getElem_mem hks)
    have e1 : R[k].1 = ss[k] := by
      have := List.getElem_of_eq T1_.out.hs (i := k) (by simpa using hkl)
      rwa [List.getElem_map] at this
    obtain ⟨bb, off, rfl, r0, r1⟩ := layR (Lay.below LR.out B2.out) hkl
    have ND := rk.Own.below (T1_.out.needs R[k] (List.getElem_mem hkl)) B2.out
    rw [← e1] at TK NX hl1 hne hwf
    have KL := Lib.hid hkl
    generalize R[k] = d at *
    obtain ⟨n, A4, z4, c4⟩ := d
    obtain ⟨A', c', e2, hlay, -⟩ := ND.open_
    unfold RW.needs at e2
    injection e2 with e3 e4 e5
    dsimp only at e3 e4 e5 hlay r0 r1 TK NX hl1 hne hwf
    subst e3 e5
    have WF := Lib.hid hwf
    have HNE := Lib.hid hne
    clear ND e1 hne hlz hwf
    have hm3 := made w2 (.cells #[.int .i64 n, .slice A4 z4 c4] 45)
    have H3 := Lib.hid (H2.out.below hm3)
    have B3 := Lib.hid (up B2.out hm3 B2.out.size)
    have X3 := Lib.hid (Blk.new w2 45 #[.int .i64 n, .slice A4 z4 c4])
    have N3 := Lib.hid (hlay.below hm3)
    have LA3 := Lib.hid (HA.out.below (up (up B1.out B2.out B1.out.size) hm3 (Nat.le_trans B1.out.size B2.out.size)))
    have Z4 := Lib.hid e4
    have hzl : z4 ≤ 1000 := by rw [e4]; have := nd_len L n; omega
    have hz1 : 1 ≤ z4 := by
      rw [e4]
      cases q : nd L n with
      | nil => exact absurd q HNE.out
      | cons a b => simp
    clear hm3 hlay H2 e4
    go_upto_region 5 with fail
    generalize w2.alloc (.cells #[.int .i64 n, .slice A4 z4 c4] 45) = w3 at *
    have hdr := (Below.refl w3.heap.size w3).drew
    have H4 := Lib.hid (show CAt w3.drew B g b L cn from H3.out.below hdr)
    have B4 := Lib.hid (show Below w1.heap.size w1 w3.drew from up B3.out hdr B3.out.size)
    have X4 := Lib.hid (show Blk w3.drew w2.heap.size 45 #[.int .i64 n, .slice A4 z4 c4] from X3.out.below hdr X3.out.lt)
    have N4 := Lib.hid (show Lay E1 w3.drew A4 (nd L n) from N3.out.below hdr)
    have LA4 := Lib.hid (show Lay E2 w3.drew A L from LA3.out.below hdr)
    have RLN := Lib.hid (rlen_any A c L n w3.drew LA4.out (by omega))
    have LEN := Lib.hid (len_any H4.out WF.out)
    rw [← Z4.out] at RLN LEN TK
    clear H3 B3 X3 N3 LA3 hdr r0 r1
    have q1 : decide (n ≤ lz) = false := by simp; omega
    have q2 : ((z4 : Int) == 0) = false := by simp; omega
    refine wp_region_held_drew (S := fun ws => ws.cell? ⟨w2.heap.size, 0, none⟩ = some (.int .i64 n) ∧ ws.cell? ⟨w2.heap.size, 1, none⟩ = some (.slice A4 z4 c4)) (by kernel_rfl) ⟨X4.out.cell 0, X4.out.cell 1⟩ (fun hHeld => ?_)
    generalize w3.drew = w4 at *
    refine wpAnyH_take (i := 0) (v := ?_) rfl (by kernel_rfl) (by kernel_rfl) (by kernel_rfl) (fun _ _ _ h => h) (Or.inl ⟨by rfl, ?_⟩) (by assumption) ?_
    rotate_left
    · (intro w hSw; (try dsimp only at hSw); first | (go_simp; done) | (go_simp; with_reducible rfl))
    simp only [Act.put, List.getElem_toArray, List.getElem_cons_zero, List.getElem_cons_succ, List.setIfInBounds_toArray, List.set_cons_zero, List.set_cons_succ]
    refine wpAnyH_take (i := 1) (v := ?_) rfl (by kernel_rfl) (by kernel_rfl) (by kernel_rfl) (fun _ _ _ h => h) (Or.inl ⟨by rfl, ?_⟩) (by assumption) ?_
    rotate_left
    · (intro w hSw; (try dsimp only at hSw); first | (go_simp; done) | (go_simp; with_reducible rfl))
    simp only [Act.put, List.getElem_toArray, List.getElem_cons_zero, List.getElem_cons_succ, List.setIfInBounds_toArray, List.set_cons_zero, List.set_cons_succ]
    refine wpAnyH_take (i := 2) (v := ?_) rfl (by kernel_rfl) (by kernel_rfl) (by kernel_rfl) (fun _ _ _ h => h) (Or.inl ⟨by rfl, ?_⟩) (by assumption) ?_
    rotate_left
    · (intro w hSw; (try dsimp only at hSw); first | (go_simp; done) | (go_simp; with_reducible rfl))
    simp only [Act.put, List.getElem_toArray, List.getElem_cons_zero, List.getElem_cons_succ, List.setIfInBounds_toArray, List.set_cons_zero, List.set_cons_succ]
    refine wpAnyH_take (i := 3) (v := ?_) rfl (by kernel_rfl) (by kernel_rfl) (by kernel_rfl) (fun _ _ _ h => h) (Or.inl ⟨by rfl, ?_⟩) (by assumption) ?_
    rotate_left
    · (intro w hSw; (try dsimp only at hSw); first | (go_simp; done) | (go_simp; with_reducible rfl))
    simp only [Act.put, List.getElem_toArray, List.getElem_cons_zero, List.getElem_cons_succ, List.setIfInBounds_toArray, List.set_cons_zero, List.set_cons_succ]
    refine wpAnyH_take (i := 4) (v := ?_) rfl (by kernel_rfl) (by kernel_rfl) (by kernel_rfl) (fun _ _ _ h => h) (Or.inl ⟨by rfl, ?_⟩) (by assumption) ?_
    rotate_left
    · (intro w hSw; (try dsimp only at hSw); first | (go_simp; done) | (go_simp; with_reducible rfl))
    simp only [Act.put, List.getElem_toArray, List.getElem_cons_zero, List.getElem_cons_succ, List.setIfInBounds_toArray, List.set_cons_zero, List.set_cons_succ]
    refine wpAnyH_take (i := 5) (v := ?_) rfl (by kernel_rfl) (by kernel_rfl) (by kernel_rfl) (fun _ _ _ h => h) (Or.inl ⟨by rfl, ?_⟩) (by assumption) ?_
    rotate_left
    · (intro w hSw; (try dsimp only at hSw); first | (go_simp; done) | (go_simp; with_reducible rfl))
    simp only [Act.put, List.getElem_toArray, List.getElem_cons_zero, List.getElem_cons_succ, List.setIfInBounds_toArray, List.set_cons_zero, List.set_cons_succ]
    refine wpAnyH_take (i := 6) (v := ?_) rfl (by kernel_rfl) (by kernel_rfl) (by kernel_rfl) (fun _ _ _ h => h) (Or.inl ⟨by rfl, ?_⟩) (by assumption) ?_
    rotate_left
    · (intro w hSw; (try dsimp only at hSw); first | (go_simp; done) | (go_simp; with_reducible rfl))
    simp only [Act.put, List.getElem_toArray, List.getElem_cons_zero, List.getElem_cons_succ, List.setIfInBounds_toArray, List.set_cons_zero, List.set_cons_succ]
    refine wpAnyH_take (i := 7) (v := ?_) rfl (by kernel_rfl) (by kernel_rfl) (by kernel_rfl) (fun _ _ _ h => h) (Or.inl ⟨by rfl, ?_⟩) (by assumption) ?_
    rotate_left
    · (intro w hSw; (try dsimp only at hSw); first | (go_simp; done) | (go_simp; with_reducible rfl))
    simp only [Act.put, List.getElem_toArray, List.getElem_cons_zero, List.getElem_cons_succ, List.setIfInBounds_toArray, List.set_cons_zero, List.set_cons_succ]
    refine wpAnyH_take (i := 8) (v := ?_) rfl (by kernel_rfl) (by kernel_rfl) (by kernel_rfl) (fun _ _ _ h => h) (Or.inl ⟨by rfl, ?_⟩) (by assumption) ?_
    rotate_left
    · (intro w hSw; (try dsimp only at hSw); first | (go_simp; done) | (go_simp; with_reducible rfl))
    simp only [Act.put, List.getElem_toArray, List.getElem_cons_zero, List.getElem_cons_succ, List.setIfInBounds_toArray, List.set_cons_zero, List.set_cons_succ]
    refine wpAnyH_take (i := 9) (v := ?_) rfl (by kernel_rfl) (by kernel_rfl) (by kernel_rfl) (fun _ _ _ h => h) (Or.inl ⟨by rfl, ?_⟩) (by assumption) ?_
    rotate_left
    · (intro w hSw; (try dsimp only at hSw); first | (go_simp; done) | (go_simp; with_reducible rfl))
    simp only [Act.put, List.getElem_toArray, List.getElem_cons_zero, List.getElem_cons_succ, List.setIfInBounds_toArray, List.set_cons_zero, List.set_cons_succ]
    refine wpAnyH_take (i := 10) (v := ?_) rfl (by kernel_rfl) (by kernel_rfl) (by kernel_rfl) (fun _ _ _ h => h) (Or.inl ⟨by rfl, ?_⟩) (by assumption) ?_
    rotate_left
    · (intro w hSw; (try dsimp only at hSw); first | (go_simp; done) | (go_simp; with_reducible rfl))
    simp only [Act.put, List.getElem_toArray, List.getElem_cons_zero, List.getElem_cons_succ, List.setIfInBounds_toArray, List.set_cons_zero, List.set_cons_succ]
    refine wpAnyH_take (i := 11) (v := ?_) rfl (by kernel_rfl) (by kernel_rfl) (by kernel_rfl) (fun _ _ _ h => h) (Or.inl ⟨by rfl, ?_⟩) (by assumption) ?_
    rotate_left
    · (intro w hSw; (try dsimp only at hSw); first | (go_simp; done) | (go_simp; with_reducible rfl))
    simp only [Act.put, List.getElem_toArray, List.getElem_cons_zero, List.getElem_cons_succ, List.setIfInBounds_toArray, List.set_cons_zero, List.set_cons_succ]
    refine wpAnyH_take (i := 12) (v := ?_) rfl (by kernel_rfl) (by kernel_rfl) (by kernel_rfl) (fun _ _ _ h => h) (Or.inl ⟨by rfl, ?_⟩) (by assumption) ?_
    rotate_left
    · (intro w hSw; (try dsimp only at hSw); first | (go_simp; done) | (go_simp; with_reducible rfl))
    simp only [Act.put, List.getElem_toArray, List.getElem_cons_zero, List.getElem_cons_succ, List.setIfInBounds_toArray, List.set_cons_zero, List.set_cons_succ]
    refine wpAnyH_take (i := 13) (v := ?_) rfl (by kernel_rfl) (by kernel_rfl) (by kernel_rfl) (fun _ _ _ h => h) (Or.inl ⟨by rfl, ?_⟩) (by assumption) ?_
    rotate_left
    · (intro w hSw; (try dsimp only at hSw); first | (go_simp; done) | (go_simp; with_reducible rfl))
    simp only [Act.put, List.getElem_toArray, List.getElem_cons_zero, List.getElem_cons_succ, List.setIfInBounds_toArray, List.set_cons_zero, List.set_cons_succ]
    refine wpAnyH_take (i := 14) (v := ?_) rfl (by kernel_rfl) (by kernel_rfl) (by kernel_rfl) (fun _ _ _ h => h) (Or.inl ⟨by rfl, ?_⟩) (by assumption) ?_
    rotate_left
    · (intro w hSw; (try dsimp only at hSw); first | (go_simp; done) | (go_simp; with_reducible rfl))
    simp only [Act.put, List.getElem_toArray, List.getElem_cons_zero, List.getElem_cons_succ, List.setIfInBounds_toArray, List.set_cons_zero, List.set_cons_succ]
    refine wpAnyH_take (i := 15) (v := ?_) rfl (by kernel_rfl) (by kernel_rfl) (by kernel_rfl) (fun _ _ _ h => h) (Or.inl ⟨by rfl, ?_⟩) (by assumption) ?_
    rotate_left
    · (intro w hSw; (try dsimp only at hSw); first | (go_simp; done) | (go_simp; with_reducible rfl))
    simp only [Act.put, List.getElem_toArray, List.getElem_cons_zero, List.getElem_cons_succ, List.setIfInBounds_toArray, List.set_cons_zero, List.set_cons_succ]
    refine wpAnyH_take (i := 16) (v := ?_) rfl (by kernel_rfl) (by kernel_rfl) (by kernel_rfl) (fun _ _ _ h => h) (Or.inl ⟨by rfl, ?_⟩) (by assumption) ?_
    rotate_left
    · (intro w hSw; (try dsimp only at hSw); first | (go_simp; done) | (go_simp; with_reducible rfl))
    simp only [Act.put, List.getElem_toArray, List.getElem_cons_zero, List.getElem_cons_succ, List.setIfInBounds_toArray, List.set_cons_zero, List.set_cons_succ]
    refine wpAnyH_ready (rs := [17]) (by kernel_rfl) (by simp) ?_
    refine AllReadyH.cons rfl (fun K hK => ?_) AllReadyH.nil
    go_simp
    refine RLN.out.mono ?_
    rintro e w5 ⟨rfl, rfl⟩
    refine hK.out _ _ ⟨X4.out.cell 0, X4.out.cell 1⟩ (fun hH1 => ?_)
    clear hK K hHeld
    refine wpAnyH_take (i := 18) (v := ?_) rfl (by kernel_rfl) (by kernel_rfl) (by kernel_rfl) (fun _ _ _ h => h) (Or.inl ⟨by rfl, ?_⟩) (by assumption) ?_
    rotate_left
    · (intro w hSw; (try dsimp only at hSw); first | (go_simp; done) | (go_simp; with_reducible rfl))
    simp only [Act.put, List.getElem_toArray, List.getElem_cons_zero, List.getElem_cons_succ, List.setIfInBounds_toArray, List.set_cons_zero, List.set_cons_succ]
    refine wpAnyH_take (i := 19) (v := ?_) rfl (by kernel_rfl) (by kernel_rfl) (by kernel_rfl) (fun _ _ _ h => h) (Or.inl ⟨by rfl, ?_⟩) (by assumption) ?_
    rotate_left
    · (intro w hSw; (try dsimp only at hSw); first | (go_simp; done) | (go_simp; with_reducible rfl))
    simp only [Act.put, List.getElem_toArray, List.getElem_cons_zero, List.getElem_cons_succ, List.setIfInBounds_toArray, List.set_cons_zero, List.set_cons_succ]
    refine wpAnyH_take (i := 20) (v := ?_) rfl (by kernel_rfl) (by kernel_rfl) (by kernel_rfl) (fun _ _ _ h => h) (Or.inl ⟨by rfl, ?_⟩) (by assumption) ?_
    rotate_left
    · (intro w hSw; (try dsimp only at hSw); first | (go_simp; done) | (go_simp; with_reducible rfl))
    simp only [Act.put, List.getElem_toArray, List.getElem_cons_zero, List.getElem_cons_succ, List.setIfInBounds_toArray, List.set_cons_zero, List.set_cons_succ]
    refine wpAnyH_take (i := 21) (v := ?_) rfl (by kernel_rfl) (by kernel_rfl) (by kernel_rfl) (fun _ _ _ h => h) (Or.inl ⟨by rfl, ?_⟩) (by assumption) ?_
    rotate_left
    · (intro w hSw; (try dsimp only at hSw); first | (go_simp; done) | (go_simp; with_reducible rfl))
    simp only [Act.put, List.getElem_toArray, List.getElem_cons_zero, List.getElem_cons_succ, List.setIfInBounds_toArray, List.set_cons_zero, List.set_cons_succ]
    refine wpAnyH_take (i := 22) (v := ?_) rfl (by kernel_rfl) (by kernel_rfl) (by kernel_rfl) (fun _ _ _ h => h) (Or.inl ⟨by rfl, ?_⟩) (by assumption) ?_
    rotate_left
    · (intro w hSw; (try dsimp only at hSw); first | (go_simp; done) | (go_simp; with_reducible rfl))
    simp only [Act.put, List.getElem_toArray, List.getElem_cons_zero, List.getElem_cons_succ, List.setIfInBounds_toArray, List.set_cons_zero, List.set_cons_succ]
    refine wpAnyH_take (i := 23) (v := ?_) rfl (by kernel_rfl) (by kernel_rfl) (by kernel_rfl) (fun _ _ _ h => h) (Or.inl ⟨by rfl, ?_⟩) (by assumption) ?_
    rotate_left
    · (intro w hSw; (try dsimp only at hSw); first | (go_simp; done) | (go_simp; with_reducible rfl))
    simp only [Act.put, List.getElem_toArray, List.getElem_cons_zero, List.getElem_cons_succ, List.setIfInBounds_toArray, List.set_cons_zero, List.set_cons_succ]
    refine wpAnyH_take (i := 25) (v := ?_) rfl (by kernel_rfl) (by kernel_rfl) (by kernel_rfl) (fun _ _ _ h => h) (Or.inl ⟨by rfl, ?_⟩) (by assumption) ?_
    rotate_left
    · (intro w hSw; (try dsimp only at hSw); first | (go_simp; done) | (go_simp; with_reducible rfl))
    simp only [Act.put, List.getElem_toArray, List.getElem_cons_zero, List.getElem_cons_succ, List.setIfInBounds_toArray, List.set_cons_zero, List.set_cons_succ]
    refine wpAnyH_take (i := 26) (v := ?_) rfl (by kernel_rfl) (by kernel_rfl) (by kernel_rfl) (fun _ _ _ h => h) (Or.inl ⟨by rfl, ?_⟩) (by assumption) ?_
    rotate_left
    · (intro w hSw; (try dsimp only at hSw); first | (go_simp; done) | (go_simp; with_reducible rfl))
    simp only [Act.put, List.getElem_toArray, List.getElem_cons_zero, List.getElem_cons_succ, List.setIfInBounds_toArray, List.set_cons_zero, List.set_cons_succ]
    refine wpAnyH_take (i := 27) (v := ?_) rfl (by kernel_rfl) (by kernel_rfl) (by kernel_rfl) (fun _ _ _ h => h) (Or.inl ⟨by rfl, ?_⟩) (by assumption) ?_
    rotate_left
    · (intro w hSw; (try dsimp only at hSw); first | (go_simp; done) | (go_simp; with_reducible rfl))
    simp only [Act.put, List.getElem_toArray, List.getElem_cons_zero, List.getElem_cons_succ, List.setIfInBounds_toArray, List.set_cons_zero, List.set_cons_succ]
    refine wpAnyH_ready (rs := [24]) (by kernel_rfl) (by simp) ?_
    refine AllReadyH.cons rfl (fun K hK => ?_) AllReadyH.nil
    go_simp
    refine LEN.out.mono ?_
    rintro e w5 ⟨rfl, rfl⟩
    refine hK.out _ _ ⟨X4.out.cell 0, X4.out.cell 1⟩ (fun hH2 => ?_)
    clear hK K hH1
    refine wpAnyH_take (i := 28) (v := ?_) rfl (by kernel_rfl) (by kernel_rfl) (by kernel_rfl) (fun _ _ _ h => h) (Or.inl ⟨by rfl, ?_⟩) (by assumption) ?_
    rotate_left
    · (intro w hSw; (try dsimp only at hSw); first | (go_simp; done) | (go_simp; with_reducible rfl))
    simp only [Act.put, List.getElem_toArray, List.getElem_cons_zero, List.getElem_cons_succ, List.setIfInBounds_toArray, List.set_cons_zero, List.set_cons_succ]
    refine wpAnyH_take (i := 29) (v := ?_) rfl (by kernel_rfl) (by kernel_rfl) (by kernel_rfl) (fun _ _ _ h => h) (Or.inl ⟨by rfl, ?_⟩) (by assumption) ?_
    rotate_left
    · (intro w hSw; (try dsimp only at hSw); first | (go_simp; done) | (go_simp; with_reducible rfl))
    simp only [Act.put, List.getElem_toArray, List.getElem_cons_zero, List.getElem_cons_succ, List.setIfInBounds_toArray, List.set_cons_zero, List.set_cons_succ]
    refine wpAnyH_done (by kernel_rfl) ?_ _
    clear hH2 RLN LEN q1 q2
    have x0 := X4.out.cell 0
    have x1 := X4.out.cell 1
    have TT2 := Lib.hid (show tot L (ss.take k) + z4 ≤ 1000 by have := TL2.out; rw [TK.out] at this; omega)
    generalize tot L (ss.take k) = t0 at *
    have TLL := TL.out
    clear TL TL2
    go_wp2_with fail
    go_loop [6, 56] (fun m j => ∃ q : Nat, q ≤ z4 ∧ j = .int .i64 q ∧ m = .int .i64 ((t0 + q : Nat) : Int)) (fun _ j => z4 - (intOf j).toNat)
    case atStart => exact ⟨0, by omega, rfl, rfl⟩
    case round =>
      obtain ⟨q, hq, rfl, rfl⟩ := hrel
      by_cases hqz : q < z4
      · have hq2 : q < (nd L n).length := by rw [← Z4.out]; exact hqz
        obtain ⟨p, hp, hpl, he⟩ := plc_at_some hq2
        obtain ⟨b4, off4, rfl, s0⟩ := lay1 N4.out hq2
        have wfq : (Lit.int .i64 ((q : Int) + 1)).wf = true := mk.wf_of (by omega) (by omega)
        have PL := Lib.hid (rplace_any A c L n ((q : Int) + 1) w4 LA4.out (by omega) (by omega) (by omega))
        have NE := Lib.hid (need_yes H4.out WF.out wfq hp hpl (by omega))
        obtain ⟨bl, offl, rfl, -, s2⟩ := lay2 LA4.out hpl
        rw [hp] at PL
        dsimp only [ixc] at PL
        rw [he] at s0
        have TQ := TT2.out
        generalize L[p].2 = r at *
        clear hp he hq2 wfq
        go_wp2_with fail
        refine PL.out.mono ?_
        rintro e w5 ⟨rfl, rfl⟩
        go_wp2_with fail
        refine NE.out.mono ?_
        rintro e w5 ⟨rfl, rfl⟩
        go_wp2_with fail
        refine ⟨⟨q + 1, by omega, by go_num, by go_num⟩, by simp [intOf]; omega⟩
      · obtain rfl : q = z4 := by omega
        have TQ := TT2.out
        have KLL := KL.out
        go_wp2_with fail
        refine ⟨⟨k + 1, _, n, rfl, by omega, by go_num, rfl, NX.out, by rw [TK.out], B4.out⟩, by simp [intOf]; omega⟩
  · obtain rfl : k = R.length := by omega
    have e1 : tot L (ss.take R.length) = L.length := by
      rw [RL.out, List.take_length]
      exact tot_all L ss (HS.out.lt.imp (fun h => by omega)) (fun d hd => HS.out.all d.1 (GD.out d hd).1.2 (nd_ne hd))
    rw [e1]
    have TT := Lib.hid (TO.out _ H2.out)
    clear hlz e1
    go_wp2_with fail
    refine TT.out.mono ?_
    rintro e w5 ⟨rfl, hb5⟩
    have B5 := Lib.hid (up (up B1.out B2.out B1.out.size) hb5 (Nat.le_trans B1.out.size B2.out.size))
    clear hb5
    go_wp2_with fail
    go_ret
    exact ⟨rfl, B5.out⟩
end Go.Proofs.Ytknkcdhdfojifaa.ch
