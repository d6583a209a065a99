/-
  Chests: Copy.
-/
import Derived.Test.YtknkcdhdfojifaaChQ
namespace Go.Proofs.Ytknkcdhdfojifaa.ch
open Go.RowKit Go.Maps
open base (ret_bool ret_int made up Blk Only)
open rk mk
set_option linter.unusedVariables false
set_option linter.unusedSimpArgs false

theorem ranges_keep {H : Type} {w w' : World} {P : Program} {k : TypeId} {R : Value → Option (DataW H × List MemPlace)} {b r n : Nat} {D : DataW H} {left : Lit → Bool} {cnt : Nat} (h : w.ranges P k R b r n D left cnt) (e1 : w'.heap[b]? = w.heap[b]?) (e2 : w'.heap[r]? = w.heap[r]?) : w'.ranges P k R b r n D left cnt := by
  obtain ⟨es, clock, since, seen, c0, h1, h2, h3, h4, h5, h6⟩ := h
  exact ⟨es, clock, since, seen, c0, e1.trans h1, h2, h3, h4, e2.trans h5, h6⟩
/-- the chests of some houses -/
def only (L : List C2) (ss : List Int) : List C2 := L.filter (fun d => ss.contains d.1)
theorem nd_only (L : List C2) (ss : List Int) (k : Int) : nd (only L ss) k = if k ∈ ss then nd L k else [] := by
  unfold nd only
  rw [List.filter_filter]
  by_cases e : k ∈ ss
  · rw [if_pos e]
    congr 1
    apply List.filter_congr
    intro a _
    by_cases q : a.1 = k
    · rw [q]; simp [e]
    · have : (a.1 == k) = false := by simpa using q
      rw [this]; rfl
  · rw [if_neg e]
    have : (L.filter fun a => (a.1 == k) && ss.contains a.1) = [] := by
      rw [List.filter_eq_nil_iff]
      intro a _ h
      simp at h
      exact e (h.1 ▸ h.2)
    rw [this]
    rfl
theorem only_nil (L : List C2) : only L [] = [] := by
  unfold only
  rw [List.filter_eq_nil_iff]
  intro a _
  simp
theorem only_all {L : List C2} {ss : List Int} (h : ∀ d, d ∈ L → d.1 ∈ ss) : only L ss = L := by
  unfold only
  rw [List.filter_eq_self]
  intro a ha
  simpa using h a ha
theorem nd_only_snoc (L : List C2) (ss : List Int) (x k : Int) : nd (only L (ss ++ [x])) k = if k = x then nd L x else nd (only L ss) k := by
  rw [nd_only, nd_only]
  by_cases e : k = x
  · subst e; simp
  · rw [if_neg e]
    by_cases q : k ∈ ss <;> simp [e, q]
theorem len_tot {L : List C2} : ∀ {ss : List Int}, (∀ n, n ∈ ss → nd L n ≠ []) → ss.length ≤ tot L ss
  | [], _ => by simp
  | n :: ss, h => by
    have h1 := len_tot (ss := ss) (fun m hm => h m (by simp [hm]))
    have h2 := h n (by simp)
    have : 1 ≤ (nd L n).length := by
      cases q : nd L n with
      | nil => exact absurd q h2
      | cons a b => simp
    have e : tot L (n :: ss) = (nd L n).length + tot L ss := by simp [tot]
    rw [e]
    simp
    omega
theorem CAt.add {W W5 : World} {B g b c : Nat} {L0 L1 : List C2} {n : Int} {v : Value} {M : List Int} (h : CAt W B g b L0 c) (hw : (Lit.int .i64 n).wf = true) (hc : c ≤ 100000) (hB : B ≤ W.heap.size) (hb : Below W.heap.size W W5) (ho : Own E1 W5 W.heap.size 3 v M) (hM : M ≠ []) (h1 : ∀ k, nd L1 k = if k = n then M else nd L0 k) :
    ∃ W6 c', (Instr.mapUpdate 52 (.map (some b)) (.int .i64 n) v).run Try.prog W5 = .ok () W6 ∧ CAt W6 B g b L1 c' ∧ Only (fun k => k = b) W5 W6 ∧ c' ≤ c + 1 := by
  have h5 := h.below hb
  obtain ⟨F, hm, h2, h3, h4⟩ := h.ex
  have hm5 := MapIs.below hm hb (MapIs.lt hm)
  have hblk5 := h.blk.below hb h.blk.lt
  obtain ⟨W6, hrun, hmp, hon⟩ := IMap.store (t := 52) hm5 Try.underlying3 Try.underlying52 (by unfold maxLen; omega) hw v
  have hown : ∀ {u : Value} {N : List Int} {B' : Nat}, Own E1 W5 B' 3 u N → Own E1 W6 B' 3 u N := by
    intro u N B' hu
    refine hu.only hon (fun j hj e => ?_)
    obtain ⟨_, _, cs, x3⟩ := Own.lt' hu j hj
    exact (MapIs.ne hm5 x3) e.symm
  have hfar : ∀ k u, F k = some u → ∀ j, u.ownBlock = some j → v.ownBlock ≠ some j := by
    intro k u hu j hj e
    have a := (Own.lt' (h2 k u hu).2 j hj).2.1
    have b := (Own.lt' ho j e).1
    omega
  refine ⟨W6, _, hrun, ⟨hblk5.only hon (fun e => (MapIs.ne hm5 hblk5) e.symm), ⟨_, hmp, ?_, ?_, ?_⟩, h.gb, h.bb⟩, hon, by split <;> omega⟩
  · intro k u hu
    rw [h1]
    by_cases e : k = n
    · subst e
      rw [upd_same] at hu
      injection hu with hu
      subst hu
      rw [if_pos rfl]
      exact ⟨hM, hown (rk.Own.mono ho hB)⟩
    · rw [upd_other _ _ e] at hu
      rw [if_neg e]
      exact ⟨(h2 k u hu).1, hown (rk.Own.below (h2 k u hu).2 hb)⟩
  · intro k hu
    rw [h1]
    by_cases e : k = n
    · subst e
      rw [upd_same] at hu
      cases hu
    · rw [upd_other _ _ e] at hu
      rw [if_neg e]
      exact h3 k hu
  · intro k k' u u' hk hu hu' j hj
    by_cases e : k = n
    · subst e
      rw [upd_same] at hu
      injection hu with hu
      subst hu
      rw [upd_other _ _ (fun q => hk q.symm)] at hu'
      intro q
      exact hfar k' u' hu' j q hj
    · rw [upd_other _ _ e] at hu
      by_cases e' : k' = n
      · subst e'
        rw [upd_same] at hu'
        injection hu' with hu'
        subst hu'
        exact hfar k u hu j hj
      · rw [upd_other _ _ e'] at hu'
        exact h4 k k' u u' hk hu hu' j hj
set_option maxRecDepth 100000 in
set_option maxHeartbeats 4000000 in
theorem copy_any {B g b c : Nat} {L : List C2} {w : World} (h : CAt w B g b L c) (hl : L.length ≤ 100000) (hc : c ≤ 100000) (hgd : ∀ d, d ∈ L → (Lit.int .i64 d.1).wf = true) :
    Calls Try.prog 18 #[.pointer (some ⟨g, 0, none⟩)] w fun e w' => ∃ c', e = .returned (.pointer (some ⟨w.heap.size + 1, 0, none⟩)) ∧ CAt w' w.heap.size (w.heap.size + 1) w.heap.size L c' ∧ c' ≤ L.length ∧ Below w.heap.size w w' := by
  have NW := Lib.hid (new_any w.heap.size w (Nat.le_refl _))
  obtain ⟨F, hm, h2, h3, h4⟩ := h.ex
  have law : Maps.Keyed Try.prog 3 := Maps.int_keyed Try.underlying3
  have H2 := Lib.hid h2
  have H3 := Lib.hid h3
  have HM := Lib.hid hm
  have HBK := Lib.hid h.blk
  have GD := Lib.hid hgd
  clear h h2 h3 h4 hm hgd
  go_enter Try.func18, Try.ntmps18
  go_wp2_with fail
  refine NW.out.mono ?_
  rintro e w1 ⟨rfl, hd1, hb1⟩
  have B1 := Lib.hid hb1
  have D1 := Lib.hid hd1
  obtain ⟨D, hown, hsz, hhas, hat⟩ := IMap.open_ (MapIs.below HM.out hb1 (MapIs.lt HM.out)) Try.underlying3
  have HH := Lib.hid hhas
  have HA := Lib.hid hat
  have BLT := Lib.hid (MapIs.lt HM.out)
  have RGT := Lib.hid (show w.heap.size + 1 < w1.heap.size from hd1.blk.lt)
  have c0 := (HBK.out.below hb1 HBK.out.lt).cell 0
  clear hhas hat hsz hd1 hb1 NW
  go_wp2_with (at_range; refine wpList_range_own _ rfl _ 52 rfl 3 43 law Try.underlying52 Rv b c D rfl hown ?_; intro w0 hrg0 hg0 hs0)
  go_frame
  have hb0 : Below w1.heap.size w1 w0 := (Below.refl _ w1).grown hg0 (Nat.le_refl _) (fun k e => by cases e)
  have B0 := Lib.hid (up B1.out hb0 B1.out.size)
  have D0 := Lib.hid (D1.out.below hb0)
  clear c0 hg0 hb0 hs0
  go_loopw [5] (fun x wr => ∃ (W : World) (left : Lit → Bool) (cnt : Nat) (ss : List Int) (cn : Nat), W = wr ∧ wr.ranges Try.prog 3 Rv b w1.heap.size c D left cnt ∧ CollectedI D left ss ∧ CAt wr w.heap.size (w.heap.size + 1) w.heap.size (only L ss) cn ∧ cn ≤ ss.length ∧ (∀ n, n ∈ ss → nd L n ≠ []) ∧ Below w.heap.size w wr) (fun _ wr => wr.rangeLeft b w1.heap.size)
  case atStart => exact ⟨_, _, _, [], 0, rfl, hrg0, CollectedI.start D, by rw [only_nil]; exact D0.out, by simp, fun n h => (by cases h), B0.out⟩
  case round =>
  obtain ⟨w2, left, cnt, ss, cn, rfl, hrg, hcol, hd, hcn, hne, hb⟩ := hrel
  have B2 := Lib.hid hb
  have CO := Lib.hid hcol
  have D2 := Lib.hid hd
  have NE := Lib.hid hne
  have LT := Lib.hid (Nat.le_trans (len_tot hne) (tot_le L ss hcol.1))
  clear hb hcol hrg0 hown hd hne D0 B0
  go_wp2_with (at_next; refine wpList_next_ranges _ rfl _ rfl 3 law Rv (Value.int .i64) id (fun key kl hkey => by obtain ⟨x, hx, _⟩ := Maps.keyOf_i64 Try.underlying3 hkey; exact ⟨x, hx⟩) (fun v y _ => ⟨v, rfl⟩) b w1.heap.size c D left cnt rfl hrg ?_ ?_)
  · intro hc0 hl0
    have e1 := only_all (L := L) (ss := ss) (fun d hd => by
      refine (CO.out.2 d.1).2 ⟨?_, hl0 _⟩
      rw [HH.out _ (GD.out d hd)]
      cases q : F d.1 with
      | none => exact absurd (H3.out _ q) (nd_ne hd)
      | some v => rfl)
    rw [e1] at D2
    go_wp2_with fail
    go_ret
    exact ⟨cn, rfl, D2.out, Nat.le_trans hcn LT.out, B2.out⟩
  · intro x v kl y y' w3 cnt3 hkey hlk hv hat' hrg3 hlt hg3 hs3 hen
    obtain ⟨x', ex, rfl, hwx⟩ := Maps.keyOf_i64 Try.underlying3 hkey
    injection ex with _ ex
    subst ex
    obtain ⟨rfl, rfl⟩ : y = .held v ∧ y' = [] := by
      unfold Rv at hv
      injection hv with hv
      injection hv with hv1 hv2
      exact ⟨hv1.symm, hv2.symm⟩
    have hF := HA.out x v hwx hat'
    obtain ⟨hnx, hown⟩ := H2.out x v hF
    obtain ⟨A, cc, rfl, hlay, -⟩ := hown.open_
    have hnl := nd_len L x
    have C3 := Lib.hid (CO.out.step hlk hat')
    have hb3 : Below w.heap.size w w3 := B2.out.grown hg3 B2.out.size (fun k e => by injection e with e; have := RGT.out; omega)
    have hD3 : CAt w3 w.heap.size (w.heap.size + 1) w.heap.size (only L ss) cn := by
      obtain ⟨F', hm', k2, k3, k4⟩ := D2.out.ex
      have hr1 : ∀ j, j < w2.heap.size → j ≠ w1.heap.size → w3.heap[j]? = w2.heap[j]? := fun j hj hne => hg3.block j hj (fun e => hne (by injection e))
      refine ⟨(hr1 _ D2.out.blk.lt (by have := RGT.out; omega)).trans D2.out.blk, ⟨F', MapIs.keep hm' (hr1 _ (MapIs.lt hm') (by have := RGT.out; omega)), fun n u hn => ⟨(k2 n u hn).1, (k2 n u hn).2.keep (fun j hj => ?_)⟩, k3, k4⟩, D2.out.gb, D2.out.bb⟩
      obtain ⟨_, hjl, cs, hjb⟩ := Own.lt' (k2 n u hn).2 j hj
      refine hr1 j hjl (fun e => ?_)
      subst e
      obtain ⟨es, clock, since, seen, c0', q1, q2, q3, q4, q5, q6⟩ := hrg
      unfold Blk at hjb
      rw [q5] at hjb
      cases hjb
    have D3 := Lib.hid hD3
    have B3 := Lib.hid hb3
    have L3 := Lib.hid (hlay.below hb3)
    have ML := Lib.hid (show cnt3 < w2.rangeLeft b w1.heap.size by rw [hrg.left_eq]; exact hlt)
    have RG := Lib.hid hrg3
    have HX := Lib.hid hnx
    have WX := Lib.hid hwx
    have HZ := Lib.hid hnl
    clear hown hF hg3 hrg3 hrg hlk hat' hv hkey hwx hb3 hD3 hlay hnx hnl
    have hsl := Lib.hid (Nat.le_trans hcn LT.out)
    obtain ⟨z, hz⟩ : ∃ z, (nd L x).length = z := ⟨_, rfl⟩
    have NEX := Lib.hid (show ∀ n, n ∈ ss ++ [x] → nd L n ≠ [] from fun n hn => by
      rcases List.mem_append.1 hn with q | q
      · exact NE.out n q
      · obtain rfl : n = x := by simpa using q
        exact HX.out)
    go_upto_region 5 with fail
    have hdr := (Below.refl w3.heap.size w3).drew
    have D4 := Lib.hid (show CAt w3.drew w.heap.size (w.heap.size + 1) w.heap.size (only L ss) cn from D3.out.below hdr)
    have L4 := Lib.hid (show Lay E1 w3.drew A (nd L x) from L3.out.below hdr)
    have B4 := Lib.hid (show Below w.heap.size w w3.drew from up B3.out hdr B3.out.size)
    have RG4 := Lib.hid (show w3.drew.ranges Try.prog 3 Rv b w1.heap.size c D (fun z => left z && !z.sameKey (.int .i64 x)) cnt3 from ranges_keep RG.out rfl rfl)
    have CL := Lib.hid (clone_any A cc (nd L x) w3.drew L4.out (by have := HZ.out; omega))
    rw [hz] at CL
    clear hdr RG B3 D3 L3 hen
    refine wp_region_held_drew (S := fun ws => ws.cell? ⟨w.heap.size + 1, 0, none⟩ = some (.map (some w.heap.size))) (by kernel_rfl) (D4.out.blk.cell 0) (fun hHeld => ?_)
    generalize w3.drew = w4 at *
    refine wpAnyH_take (i := 0) (v := ?_) rfl (by kernel_rfl) (by kernel_rfl) (by kernel_rfl) (fun _ _ _ h => h) (Or.inl ⟨by rfl, ?_⟩) (by assumption) ?_
    rotate_left
    · (intro w hSw; (try dsimp only at hSw); first | (go_simp; done) | (go_simp; with_reducible rfl))
    simp only [Act.put, List.getElem_toArray, List.getElem_cons_zero, List.getElem_cons_succ, List.setIfInBounds_toArray, List.set_cons_zero, List.set_cons_succ]
    refine wpAnyH_take (i := 1) (v := ?_) rfl (by kernel_rfl) (by kernel_rfl) (by kernel_rfl) (fun _ _ _ h => h) (Or.inl ⟨by rfl, ?_⟩) (by assumption) ?_
    rotate_left
    · (intro w hSw; (try dsimp only at hSw); first | (go_simp; done) | (go_simp; with_reducible rfl))
    simp only [Act.put, List.getElem_toArray, List.getElem_cons_zero, List.getElem_cons_succ, List.setIfInBounds_toArray, List.set_cons_zero, List.set_cons_succ]
    refine wpAnyH_take (i := 2) (v := ?_) rfl (by kernel_rfl) (by kernel_rfl) (by kernel_rfl) (fun _ _ _ h => h) (Or.inl ⟨by rfl, ?_⟩) (by assumption) ?_
    rotate_left
    · (intro w hSw; (try dsimp only at hSw); first | (go_simp; done) | (go_simp; with_reducible rfl))
    simp only [Act.put, List.getElem_toArray, List.getElem_cons_zero, List.getElem_cons_succ, List.setIfInBounds_toArray, List.set_cons_zero, List.set_cons_succ]
    refine wpAnyH_take (i := 3) (v := ?_) rfl (by kernel_rfl) (by kernel_rfl) (by kernel_rfl) (fun _ _ _ h => h) (Or.inl ⟨by rfl, ?_⟩) (by assumption) ?_
    rotate_left
    · (intro w hSw; (try dsimp only at hSw); first | (go_simp; done) | (go_simp; with_reducible rfl))
    simp only [Act.put, List.getElem_toArray, List.getElem_cons_zero, List.getElem_cons_succ, List.setIfInBounds_toArray, List.set_cons_zero, List.set_cons_succ]
    refine wpAnyH_take (i := 4) (v := ?_) rfl (by kernel_rfl) (by kernel_rfl) (by kernel_rfl) (fun _ _ _ h => h) (Or.inl ⟨by rfl, ?_⟩) (by assumption) ?_
    rotate_left
    · (intro w hSw; (try dsimp only at hSw); first | (go_simp; done) | (go_simp; with_reducible rfl))
    simp only [Act.put, List.getElem_toArray, List.getElem_cons_zero, List.getElem_cons_succ, List.setIfInBounds_toArray, List.set_cons_zero, List.set_cons_succ]
    refine wpAnyH_take (i := 5) (v := ?_) rfl (by kernel_rfl) (by kernel_rfl) (by kernel_rfl) (fun _ _ _ h => h) (Or.inl ⟨by rfl, ?_⟩) (by assumption) ?_
    rotate_left
    · (intro w hSw; (try dsimp only at hSw); first | (go_simp; done) | (go_simp; with_reducible rfl))
    simp only [Act.put, List.getElem_toArray, List.getElem_cons_zero, List.getElem_cons_succ, List.setIfInBounds_toArray, List.set_cons_zero, List.set_cons_succ]
    refine wpAnyH_ready (rs := [6]) (by kernel_rfl) (by simp) ?_
    refine AllReadyH.cons rfl (fun K hK => ?_) AllReadyH.nil
    go_simp
    refine CL.out.mono ?_
    rintro e w5 ⟨v5, rfl, ho5, hb5⟩
    obtain ⟨w6, c6, hrun, hd6, hon, hc6⟩ := CAt.add (L1 := only L (ss ++ [x])) D4.out WX.out (by have := hsl.out; omega) B4.out.size hb5 ho5 HX.out (fun k => nd_only_snoc L ss x k)
    have hrl := RG4.out.lt
    have D6 := Lib.hid hd6
    have B6 := Lib.hid (show Below w.heap.size w w6 from (up B4.out hb5 B4.out.size).trans (Only.to_below hon (fun i hi e => by omega) (Nat.le_trans B4.out.size hb5.size)))
    have RG6 := Lib.hid (show w6.ranges Try.prog 3 Rv b w1.heap.size c D (fun z => left z && !z.sameKey (.int .i64 x)) cnt3 from ranges_keep RG4.out ((hon.block b (Nat.lt_of_lt_of_le BLT.out (Nat.le_trans B4.out.size hb5.size)) (fun e => by have := BLT.out; omega)).trans (hb5.block b (Nat.lt_of_lt_of_le BLT.out B4.out.size))) ((hon.block _ (Nat.lt_of_lt_of_le hrl hb5.size) (fun e => by have := RGT.out; omega)).trans (hb5.block _ hrl)))
    refine hK.out _ _ ((D4.out.below hb5).blk.cell 0) (fun hH1 => ?_)
    clear hK K hHeld CL
    clear hd6 hon ho5 hb5 RG4 D4 L4 B4
    refine wpAnyH_ready (rs := [7]) (by kernel_rfl) (by simp) ?_
    refine AllReadyH.cons rfl (fun K hK => ?_) AllReadyH.nil
    go_simp
    refine hK.out _ _ (D6.out.blk.cell 0) (fun hH2 => ?_)
    clear hK K hH1 hrun
    refine wpAnyH_done (by kernel_rfl) ?_ _
    clear hH2
    go_wp2_with fail
    refine ⟨⟨_, _, _, ss ++ [x], c6, rfl, RG6.out, C3.out, D6.out, by simp; omega, NEX.out, B6.out⟩, ?_⟩
    rw [RG6.out.left_eq]
    exact ML.out
end Go.Proofs.Ytknkcdhdfojifaa.ch
