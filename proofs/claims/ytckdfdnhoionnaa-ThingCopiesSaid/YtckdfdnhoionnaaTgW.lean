/-
  Things: Copy.
-/
import Derived.Test.YtckdfdnhoionnaaTgV
import Derived.Deep.RegionHeld
namespace Go.Proofs.Ytckdfdnhoionnaa.tg
open Go.RowKit Go.Maps
open base (ret_bool ret_int made up Blk Only)
open rk mk il nm
set_option linter.unusedVariables false
set_option linter.unusedSimpArgs false
variable {B g m K : Nat} {w w1 w2 w5 w' : World} {L : List Th} {nx : Int}

theorem ranges_keep {H : Type} {w w' : World} {P : Program} {k : TypeId} {R : Value → Option (DataW H × List MemPlace)} {b r n : Nat} {D : DataW H} {left : Lit → Bool} {cnt : Nat} (h : w.ranges P k R b r n D left cnt) (e1 : w'.heap[b]? = w.heap[b]?) (e2 : w'.heap[r]? = w.heap[r]?) : w'.ranges P k R b r n D left cnt := by
  obtain ⟨es, clock, since, seen, c0, h1, h2, h3, h4, h5, h6⟩ := h
  exact ⟨es, clock, since, seen, c0, e1.trans h1, h2, h3, h4, e2.trans h5, h6⟩
theorem run_makeMap_hint (t k e : TypeId) (h : Try.prog.underlying t = some (.map k e)) (n : Int) (w : World) : (Instr.makeMap t (some (.int .i64 n))).run Try.prog w = .ok (.map (some w.heap.size)) (w.alloc (.map #[] 0)) := by
  simp [Instr.makeMap, run_underlying h, asInt, asIntOf, Result.andThen]
/-- a copy under way: the rows stand, the map holds the rows of some places -/
structure PTh (w : World) (B g m : Nat) (L : List Th) (ss : List Pc) (nx : Int) (K : Nat) : Prop where
  ex : ∃ v, Blk w g 68 #[v, .map (some m), .int .i64 nx] ∧ rk.Own E6 w B 46 v L
  map : MAt w B m (onlyP L ss) K
  ge : B ≤ g
variable {ss : List Pc}
theorem PTh.below (H : PTh w B g m L ss nx K) (hb : Below w.heap.size w w1) : PTh w1 B g m L ss nx K := by
  obtain ⟨⟨v, h1, h2⟩, h3, h4⟩ := H
  exact ⟨⟨v, h1.below hb h1.lt, h2.below hb⟩, h3.below hb, h4⟩
theorem PTh.cell1 (H : PTh w B g m L ss nx K) : w.cell? ⟨g, 1, none⟩ = some (.map (some m)) := by
  obtain ⟨v, h1, _⟩ := H.ex
  exact h1.cell 1
theorem PTh.keep (H : PTh w B g m L ss nx K) {r : Nat} (h : ∀ k, k < w.heap.size → k ≠ r → w1.heap[k]? = w.heap[k]?) (hr : ∀ t cs, ¬ Blk w r t cs) (hm : m ≠ r) : PTh w1 B g m L ss nx K := by
  obtain ⟨⟨v, h1, h2⟩, ⟨f, V, c, h3, hc⟩, h4⟩ := H
  have ne : ∀ {t cs} {k : Nat}, Blk w k t cs → k ≠ r := fun hb e => hr _ _ (e ▸ hb)
  refine ⟨⟨v, (h g h1.lt (ne h1)).trans h1, h2.keep (fun k hk => ?_)⟩, ⟨f, V, c, h3.keep (h m h3.map.lt hm) (fun p hp hn k hk => ?_), hc⟩, h4⟩
  · obtain ⟨_, hlt, cs, hb⟩ := h2.lt' k hk
    exact h k hlt (ne hb)
  · obtain ⟨_, hlt, cs, hb⟩ := (h3.own p hp hn).lt' k hk
    exact h k hlt (ne hb)
theorem PTh.add {x : Pc} {v : Value} (H : PTh w B g m L ss nx K) (hx : wp x) (hK : K ≤ 99999) (hB : B ≤ w.heap.size) (hb : Below w.heap.size w w5) (ho : OwnI w5 w.heap.size v (ids L x)) (hne : ids L x ≠ []) :
    ∃ w6, (Instr.mapUpdate 66 (.map (some m)) (pv x) v).run Try.prog w5 = .ok () w6 ∧ PTh w6 B g m L (ss ++ [x]) nx (K + 1) ∧ Only (fun k => k = m) w5 w6 := by
  obtain ⟨⟨u, h1, h2⟩, ⟨f, V, c, h3, hc⟩, h4⟩ := H
  obtain ⟨k, hk⟩ := own_some ho hne
  obtain ⟨w6, hrun, hmt, hon⟩ := h3.put hx ((Only.refl _ w).below hb (fun i h1 h2 => by omega)) (ho.mono hB) (.inr ⟨k, hk, (ho.lt' k hk).1⟩) (ids_snocP L ss x) hne hc (by omega)
  have hm5 := h3.map.below hb h3.map.lt
  obtain ⟨es, cl, hobj⟩ := map_obj hm5
  have h15 := h1.below hb h1.lt
  have h25 := h2.below hb
  refine ⟨w6, hrun, ⟨⟨u, h15.only hon (fun e => blk_map_ne h15 hm5 e), h25.keep (fun k hk => hon.block k (h25.lt' k hk).2.1 (fun e => own_map_ne h25 hobj k hk e))⟩, hmt, h4⟩, hon⟩
theorem PTh.all (H : PTh w B g m L ss nx K) (h : ∀ d, d ∈ L → pc d ∈ ss) : TAt w B g m L nx K := by
  have h3 := H.map
  rw [only_allP h] at h3
  exact ⟨H.ex, h3, H.ge⟩
def CopyP (w : World) (L : List Th) (nx : Int) (e : Ending) (w' : World) : Prop := ∃ g' m', e = .returned (.pointer (some ⟨g', 0, none⟩)) ∧ TAt w' w.heap.size g' m' L nx L.length ∧ Below w.heap.size w w'
set_option maxRecDepth 100000 in
set_option maxHeartbeats 1500000 in
theorem copy_any (H : TAt w B g m L nx K) (hl : L.length ≤ 4096) (G : Gd (L, nx)) : Calls Try.prog 27 #[.pointer (some ⟨g, 0, none⟩)] w (CopyP w L nx) := by
  obtain ⟨A, c, h1, h2, _, hle, hmx⟩ := H.open_
  obtain ⟨f, V, nT, hM, hcK⟩ := H.map
  have GP := Lib.hid G.pl
  have H1 := Lib.hid h1
  have H2 := Lib.hid (own_lay h2)
  have HM := Lib.hid hM
  have D4 := Lib.hid ((Below.refl w.heap.size w).drew)
  have hmk := run_makeMap_hint 66 31 38 Try.underlying66
  have SF := Lib.hid (fun W (h : Below w.heap.size w W) => show W.cell? ⟨g, 0, none⟩ = some (.slice A L.length c) ∧ W.cell? ⟨g, 1, none⟩ = some (.map (some m)) ∧ W.cell? ⟨g, 2, none⟩ = some (.int .i64 nx) ∧ ∀ ty, (Builtin.len_ #[66] ty #[.map (some m)]).run Try.prog W = .ok (.int .i64 nT) W from ⟨(H1.out.below h H1.out.lt).cell 0, (H1.out.below h H1.out.lt).cell 1, (H1.out.below h H1.out.lt).cell 2, fun ty => MapIs.len (HM.out.map.below h HM.out.map.lt) Try.underlying66 ty⟩)
  have CL := Lib.hid (fun ws (h : Below w.heap.size w ws) => clone_th A c L ws (H2.out.below h) (by omega))
  clear h1 h2 hM H G
  go_enter Try.func27, Try.ntmps27
  go_upto_region 1 with fail
  refine wp_region_held_drew (S := fun W => W.cell? ⟨g, 0, none⟩ = some (.slice A L.length c) ∧ W.cell? ⟨g, 1, none⟩ = some (.map (some m)) ∧ W.cell? ⟨g, 2, none⟩ = some (.int .i64 nx) ∧ ∀ ty, (Builtin.len_ #[66] ty #[.map (some m)]).run Try.prog W = .ok (.int .i64 nT) W) (by kernel_rfl) (SF.out _ D4.out) (fun hHeld => ?_)
  generalize w.drew = w4 at *
  refine wpAnyH_take (i := 0) (v := ?_) rfl (by kernel_rfl) (by kernel_rfl) (by kernel_rfl) (fun _ _ _ h => h) (Or.inl ⟨by rfl, ?_⟩) (by assumption) ?_
  rotate_left
  · (intro w hSw; (try dsimp only at hSw); first | (go_simp; done) | (go_simp; with_reducible rfl))
  simp only [Act.put, List.getElem_toArray, List.getElem_cons_zero, List.getElem_cons_succ, List.setIfInBounds_toArray, List.set_cons_zero, List.set_cons_succ]
  refine wpAnyH_take (i := 1) (v := ?_) rfl (by kernel_rfl) (by kernel_rfl) (by kernel_rfl) (fun _ _ _ h => h) (Or.inl ⟨by rfl, ?_⟩) (by assumption) ?_
  rotate_left
  · (intro w hSw; (try dsimp only at hSw); first | (go_simp; done) | (go_simp; with_reducible rfl))
  simp only [Act.put, List.getElem_toArray, List.getElem_cons_zero, List.getElem_cons_succ, List.setIfInBounds_toArray, List.set_cons_zero, List.set_cons_succ]
  refine wpAnyH_take (i := 2) (v := ?_) rfl (by kernel_rfl) (by kernel_rfl) (by kernel_rfl) (fun _ _ _ h => h) (Or.inl ⟨by rfl, ?_⟩) (by assumption) ?_
  rotate_left
  · (intro w hSw; (try dsimp only at hSw); first | (go_simp; done) | (go_simp; with_reducible rfl))
  simp only [Act.put, List.getElem_toArray, List.getElem_cons_zero, List.getElem_cons_succ, List.setIfInBounds_toArray, List.set_cons_zero, List.set_cons_succ]
  refine wpAnyH_take (i := 3) (v := ?_) rfl (by kernel_rfl) (by kernel_rfl) (by kernel_rfl) (fun _ _ _ h => h) (Or.inl ⟨by rfl, ?_⟩) (by assumption) ?_
  rotate_left
  · (intro w hSw; (try dsimp only at hSw); first | (go_simp; done) | (go_simp; with_reducible rfl))
  simp only [Act.put, List.getElem_toArray, List.getElem_cons_zero, List.getElem_cons_succ, List.setIfInBounds_toArray, List.set_cons_zero, List.set_cons_succ]
  refine wpAnyH_take (i := 5) (v := ?_) rfl (by kernel_rfl) (by kernel_rfl) (by kernel_rfl) (fun _ _ _ h => h) (Or.inl ⟨by rfl, ?_⟩) (by assumption) ?_
  rotate_left
  · (intro w hSw; (try dsimp only at hSw); first | (go_simp; done) | (go_simp; with_reducible rfl))
  simp only [Act.put, List.getElem_toArray, List.getElem_cons_zero, List.getElem_cons_succ, List.setIfInBounds_toArray, List.set_cons_zero, List.set_cons_succ]
  refine wpAnyH_take (i := 6) (v := ?_) rfl (by kernel_rfl) (by kernel_rfl) (by kernel_rfl) (fun _ _ _ h => h) (Or.inl ⟨by rfl, ?_⟩) (by assumption) ?_
  rotate_left
  · (intro w hSw; (try dsimp only at hSw); first | (go_simp; done) | (go_simp; with_reducible rfl))
  simp only [Act.put, List.getElem_toArray, List.getElem_cons_zero, List.getElem_cons_succ, List.setIfInBounds_toArray, List.set_cons_zero, List.set_cons_succ]
  refine wpAnyH_take (i := 7) (v := ?_) rfl (by kernel_rfl) (by kernel_rfl) (by kernel_rfl) (fun _ _ _ h => h) (Or.inl ⟨by rfl, ?_⟩) (by assumption) ?_
  rotate_left
  · (intro w hSw; (try dsimp only at hSw); first | (go_simp; done) | (go_simp; with_reducible rfl))
  simp only [Act.put, List.getElem_toArray, List.getElem_cons_zero, List.getElem_cons_succ, List.setIfInBounds_toArray, List.set_cons_zero, List.set_cons_succ]
  refine wpAnyH_take (i := 8) (v := ?_) rfl (by kernel_rfl) (by kernel_rfl) (by kernel_rfl) (fun _ _ _ h => h) (Or.inl ⟨by rfl, ?_⟩) (by assumption) ?_
  rotate_left
  · (intro w hSw; (try dsimp only at hSw); first | (go_simp; done) | (go_simp; with_reducible rfl))
  simp only [Act.put, List.getElem_toArray, List.getElem_cons_zero, List.getElem_cons_succ, List.setIfInBounds_toArray, List.set_cons_zero, List.set_cons_succ]
  refine wpAnyH_take (i := 11) (v := ?_) rfl (by kernel_rfl) (by kernel_rfl) (by kernel_rfl) (fun _ _ _ h => h) (Or.inl ⟨by rfl, ?_⟩) (by assumption) ?_
  rotate_left
  · (intro w hSw; (try dsimp only at hSw); first | (go_simp; done) | (go_simp; with_reducible rfl))
  simp only [Act.put, List.getElem_toArray, List.getElem_cons_zero, List.getElem_cons_succ, List.setIfInBounds_toArray, List.set_cons_zero, List.set_cons_succ]
  refine wpAnyH_take (i := 12) (v := ?_) rfl (by kernel_rfl) (by kernel_rfl) (by kernel_rfl) (fun _ _ _ h => h) (Or.inl ⟨by rfl, ?_⟩) (by assumption) ?_
  rotate_left
  · (intro w hSw; (try dsimp only at hSw); first | (go_simp; done) | (go_simp; with_reducible rfl))
  simp only [Act.put, List.getElem_toArray, List.getElem_cons_zero, List.getElem_cons_succ, List.setIfInBounds_toArray, List.set_cons_zero, List.set_cons_succ]
  refine wpAnyH_take (i := 13) (v := ?_) rfl (by kernel_rfl) (by kernel_rfl) (by kernel_rfl) (fun _ _ _ h => h) (Or.inl ⟨by rfl, ?_⟩) (by assumption) ?_
  rotate_left
  · (intro w hSw; (try dsimp only at hSw); first | (go_simp; done) | (go_simp; with_reducible rfl))
  simp only [Act.put, List.getElem_toArray, List.getElem_cons_zero, List.getElem_cons_succ, List.setIfInBounds_toArray, List.set_cons_zero, List.set_cons_succ]
  refine wpAnyH_take (i := 14) (v := ?_) rfl (by kernel_rfl) (by kernel_rfl) (by kernel_rfl) (fun _ _ _ h => h) (Or.inl ⟨by rfl, ?_⟩) (by assumption) ?_
  rotate_left
  · (intro w hSw; (try dsimp only at hSw); first | (go_simp; done) | (go_simp; with_reducible rfl))
  simp only [Act.put, List.getElem_toArray, List.getElem_cons_zero, List.getElem_cons_succ, List.setIfInBounds_toArray, List.set_cons_zero, List.set_cons_succ]
  refine wpAnyH_ready (rs := [4]) (by kernel_rfl) (by simp) ?_
  refine AllReadyH.cons rfl (fun K hK => ?_) AllReadyH.nil
  go_simp
  go_wp2_with (go_at_call 44; refine (CL.out _ D4.out).mono ?_; rintro e w5 ⟨v5, rfl, ho5, hb5⟩)
  have D5 := Lib.hid (up D4.out hb5 D4.out.size)
  obtain ⟨A5, c5, rfl, -⟩ := ho5.open_
  have O5 := Lib.hid (ho5.mono D4.out.size)
  refine hK.out _ _ (SF.out _ D5.out) (fun hHeld2 => ?_)
  clear hK K hHeld CL ho5 hb5
  refine wpAnyH_take (i := 9) (v := ?_) rfl (by kernel_rfl) (by kernel_rfl) (by kernel_rfl) (fun _ _ _ h => h) (Or.inl ⟨by rfl, ?_⟩) (by assumption) ?_
  rotate_left
  · (intro w hSw; (try dsimp only at hSw); first | (go_simp; done) | (go_simp; with_reducible rfl))
  simp only [Act.put, List.getElem_toArray, List.getElem_cons_zero, List.getElem_cons_succ, List.setIfInBounds_toArray, List.set_cons_zero, List.set_cons_succ]
  refine wpAnyH_ready (rs := [10]) (by kernel_rfl) (by simp) ?_
  refine AllReadyH.cons rfl (fun K hK => ?_) AllReadyH.nil
  go_simp
  go_wp2_with fail
  have D6 := Lib.hid (up D5.out (made w5 (.map #[] 0)) D5.out.size)
  have O6 := Lib.hid (O5.out.below (made w5 (.map #[] 0)))
  have M6 := Lib.hid (MIs.made w5 w.heap.size D5.out.size)
  generalize w5.alloc (.map #[] 0) = w6 at *
  generalize w5.heap.size = m2 at *
  refine hK.out _ _ (SF.out _ D6.out) (fun hHeld3 => ?_)
  clear hK K hHeld2
  refine wpAnyH_take (i := 15) (v := ?_) rfl (by kernel_rfl) (by kernel_rfl) (by kernel_rfl) (fun _ _ _ h => h) (Or.inl ⟨by rfl, ?_⟩) (by assumption) ?_
  rotate_left
  · (intro w hSw; (try dsimp only at hSw); first | (go_simp; done) | (go_simp; with_reducible rfl))
  simp only [Act.put, List.getElem_toArray, List.getElem_cons_zero, List.getElem_cons_succ, List.setIfInBounds_toArray, List.set_cons_zero, List.set_cons_succ]
  refine wpAnyH_ready (rs := [16]) (by kernel_rfl) (by simp) ?_
  refine AllReadyH.cons rfl (fun K hK => ?_) AllReadyH.nil
  go_simp
  go_wp2_with fail
  have hm7 := made w6 (.cells #[.slice A5 L.length c5, .map (some m2), .int .i64 nx] 68)
  have D7 := Lib.hid (up D6.out hm7 D6.out.size)
  have PT := Lib.hid (show PTh (w6.alloc (.cells #[.slice A5 L.length c5, .map (some m2), .int .i64 nx] 68)) w.heap.size w6.heap.size m2 L [] nx 0 from
    ⟨⟨_, Blk.new w6 68 #[.slice A5 L.length c5, .map (some m2), .int .i64 nx], O6.out.below hm7⟩, ⟨_, _, 0, by rw [only_nilP]; exact M6.out.below hm7, Nat.le_refl _⟩, D6.out.size⟩)
  refine hK.out _ _ (SF.out _ D7.out) (fun hHeld5 => ?_)
  clear hK K hHeld3
  refine wpAnyH_take (i := 17) (v := ?_) rfl (by kernel_rfl) (by kernel_rfl) (by kernel_rfl) (fun _ _ _ h => h) (Or.inl ⟨by rfl, ?_⟩) (by assumption) ?_
  rotate_left
  · (intro w hSw; (try dsimp only at hSw); first | (go_simp; done) | (go_simp; with_reducible rfl))
  simp only [Act.put, List.getElem_toArray, List.getElem_cons_zero, List.getElem_cons_succ, List.setIfInBounds_toArray, List.set_cons_zero, List.set_cons_succ]
  refine wpAnyH_done (by kernel_rfl) ?_ _
  clear hHeld5 SF hm7 hmk O6 M6 O5 D5 D6 D4
  generalize w6.alloc (.cells #[.slice A5 L.length c5, .map (some m2), .int .i64 nx] 68) = w7 at *
  generalize w6.heap.size = g2 at *
  obtain ⟨D, hown, hhas, hat⟩ := kmap_open (HM.out.map.below D7.out HM.out.map.lt)
  have HH := Lib.hid hhas
  have HA := Lib.hid hat
  have BLT := Lib.hid HM.out.map.lt
  have RGT := Lib.hid (show w.heap.size ≤ w7.heap.size from D7.out.size)
  have c1 := (H1.out.below D7.out H1.out.lt).cell 1
  clear hhas hat
  go_wp2_with (at_range; refine wpList_range_own _ rfl _ 66 rfl 31 38 law Try.underlying66 mk.Rv m nT D rfl hown ?_; intro w0 hrg0 hg0 hs0)
  go_frame
  have hb0 : Below w7.heap.size w7 w0 := (Below.refl _ w7).grown hg0 (Nat.le_refl _) (fun k e => by cases e)
  have B0 := Lib.hid (up D7.out hb0 D7.out.size)
  have P0 := Lib.hid (PT.out.below hb0)
  have PGL := Lib.hid (show m2 < w7.heap.size from by obtain ⟨f2, V2, cc, h, _⟩ := PT.out.map; exact h.map.lt)
  have MGE := Lib.hid (show w.heap.size ≤ m2 from by obtain ⟨f2, V2, cc, h, _⟩ := PT.out.map; exact h.ge)
  clear c1 hg0 hb0 hs0
  go_loopw [4, 5] (fun x4 x5 wr => ∃ (W : World) (left : Lit → Bool) (cnt : Nat) (ss : List Pc), W = wr ∧ wr.ranges Try.prog 31 mk.Rv m w7.heap.size nT D left cnt ∧ ss.Nodup ∧ ColP D left ss ∧ PTh wr w.heap.size g2 m2 L ss nx ss.length ∧ (∀ p, p ∈ ss → ids L p ≠ []) ∧ Below w.heap.size w wr) (fun _ _ wr => wr.rangeLeft m w7.heap.size)
  case atStart => exact ⟨_, _, _, [], rfl, hrg0, List.nodup_nil, ColP.start D, P0.out, (fun p h => by cases h), B0.out⟩
  case round =>
  obtain ⟨w2, left, cnt, ss, rfl, hrg, hnd, hcol, hd, hne, hb⟩ := hrel
  have B2 := Lib.hid hb
  have CO := Lib.hid hcol
  have D2 := Lib.hid hd
  have NE := Lib.hid hne
  have ND := Lib.hid hnd
  have LE := Lib.hid (places_le hnd hne)
  clear hb hcol hrg0 hown hd hnd hne P0 B0 PT
  go_wp2_with (at_next; refine wpList_next_ranges _ rfl _ rfl 31 law mk.Rv pv id (fun key kl hkey => by obtain ⟨x, _, hx⟩ := key_inv hkey; exact ⟨x, hx⟩) (fun v y _ => ⟨v, rfl⟩) m w7.heap.size nT D left cnt rfl hrg ?_ ?_)
  · intro hc0 hl0
    have R8 := Lib.hid (D2.out.all (fun d hd => by
      have hw := GP.out d hd
      refine (CO.out (pc d) hw).2 ⟨?_, hl0 _⟩
      rw [HH.out _ hw, HM.out.val _ hw, if_neg (ids_ne hd)]
      rfl))
    go_wp2_with fail
    go_ret
    have := LE.out
    exact ⟨g2, m2, rfl, R8.out.mono LE.out, B2.out⟩
  · intro x v kl' y y' w3 cnt3 hkey hlk hv hat' hrg3 hlt hg3 hs3 hen
    obtain ⟨p, hwx, hpx⟩ := key_inv hkey
    obtain rfl : x = p := by
      unfold pv at hpx
      injection hpx with q
      simp at q
      exact Pc.ext q.1 q.2.1 q.2.2
    obtain rfl : kl' = kl x := by
      have := key_of hwx
      rw [hkey] at this
      injection this
    obtain ⟨rfl, rfl⟩ : y = .held v ∧ y' = [] := by
      unfold mk.Rv at hv
      injection hv with hv
      injection hv with hv1 hv2
      exact ⟨hv1.symm, hv2.symm⟩
    have hF := HA.out x v hwx hat'
    rw [HM.out.val x hwx] at hF
    have hnx : ids L x ≠ [] := fun e => by rw [if_pos e] at hF; cases hF
    rw [if_neg hnx] at hF
    injection hF with hF
    have hown := HM.out.own x hwx hnx
    rw [hF] at hown
    obtain ⟨A3, cc, rfl, hlay, -⟩ := hown.open_
    have hnl := ids_len L x
    obtain ⟨hxn, hC3⟩ := CO.out.step hwx hlk hat'
    have C3 := Lib.hid hC3
    have NDX := Lib.hid (show (ss ++ [x]).Nodup from List.nodup_append.2 ⟨ND.out, by simp, fun a ha b hb => by simp at hb; subst hb; exact fun e => hxn (e ▸ ha)⟩)
    have hb3 : Below w.heap.size w w3 := B2.out.grown hg3 B2.out.size (fun k e => by injection e with e; have := RGT.out; omega)
    have hD3 : PTh w3 w.heap.size g2 m2 L ss nx ss.length := D2.out.keep (r := w7.heap.size) (fun k hk hne => hg3.block k hk (fun e => hne (by injection e))) (fun t cs hjb => by
      obtain ⟨es, clock, since, seen, c0', q1, q2, q3, q4, q5, q6⟩ := hrg
      unfold Blk at hjb
      rw [q5] at hjb
      cases hjb) (by have := PGL.out; omega)
    have D3 := Lib.hid hD3
    have B3 := Lib.hid hb3
    have L3 := Lib.hid (hlay.below hb3)
    have ML := Lib.hid (show cnt3 < w2.rangeLeft m w7.heap.size by rw [hrg.left_eq]; exact hlt)
    have RG := Lib.hid hrg3
    have HX := Lib.hid hnx
    have WX := Lib.hid hwx
    have HZ := Lib.hid hnl
    have NEX := Lib.hid (show ∀ p, p ∈ ss ++ [x] → ids L p ≠ [] from fun p hp => by
      rcases List.mem_append.1 hp with q | q
      · exact NE.out p q
      · obtain rfl : p = x := by simpa using q
        exact HX.out)
    have RL := Lib.hid hrg3.lt
    clear hs3 hown hF hg3 hrg3 hrg hlk hat' hv hkey hwx hb3 hD3 hlay hnx hnl hxn hC3 hpx
    have CI := Lib.hid (fun ws (h : Lay il.E1 ws A3 (ids L x)) => il.clone_any A3 cc (ids L x) ws h (by have := HZ.out; omega))
    have SX := Lib.hid (ids_snocP L ss x)
    have CAD := Lib.hid (fun (W W5 : World) (v : Value) (h : PTh W w.heap.size g2 m2 L ss nx ss.length) (hB : w.heap.size ≤ W.heap.size) (hb : Below W.heap.size W W5) (ho : OwnI W5 W.heap.size v (ids L x)) => h.add WX.out (by have := LE.out; omega) hB hb ho HX.out)
    obtain ⟨x0, x1, x2⟩ := x
    dsimp only [pv] at *
    have hm4 := made w3 (.cells #[.int .i64 x0, .int .i64 x1, .int .i64 x2] 31)
    have bx := Blk.new w3 31 #[.int .i64 x0, .int .i64 x1, .int .i64 x2]
    have hd4 : Below w3.heap.size w3 (w3.alloc (.cells #[.int .i64 x0, .int .i64 x1, .int .i64 x2] 31)).drew := hm4.drew
    have BX := Lib.hid (show Blk (w3.alloc (.cells #[.int .i64 x0, .int .i64 x1, .int .i64 x2] 31)).drew w3.heap.size 31 #[.int .i64 x0, .int .i64 x1, .int .i64 x2] from bx)
    have D4 := Lib.hid (D3.out.below hd4)
    have L4 := Lib.hid (L3.out.below hd4)
    have B4 := Lib.hid (show Below w.heap.size w (w3.alloc (.cells #[.int .i64 x0, .int .i64 x1, .int .i64 x2] 31)).drew from up B3.out hd4 B3.out.size)
    have RG4 := Lib.hid (show (w3.alloc (.cells #[.int .i64 x0, .int .i64 x1, .int .i64 x2] 31)).drew.ranges Try.prog 31 mk.Rv m w7.heap.size nT D (fun z => left z && !z.sameKey (kl ⟨x0, x1, x2⟩)) cnt3 from ranges_keep RG.out (hd4.block m (Nat.lt_of_lt_of_le BLT.out B3.out.size)) (hd4.block _ RL.out))
    have RGL := Lib.hid (show w7.heap.size < (w3.alloc (.cells #[.int .i64 x0, .int .i64 x1, .int .i64 x2] 31)).drew.heap.size from Nat.lt_of_lt_of_le RL.out hd4.size)
    have SF := Lib.hid (fun ws (h : Below (w3.alloc (.cells #[.int .i64 x0, .int .i64 x1, .int .i64 x2] 31)).drew.heap.size (w3.alloc (.cells #[.int .i64 x0, .int .i64 x1, .int .i64 x2] 31)).drew ws) => (show ws.cell? ⟨g2, 1, none⟩ = some (.map (some m2)) ∧ ws.cell? ⟨w3.heap.size, 0, none⟩ = some (.int .i64 x0) ∧ ws.cell? ⟨w3.heap.size, 1, none⟩ = some (.int .i64 x1) ∧ ws.cell? ⟨w3.heap.size, 2, none⟩ = some (.int .i64 x2) from
      ⟨(D4.out.below h).cell1, (BX.out.below h BX.out.lt).cell 0, (BX.out.below h BX.out.lt).cell 1, (BX.out.below h BX.out.lt).cell 2⟩))
    clear hd4 hm4 bx RG B3 D3 L3
    go_upto_region 5 with fail
    clear hen
    refine wp_region_held_drew (S := fun ws => ws.cell? ⟨g2, 1, none⟩ = some (.map (some m2)) ∧ ws.cell? ⟨w3.heap.size, 0, none⟩ = some (.int .i64 x0) ∧ ws.cell? ⟨w3.heap.size, 1, none⟩ = some (.int .i64 x1) ∧ ws.cell? ⟨w3.heap.size, 2, none⟩ = some (.int .i64 x2)) (by kernel_rfl) (SF.out _ (Below.refl _ _)) (fun hHeld => ?_)
    generalize (w3.alloc (.cells #[.int .i64 x0, .int .i64 x1, .int .i64 x2] 31)).drew = w4 at *
    refine wpAnyH_take (i := 0) (v := ?_) rfl (by kernel_rfl) (by kernel_rfl) (by kernel_rfl) (fun _ _ _ h => h) (Or.inl ⟨by rfl, ?_⟩) (by assumption) ?_
    rotate_left
    · (intro w hSw; (try dsimp only at hSw); first | (go_simp; done) | (go_simp; with_reducible rfl))
    simp only [Act.put, List.getElem_toArray, List.getElem_cons_zero, List.getElem_cons_succ, List.setIfInBounds_toArray, List.set_cons_zero, List.set_cons_succ]
    refine wpAnyH_take (i := 1) (v := ?_) rfl (by kernel_rfl) (by kernel_rfl) (by kernel_rfl) (fun _ _ _ h => h) (Or.inl ⟨by rfl, ?_⟩) (by assumption) ?_
    rotate_left
    · (intro w hSw; (try dsimp only at hSw); first | (go_simp; done) | (go_simp; with_reducible rfl))
    simp only [Act.put, List.getElem_toArray, List.getElem_cons_zero, List.getElem_cons_succ, List.setIfInBounds_toArray, List.set_cons_zero, List.set_cons_succ]
    refine wpAnyH_take (i := 2) (v := ?_) rfl (by kernel_rfl) (by kernel_rfl) (by kernel_rfl) (fun _ _ _ h => h) (Or.inl ⟨by rfl, ?_⟩) (by assumption) ?_
    rotate_left
    · (intro w hSw; (try dsimp only at hSw); first | (go_simp; done) | (go_simp; with_reducible rfl))
    simp only [Act.put, List.getElem_toArray, List.getElem_cons_zero, List.getElem_cons_succ, List.setIfInBounds_toArray, List.set_cons_zero, List.set_cons_succ]
    refine wpAnyH_take (i := 3) (v := ?_) rfl (by kernel_rfl) (by kernel_rfl) (by kernel_rfl) (fun _ _ _ h => h) (Or.inl ⟨by rfl, ?_⟩) (by assumption) ?_
    rotate_left
    · (intro w hSw; (try dsimp only at hSw); first | (go_simp; done) | (go_simp; with_reducible rfl))
    simp only [Act.put, List.getElem_toArray, List.getElem_cons_zero, List.getElem_cons_succ, List.setIfInBounds_toArray, List.set_cons_zero, List.set_cons_succ]
    refine wpAnyH_take (i := 4) (v := ?_) rfl (by kernel_rfl) (by kernel_rfl) (by kernel_rfl) (fun _ _ _ h => h) (Or.inl ⟨by rfl, ?_⟩) (by assumption) ?_
    rotate_left
    · (intro w hSw; (try dsimp only at hSw); first | (go_simp; done) | (go_simp; with_reducible rfl))
    simp only [Act.put, List.getElem_toArray, List.getElem_cons_zero, List.getElem_cons_succ, List.setIfInBounds_toArray, List.set_cons_zero, List.set_cons_succ]
    refine wpAnyH_take (i := 5) (v := ?_) rfl (by kernel_rfl) (by kernel_rfl) (by kernel_rfl) (fun _ _ _ h => h) (Or.inl ⟨by rfl, ?_⟩) (by assumption) ?_
    rotate_left
    · (intro w hSw; (try dsimp only at hSw); first | (go_simp; done) | (go_simp; with_reducible rfl))
    simp only [Act.put, List.getElem_toArray, List.getElem_cons_zero, List.getElem_cons_succ, List.setIfInBounds_toArray, List.set_cons_zero, List.set_cons_succ]
    refine wpAnyH_ready (rs := [6]) (by kernel_rfl) (by simp) ?_
    refine AllReadyH.cons rfl (fun K hK => ?_) AllReadyH.nil
    go_simp
    refine (CI.out _ L4.out).mono ?_
    rintro e w5 ⟨v5, rfl, ho5, hb5⟩
    obtain ⟨w6, hrun, hd6, hon⟩ := CAD.out w4 w5 v5 D4.out B4.out.size hb5 ho5
    have D6 := Lib.hid hd6
    have B6 := Lib.hid (show Below w.heap.size w w6 from (up B4.out hb5 B4.out.size).trans (Only.to_below hon (fun i hi e => by have := D4.out.ex; have := PGL.out; have := MGE.out; omega) (Nat.le_trans B4.out.size hb5.size)))
    have RG6 := Lib.hid (show w6.ranges Try.prog 31 mk.Rv m w7.heap.size nT D (fun z => left z && !z.sameKey (kl ⟨x0, x1, x2⟩)) cnt3 from ranges_keep RG4.out ((hon.block m (Nat.lt_of_lt_of_le BLT.out (Nat.le_trans B4.out.size hb5.size)) (fun e => by have := BLT.out; have := MGE.out; omega)).trans (hb5.block m (Nat.lt_of_lt_of_le BLT.out B4.out.size))) ((hon.block _ (Nat.lt_of_lt_of_le RGL.out hb5.size) (fun e => by have := PGL.out; omega)).trans (hb5.block _ RGL.out)))
    have S6 := Lib.hid (show (fun ws => ws.cell? ⟨g2, 1, none⟩ = some (.map (some m2)) ∧ ws.cell? ⟨w3.heap.size, 0, none⟩ = some (.int .i64 x0) ∧ ws.cell? ⟨w3.heap.size, 1, none⟩ = some (.int .i64 x1) ∧ ws.cell? ⟨w3.heap.size, 2, none⟩ = some (.int .i64 x2)) w6 from by
      have b6 := (BX.out.below hb5 BX.out.lt).only hon (fun e => by have := PGL.out; have := RL.out; omega)
      exact ⟨hd6.cell1, b6.cell 0, b6.cell 1, b6.cell 2⟩)
    refine hK.out _ _ (SF.out _ hb5) (fun hH1 => ?_)
    clear hK K hHeld CI CAD
    clear hd6 hon ho5 hb5 RG4 D4 L4 B4
    refine wpAnyH_ready (rs := [7]) (by kernel_rfl) (by simp) ?_
    refine AllReadyH.cons rfl (fun K hK => ?_) AllReadyH.nil
    go_simp
    refine hK.out _ _ S6.out (fun hH2 => ?_)
    clear hK K hH1 hrun
    refine wpAnyH_done (by kernel_rfl) ?_ _
    clear hH2
    go_wp2_with fail
    refine ⟨⟨_, _, _, ss ++ [⟨x0, x1, x2⟩], rfl, RG6.out, NDX.out, C3.out, by rw [List.length_append]; exact D6.out, NEX.out, B6.out⟩, ?_⟩
    rw [RG6.out.left_eq]
    exact ML.out
end Go.Proofs.Ytckdfdnhoionnaa.tg
