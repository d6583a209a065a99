/-
  The queue: Add.
-/
import Derived.Test.YtmgfnhbhgmpchaaQiH
namespace Go.Proofs.Ytmgfnhbhgmpchaa.qu
open Go.RowKit
open base (ret_bool ret_int made up Blk Only)
open rk mk
set_option linter.unusedVariables false
set_option linter.unusedSimpArgs false
variable {w w' : World} {q m : Nat} {v : Value} {L : List It} {ad : Int}

/-- one more item lies behind the others, and its number leads there -/
theorem add_mem {W : World} (hb : Blk W q 89 #[v, .map (some m), .int .i64 (ad + 1)]) (ho : Own EQ W 0 91 v L) (hF : ∃ F, IMap W Try.prog 3 m F L.length ∧ MapOk F L) (hn : ∀ x ∈ L, 1 ≤ x.1 ∧ x.1 ≤ ad) (h0 : 0 ≤ ad) (had : ad ≤ 99999) (hl : L.length ≤ 99999) (due : Int) (s : Int) :
    ∃ A c' W2 W5, (Builtin.append_ #[86, 86] 86 #[v, .slice (some ⟨W.heap.size, 0, none⟩) 1 1]).run Try.prog (W.alloc (.cells #[.int .i64 (ad + 1), .int .i64 due, .int .i64 s] 91)) = .ok (.slice A (L.length + 1) c') W2 ∧
      Blk W2 q 89 #[v, .map (some m), .int .i64 (ad + 1)] ∧ Blk (W2.setCell ⟨q, 0, none⟩ (.slice A (L.length + 1) c')) q 89 #[.slice A (L.length + 1) c', .map (some m), .int .i64 (ad + 1)] ∧
      (Instr.mapUpdate 87 (.map (some m)) (.int .i64 (ad + 1)) (.int .i64 L.length)).run Try.prog (W2.setCell ⟨q, 0, none⟩ (.slice A (L.length + 1) c')).drew = .ok () W5 ∧
      QAt W5 q m (.slice A (L.length + 1) c') (L ++ [(ad + 1, due, s)]) (ad + 1) ∧ Only (Foot q m v) W W5 ∧ (∀ k, Foot q m (.slice A (L.length + 1) c') k → Foot q m v k ∨ W.heap.size ≤ k) ∧ L.length + 1 ≤ c' ∧ c' ≤ 9223372036854775807 := by
  obtain ⟨F, hF, hM⟩ := hF
  have hmq : m ≠ q := MapIs.ne hF hb
  have hm1 := made W (.cells #[.int .i64 (ad + 1), .int .i64 due, .int .i64 s] 91)
  have k1 := Blk.new W 91 #[.int .i64 (ad + 1), .int .i64 due, .int .i64 s]
  have b1 := hb.below hm1 hb.lt
  have o1 := ho.below hm1
  have f1 := MapIs.below hF hm1 (MapIs.lt hF)
  obtain ⟨v', W2, hr, ow2, gr⟩ := app_run TQ (c := 1) o1 (Lay.lit (E := EQ) _ (ad + 1, due, s) _ _ k1) (fun h => by cases h) (by simp; omega) (Nat.zero_le _)
  have own_ne : ∀ {w : World} {u : Value} {M : List It}, Own EQ w 0 91 u M → ∀ {k}, u.ownBlock = some k → ∃ cs, Blk w k 91 cs := fun h k hk => (h.lt' k hk).2.2
  have onA : Only (fun k => v.ownBlock = some k) (W.alloc (.cells #[.int .i64 (ad + 1), .int .i64 due, .int .i64 s] 91)) W2 := (Only.refl _ _).grown gr.grown (fun i _ e => e)
  have b2 : Blk W2 q _ _ := b1.only onA (fun e => by
    obtain ⟨cs, hc⟩ := own_ne o1 e
    exact ty_ne b1 hc (by decide) rfl)
  have f2 : IMap W2 Try.prog 3 m F L.length := MapIs.only f1 onA (fun e => by
    obtain ⟨cs, hc⟩ := own_ne o1 e
    exact MapIs.ne f1 hc rfl)
  obtain ⟨A, c', e, -, hc1, hc2⟩ := ow2.open_
  rw [List.length_append, List.length_singleton] at e hc1
  subst e
  have b3 := b2.put 0 (.slice A (L.length + 1) c')
  have qne : ∀ {k}, (Value.slice A (L.length + 1) c').ownBlock = some k → k ≠ q := fun e => by
    obtain ⟨cs, hc⟩ := own_ne ow2 e
    exact ty_ne hc b2 (by decide)
  have o3 : Own EQ (W2.setCell ⟨q, 0, none⟩ (.slice A (L.length + 1) c')).drew 0 91 (.slice A (L.length + 1) c') (L ++ [(ad + 1, due, s)]) := ow2.keep (fun k hk => Below.heap_setCell W2 ⟨q, 0, none⟩ _ k (qne hk))
  have f3 : IMap (W2.setCell ⟨q, 0, none⟩ (.slice A (L.length + 1) c')).drew Try.prog 3 m F L.length := MapIs.drewN (MapIs.far f2 (p := ⟨q, 0, none⟩) hmq (.slice A (L.length + 1) c')) 1
  have hnone : F (ad + 1) = none := by
    cases hq : F (ad + 1) with
    | none => rfl
    | some u =>
      obtain ⟨i, hi, e⟩ := hM.back _ _ hq
      have := hn _ (at_mem hi)
      omega
  obtain ⟨W5, hr5, f5, on5⟩ := IMap.store (t := 87) f3 Try.underlying3 Try.underlying87 (by unfold maxLen; omega) (n := ad + 1) (wf_of (by omega) (by omega)) (.int .i64 L.length)
  rw [hnone] at f5
  have b4 : Blk (W2.setCell ⟨q, 0, none⟩ (.slice A (L.length + 1) c')).drew q 89 #[.slice A (L.length + 1) c', .map (some m), .int .i64 (ad + 1)] := b3
  refine ⟨A, c', W2, W5, hr, b2, b3, hr5, ⟨b4.only on5 (fun e => hmq e.symm), o3.only on5 (fun k hk e => ?_), ⟨_, ?_, hM.app hnone⟩, fun x hx => ?_⟩, ?_, fun k hk => ?_, hc1, hc2⟩
  · obtain ⟨cs, hc⟩ := own_ne o3 hk
    subst e
    exact MapIs.ne f3 hc rfl
  · simpa using f5
  · rw [List.mem_append, List.mem_singleton] at hx
    rcases hx with hx | rfl
    · have := hn x hx
      omega
    · dsimp only
      omega
  · have s1 : Only (Foot q m v) W (W.alloc (.cells #[.int .i64 (ad + 1), .int .i64 due, .int .i64 s] 91)) := foot_of_below hm1
    have s2 := s1.trans onA (fun i _ e => Or.inr (Or.inr e))
    have s3 := (s2.setCell (p := ⟨q, 0, none⟩) (Or.inl (Or.inl rfl)) (.slice A (L.length + 1) c')).drewN 1
    exact Only.trans s3 on5 (fun i _ e => Or.inr (Or.inl e))
  · rcases hk with h | h | h
    · exact .inl (.inl h)
    · exact .inl (.inr (.inl h))
    · rcases gr.at_ with g1 | g1
      · rw [g1] at h
        exact .inl (.inr (.inr h))
      · rw [g1] at h
        injection h with h
        rw [asz] at h
        exact .inr (by omega)
def AddP (q m : Nat) (v : Value) (L : List It) (ad due : Int) (s : Int) (w : World) (e : Ending) (w' : World) : Prop := e = .returned (.int .i64 (ad + 1)) ∧ ∃ v' L', L'.Perm ((ad + 1, due, s) :: L) ∧ Heap L' ∧ QAt w' q m v' L' (ad + 1) ∧ Only (Foot q m v) w w' ∧ ∀ k, Foot q m v' k → Foot q m v k ∨ w.heap.size ≤ k
set_option maxHeartbeats 4000000 in
set_option maxRecDepth 100000 in
theorem add_any (H : QAt w q m v L ad) (hh : Heap L) (h0 : 0 ≤ ad) (had : ad ≤ 99999) (hl : L.length ≤ 99999) (due : Int) (s : Int) :
    Calls Try.prog 45 #[.pointer (some ⟨q, 0, none⟩), .int .i64 due, .int .i64 s] w (AddP q m v L ad due s w) := by
  obtain ⟨A0, c0_, e0, -, -, -, c0, c1, c2, fr⟩ := H.open_
  have f2 := fr 2
  have wa : IntKind.i64.wrap (ad + 1) = ad + 1 := IntWalk.i64_in _ (by omega)
  have wl : IntKind.i64.wrap (L.length : Int) = (L.length : Int) := IntWalk.i64_in _ (by omega)
  obtain ⟨F, hF, hM⟩ := H.map
  have hmq : m ≠ q := MapIs.ne hF H.blk
  have qne : ∀ k, v.ownBlock = some k → k ≠ q := fun k e => by
    obtain ⟨_, _, cs, hc⟩ := H.own.lt' k e
    exact ty_ne hc H.blk (by decide)
  have b1 := H.blk.put 2 (.int .i64 (ad + 1))
  have o1 : Own EQ (w.setCell ⟨q, 2, none⟩ (.int .i64 (ad + 1))) 0 91 v L := H.own.keep (fun k hk => Below.heap_setCell w ⟨q, 2, none⟩ _ k (qne k hk))
  have m1 : IMap (w.setCell ⟨q, 2, none⟩ (.int .i64 (ad + 1))) Try.prog 3 m F L.length := MapIs.far hF (p := ⟨q, 2, none⟩) hmq _
  have n1 : Only (Foot q m v) w (w.setCell ⟨q, 2, none⟩ (.int .i64 (ad + 1))) := (Only.refl _ w).setCell (p := ⟨q, 2, none⟩) (.inl (.inl rfl)) _
  have hd := (Below.refl (w.setCell ⟨q, 2, none⟩ (.int .i64 (ad + 1))).heap.size (w.setCell ⟨q, 2, none⟩ (.int .i64 (ad + 1)))).drew
  have b2 : Blk (w.setCell ⟨q, 2, none⟩ (.int .i64 (ad + 1))).drew q 89 #[v, .map (some m), .int .i64 (ad + 1)] := b1
  have AM := Lib.hid (add_mem (W := (w.setCell ⟨q, 2, none⟩ (.int .i64 (ad + 1))).drew) b2 (o1.below hd) ⟨F, MapIs.below m1 hd (MapIs.lt m1), hM⟩ H.nums h0 had hl due s)
  have S2 := Lib.hid (show (w.setCell ⟨q, 2, none⟩ (.int .i64 (ad + 1))).drew.cell? ⟨q, 0, none⟩ = some v ∧ (w.setCell ⟨q, 2, none⟩ (.int .i64 (ad + 1))).drew.cell? ⟨q, 2, none⟩ = some (.int .i64 (ad + 1)) from ⟨b2.cell 0, b2.cell 2⟩)
  have SA := Lib.hid (show ((w.setCell ⟨q, 2, none⟩ (.int .i64 (ad + 1))).drew.alloc (.cells #[.int .i64 (ad + 1), .int .i64 due, .int .i64 s] 91)).cell? ⟨q, 0, none⟩ = some v ∧ ((w.setCell ⟨q, 2, none⟩ (.int .i64 (ad + 1))).drew.alloc (.cells #[.int .i64 (ad + 1), .int .i64 due, .int .i64 s] 91)).cell? ⟨q, 2, none⟩ = some (.int .i64 (ad + 1)) from ⟨(b2.alloc _).cell 0, (b2.alloc _).cell 2⟩)
  have N2 := Lib.hid (show Only (Foot q m v) w (w.setCell ⟨q, 2, none⟩ (.int .i64 (ad + 1))).drew from n1.drewN 1)
  have HS := Lib.hid (show w.heap.size ≤ (w.setCell ⟨q, 2, none⟩ (.int .i64 (ad + 1))).drew.heap.size from N2.out.size)
  have HH := Lib.hid hh
  have V0 := Lib.hid e0
  clear H hF hM hmq qne b1 o1 m1 n1 hd b2 hh fr e0
  go_enter Try.func45, Try.ntmps45
  go_upto_region 2 with fail
  refine wp_region_held_drew (S := fun ws => ws.cell? ⟨q, 2, none⟩ = some (.int .i64 (ad + 1))) (by kernel_rfl) S2.out.2 (fun hHeld => ?_)
  clear c0 c1 c2 f2
  generalize (w.setCell ⟨q, 2, none⟩ (.int .i64 (ad + 1))).drew = W at *
  obtain ⟨A, c', W2, W5, hr, b2, b3, hr5, h5, on5, ft, hc1, hc2⟩ := AM.out
  have HR := Lib.hid hr
  have B2 := Lib.hid b2
  have B3 := Lib.hid b3
  have R5 := Lib.hid hr5
  have H5 := Lib.hid h5
  have FT := Lib.hid ft
  have O5 := Lib.hid (Only.trans N2.out on5 (fun _ _ h => h))
  clear hr b2 b3 hr5 h5 on5 ft AM
  refine wpAnyH_take (i := 0) (v := ?_) rfl (by kernel_rfl) (by kernel_rfl) (by kernel_rfl) (fun _ _ _ h => h) (Or.inl ⟨by rfl, ?_⟩) (by assumption) ?_
  rotate_left
  · (intro w hSw; (try dsimp only at hSw); first | (go_simp; done) | (go_simp; with_reducible rfl))
  simp only [Act.put, List.getElem_toArray, List.getElem_cons_zero, List.getElem_cons_succ, List.setIfInBounds_toArray, List.set_cons_zero, List.set_cons_succ]
  refine wpAnyH_take (i := 1) (v := ?_) rfl (by kernel_rfl) (by kernel_rfl) (by kernel_rfl) (fun _ _ _ h => h) (Or.inl ⟨by rfl, ?_⟩) (by assumption) ?_
  rotate_left
  · (intro w hSw; (try dsimp only at hSw); first | (go_simp; done) | (go_simp; with_reducible rfl))
  simp only [Act.put, List.getElem_toArray, List.getElem_cons_zero, List.getElem_cons_succ, List.setIfInBounds_toArray, List.set_cons_zero, List.set_cons_succ]
  refine wpAnyH_take (i := 2) (v := ?_) rfl (by kernel_rfl) (by kernel_rfl) (by kernel_rfl) (fun _ _ _ h => h) (Or.inl ⟨by rfl, ?_⟩) (by assumption) ?_
  rotate_left
  · (intro w hSw; (try dsimp only at hSw); first | (go_simp; done) | (go_simp; with_reducible rfl))
  simp only [Act.put, List.getElem_toArray, List.getElem_cons_zero, List.getElem_cons_succ, List.setIfInBounds_toArray, List.set_cons_zero, List.set_cons_succ]
  refine wpAnyH_take (i := 3) (v := ?_) rfl (by kernel_rfl) (by kernel_rfl) (by kernel_rfl) (fun _ _ _ h => h) (Or.inl ⟨by rfl, ?_⟩) (by assumption) ?_
  rotate_left
  · (intro w hSw; (try dsimp only at hSw); first | (go_simp; done) | (go_simp; with_reducible rfl))
  simp only [Act.put, List.getElem_toArray, List.getElem_cons_zero, List.getElem_cons_succ, List.setIfInBounds_toArray, List.set_cons_zero, List.set_cons_succ]
  refine wpAnyH_take (i := 5) (v := ?_) rfl (by kernel_rfl) (by kernel_rfl) (by kernel_rfl) (fun _ _ _ h => h) (Or.inl ⟨by rfl, ?_⟩) (by assumption) ?_
  rotate_left
  · (intro w hSw; (try dsimp only at hSw); first | (go_simp; done) | (go_simp; with_reducible rfl))
  simp only [Act.put, List.getElem_toArray, List.getElem_cons_zero, List.getElem_cons_succ, List.setIfInBounds_toArray, List.set_cons_zero, List.set_cons_succ]
  refine wpAnyH_take (i := 6) (v := ?_) rfl (by kernel_rfl) (by kernel_rfl) (by kernel_rfl) (fun _ _ _ h => h) (Or.inl ⟨by rfl, ?_⟩) (by assumption) ?_
  rotate_left
  · (intro w hSw; (try dsimp only at hSw); first | (go_simp; done) | (go_simp; with_reducible rfl))
  simp only [Act.put, List.getElem_toArray, List.getElem_cons_zero, List.getElem_cons_succ, List.setIfInBounds_toArray, List.set_cons_zero, List.set_cons_succ]
  refine wpAnyH_take (i := 7) (v := ?_) rfl (by kernel_rfl) (by kernel_rfl) (by kernel_rfl) (fun _ _ _ h => h) (Or.inl ⟨by rfl, ?_⟩) (by assumption) ?_
  rotate_left
  · (intro w hSw; (try dsimp only at hSw); first | (go_simp; done) | (go_simp; with_reducible rfl))
  simp only [Act.put, List.getElem_toArray, List.getElem_cons_zero, List.getElem_cons_succ, List.setIfInBounds_toArray, List.set_cons_zero, List.set_cons_succ]
  refine wpAnyH_take (i := 8) (v := ?_) rfl (by kernel_rfl) (by kernel_rfl) (by kernel_rfl) (fun _ _ _ h => h) (Or.inl ⟨by rfl, ?_⟩) (by assumption) ?_
  rotate_left
  · (intro w hSw; (try dsimp only at hSw); first | (go_simp; done) | (go_simp; with_reducible rfl))
  simp only [Act.put, List.getElem_toArray, List.getElem_cons_zero, List.getElem_cons_succ, List.setIfInBounds_toArray, List.set_cons_zero, List.set_cons_succ]
  refine wpAnyH_take (i := 9) (v := ?_) rfl (by kernel_rfl) (by kernel_rfl) (by kernel_rfl) (fun _ _ _ h => h) (Or.inl ⟨by rfl, ?_⟩) (by assumption) ?_
  rotate_left
  · (intro w hSw; (try dsimp only at hSw); first | (go_simp; done) | (go_simp; with_reducible rfl))
  simp only [Act.put, List.getElem_toArray, List.getElem_cons_zero, List.getElem_cons_succ, List.setIfInBounds_toArray, List.set_cons_zero, List.set_cons_succ]
  refine wpAnyH_take (i := 10) (v := ?_) rfl (by kernel_rfl) (by kernel_rfl) (by kernel_rfl) (fun _ _ _ h => h) (Or.inl ⟨by rfl, ?_⟩) (by assumption) ?_
  rotate_left
  · (intro w hSw; (try dsimp only at hSw); first | (go_simp; done) | (go_simp; with_reducible rfl))
  simp only [Act.put, List.getElem_toArray, List.getElem_cons_zero, List.getElem_cons_succ, List.setIfInBounds_toArray, List.set_cons_zero, List.set_cons_succ]
  refine wpAnyH_take (i := 11) (v := ?_) rfl (by kernel_rfl) (by kernel_rfl) (by kernel_rfl) (fun _ _ _ h => h) (Or.inl ⟨by rfl, ?_⟩) (by assumption) ?_
  rotate_left
  · (intro w hSw; (try dsimp only at hSw); first | (go_simp; done) | (go_simp; with_reducible rfl))
  simp only [Act.put, List.getElem_toArray, List.getElem_cons_zero, List.getElem_cons_succ, List.setIfInBounds_toArray, List.set_cons_zero, List.set_cons_succ]
  refine wpAnyH_ready (rs := [4, 12]) (by kernel_rfl) (by simp) ?_
  refine AllReadyH.cons rfl (fun K hK => ?_) (AllReadyH.cons rfl (fun K hK => ?_) AllReadyH.nil)
  · have c0 := S2.out.1
    go_simp
    refine hK.out _ _ S2.out.2 (fun hHeld2 => ?_)
    clear hK K hHeld c0
    refine wpAnyH_ready (rs := [12]) (by kernel_rfl) (by simp) ?_
    refine AllReadyH.cons rfl (fun K hK => ?_) AllReadyH.nil
    go_simp
    refine hK.out _ _ SA.out.2 (fun hHeld3 => ?_)
    clear hK K hHeld2
    generalize W.alloc (.cells #[.int .i64 (ad + 1), .int .i64 due, .int .i64 s] 91) = W1 at *
    refine wpAnyH_ready (rs := [13]) (by kernel_rfl) (by simp) ?_
    refine AllReadyH.cons rfl (fun K hK => ?_) AllReadyH.nil
    rw [if_pos (by rfl)]
    refine op_app (.tmp 18) (.tmp 26) rfl rfl rfl rfl HR.out ?_
    simp only [Act.put, List.getElem_toArray, List.getElem_cons_zero, List.getElem_cons_succ, List.setIfInBounds_toArray, List.set_cons_zero, List.set_cons_succ]
    refine hK.out _ _ (B2.out.cell 2) (fun hHeld4 => ?_)
    clear hK K hHeld3
    refine wpAnyH_take (i := 14) (v := ?_) rfl (by kernel_rfl) (by kernel_rfl) (by kernel_rfl) (fun _ _ _ h => h) (Or.inl ⟨by rfl, ?_⟩) (by assumption) ?_
    rotate_left
    · (intro w hSw; (try dsimp only at hSw); first | (go_simp; done) | (go_simp; with_reducible rfl))
    simp only [Act.put, List.getElem_toArray, List.getElem_cons_zero, List.getElem_cons_succ, List.setIfInBounds_toArray, List.set_cons_zero, List.set_cons_succ]
    refine wpAnyH_take (i := 15) (v := ?_) rfl (by kernel_rfl) (by kernel_rfl) (by kernel_rfl) (fun _ _ _ h => h) (Or.inl ⟨by rfl, ?_⟩) (by assumption) ?_
    rotate_left
    · (intro w hSw; (try dsimp only at hSw); first | (go_simp; done) | (go_simp; with_reducible rfl))
    simp only [Act.put, List.getElem_toArray, List.getElem_cons_zero, List.getElem_cons_succ, List.setIfInBounds_toArray, List.set_cons_zero, List.set_cons_succ]
    have d0 := B2.out.cell 0
    have d1 := B2.out.free 0
    refine wpAnyH_ready (rs := [16]) (by kernel_rfl) (by simp) ?_
    refine AllReadyH.cons rfl (fun K hK => ?_) AllReadyH.nil
    go_simp
    clear d0 d1
    refine hK.out _ _ (B3.out.cell 2) (fun hHeld5 => ?_)
    clear hK K hHeld4
    refine wpAnyH_done (by kernel_rfl) ?_ _
    clear hHeld5 S2 SA HR B2
    go_upto_region 3 with fail
    refine wp_region_held_drew (S := fun ws => ws.cell? ⟨q, 0, none⟩ = some (.slice A (L.length + 1) c') ∧ ws.cell? ⟨q, 1, none⟩ = some (.map (some m)) ∧ ws.cell? ⟨q, 2, none⟩ = some (.int .i64 (ad + 1))) (by kernel_rfl) ⟨B3.out.cell 0, B3.out.cell 1, B3.out.cell 2⟩ (fun hHeld => ?_)
    have hr5 := R5.out
    generalize (W2.setCell ⟨q, 0, none⟩ (.slice A (L.length + 1) c')).drew = W4 at *
    refine wpAnyH_take (i := 0) (v := ?_) rfl (by kernel_rfl) (by kernel_rfl) (by kernel_rfl) (fun _ _ _ h => h) (Or.inl ⟨by rfl, ?_⟩) (by assumption) ?_
    rotate_left
    · (intro w hSw; (try dsimp only at hSw); first | (go_simp; done) | (go_simp; with_reducible rfl))
    simp only [Act.put, List.getElem_toArray, List.getElem_cons_zero, List.getElem_cons_succ, List.setIfInBounds_toArray, List.set_cons_zero, List.set_cons_succ]
    refine wpAnyH_take (i := 1) (v := ?_) rfl (by kernel_rfl) (by kernel_rfl) (by kernel_rfl) (fun _ _ _ h => h) (Or.inl ⟨by rfl, ?_⟩) (by assumption) ?_
    rotate_left
    · (intro w hSw; (try dsimp only at hSw); first | (go_simp; done) | (go_simp; with_reducible rfl))
    simp only [Act.put, List.getElem_toArray, List.getElem_cons_zero, List.getElem_cons_succ, List.setIfInBounds_toArray, List.set_cons_zero, List.set_cons_succ]
    refine wpAnyH_take (i := 2) (v := ?_) rfl (by kernel_rfl) (by kernel_rfl) (by kernel_rfl) (fun _ _ _ h => h) (Or.inl ⟨by rfl, ?_⟩) (by assumption) ?_
    rotate_left
    · (intro w hSw; (try dsimp only at hSw); first | (go_simp; done) | (go_simp; with_reducible rfl))
    simp only [Act.put, List.getElem_toArray, List.getElem_cons_zero, List.getElem_cons_succ, List.setIfInBounds_toArray, List.set_cons_zero, List.set_cons_succ]
    refine wpAnyH_take (i := 3) (v := ?_) rfl (by kernel_rfl) (by kernel_rfl) (by kernel_rfl) (fun _ _ _ h => h) (Or.inl ⟨by rfl, ?_⟩) (by assumption) ?_
    rotate_left
    · (intro w hSw; (try dsimp only at hSw); first | (go_simp; done) | (go_simp; with_reducible rfl))
    simp only [Act.put, List.getElem_toArray, List.getElem_cons_zero, List.getElem_cons_succ, List.setIfInBounds_toArray, List.set_cons_zero, List.set_cons_succ]
    refine wpAnyH_take (i := 4) (v := ?_) rfl (by kernel_rfl) (by kernel_rfl) (by kernel_rfl) (fun _ _ _ h => h) (Or.inl ⟨by rfl, ?_⟩) (by assumption) ?_
    rotate_left
    · (intro w hSw; (try dsimp only at hSw); first | (go_simp; done) | (go_simp; with_reducible rfl))
    simp only [Act.put, List.getElem_toArray, List.getElem_cons_zero, List.getElem_cons_succ, List.setIfInBounds_toArray, List.set_cons_zero, List.set_cons_succ]
    refine wpAnyH_take (i := 5) (v := ?_) rfl (by kernel_rfl) (by kernel_rfl) (by kernel_rfl) (fun _ _ _ h => h) (Or.inl ⟨by rfl, ?_⟩) (by assumption) ?_
    rotate_left
    · (intro w hSw; (try dsimp only at hSw); first | (go_simp; done) | (go_simp; with_reducible rfl))
    simp only [Act.put, List.getElem_toArray, List.getElem_cons_zero, List.getElem_cons_succ, List.setIfInBounds_toArray, List.set_cons_zero, List.set_cons_succ]
    refine wpAnyH_take (i := 6) (v := ?_) rfl (by kernel_rfl) (by kernel_rfl) (by kernel_rfl) (fun _ _ _ h => h) (Or.inl ⟨by rfl, ?_⟩) (by assumption) ?_
    rotate_left
    · (intro w hSw; (try dsimp only at hSw); first | (go_simp; done) | (go_simp; with_reducible rfl))
    simp only [Act.put, List.getElem_toArray, List.getElem_cons_zero, List.getElem_cons_succ, List.setIfInBounds_toArray, List.set_cons_zero, List.set_cons_succ]
    refine wpAnyH_take (i := 7) (v := ?_) rfl (by kernel_rfl) (by kernel_rfl) (by kernel_rfl) (fun _ _ _ h => h) (Or.inl ⟨by rfl, ?_⟩) (by assumption) ?_
    rotate_left
    · (intro w hSw; (try dsimp only at hSw); first | (go_simp; done) | (go_simp; with_reducible rfl))
    simp only [Act.put, List.getElem_toArray, List.getElem_cons_zero, List.getElem_cons_succ, List.setIfInBounds_toArray, List.set_cons_zero, List.set_cons_succ]
    refine wpAnyH_take (i := 8) (v := ?_) rfl (by kernel_rfl) (by kernel_rfl) (by kernel_rfl) (fun _ _ _ h => h) (Or.inl ⟨by rfl, ?_⟩) (by assumption) ?_
    rotate_left
    · (intro w hSw; (try dsimp only at hSw); first | (go_simp; done) | (go_simp; with_reducible rfl))
    simp only [Act.put, List.getElem_toArray, List.getElem_cons_zero, List.getElem_cons_succ, List.setIfInBounds_toArray, List.set_cons_zero, List.set_cons_succ]
    refine wpAnyH_take (i := 9) (v := ?_) rfl (by kernel_rfl) (by kernel_rfl) (by kernel_rfl) (fun _ _ _ h => h) (Or.inl ⟨by rfl, ?_⟩) (by assumption) ?_
    rotate_left
    · (intro w hSw; (try dsimp only at hSw); first | (go_simp; done) | (go_simp; with_reducible rfl))
    simp only [Act.put, List.getElem_toArray, List.getElem_cons_zero, List.getElem_cons_succ, List.setIfInBounds_toArray, List.set_cons_zero, List.set_cons_succ]
    refine wpAnyH_take (i := 10) (v := ?_) rfl (by kernel_rfl) (by kernel_rfl) (by kernel_rfl) (fun _ _ _ h => h) (Or.inl ⟨by rfl, ?_⟩) (by assumption) ?_
    rotate_left
    · (intro w hSw; (try dsimp only at hSw); first | (go_simp; done) | (go_simp; with_reducible rfl))
    simp only [Act.put, List.getElem_toArray, List.getElem_cons_zero, List.getElem_cons_succ, List.setIfInBounds_toArray, List.set_cons_zero, List.set_cons_succ]
    refine wpAnyH_take (i := 11) (v := ?_) rfl (by kernel_rfl) (by kernel_rfl) (by kernel_rfl) (fun _ _ _ h => h) (Or.inl ⟨by rfl, ?_⟩) (by assumption) ?_
    rotate_left
    · (intro w hSw; (try dsimp only at hSw); first | (go_simp; done) | (go_simp; with_reducible rfl))
    simp only [Act.put, List.getElem_toArray, List.getElem_cons_zero, List.getElem_cons_succ, List.setIfInBounds_toArray, List.set_cons_zero, List.set_cons_succ]
    refine wpAnyH_take (i := 12) (v := ?_) rfl (by kernel_rfl) (by kernel_rfl) (by kernel_rfl) (fun _ _ _ h => h) (Or.inl ⟨by rfl, ?_⟩) (by assumption) ?_
    rotate_left
    · (intro w hSw; (try dsimp only at hSw); first | (go_simp; done) | (go_simp; with_reducible rfl))
    simp only [Act.put, List.getElem_toArray, List.getElem_cons_zero, List.getElem_cons_succ, List.setIfInBounds_toArray, List.set_cons_zero, List.set_cons_succ]
    refine wpAnyH_take (i := 13) (v := ?_) rfl (by kernel_rfl) (by kernel_rfl) (by kernel_rfl) (fun _ _ _ h => h) (Or.inl ⟨by rfl, ?_⟩) (by assumption) ?_
    rotate_left
    · (intro w hSw; (try dsimp only at hSw); first | (go_simp; done) | (go_simp; with_reducible rfl))
    simp only [Act.put, List.getElem_toArray, List.getElem_cons_zero, List.getElem_cons_succ, List.setIfInBounds_toArray, List.set_cons_zero, List.set_cons_succ]
    refine wpAnyH_ready (rs := [14]) (by kernel_rfl) (by simp) ?_
    refine AllReadyH.cons rfl (fun K hK => ?_) AllReadyH.nil
    go_simp
    refine hK.out _ _ ⟨H5.out.blk.cell 0, H5.out.blk.cell 1, H5.out.blk.cell 2⟩ (fun hHeld2 => ?_)
    clear hK K hHeld hr5 R5
    refine wpAnyH_done (by kernel_rfl) ?_ _
    clear hHeld2
    have e0 := H5.out.blk.cell 0
    have ST := Lib.hid (settle_any H5.out (i := L.length) (HH.out.app (ad + 1, due, s)) (by rw [List.length_append, List.length_singleton]; omega) (by omega))
    go_wp2_with fail
    refine ST.out.mono ?_
    rintro e w6 ⟨rfl, L6, p6, heap6, h6, o6⟩
    have e2 := h6.blk.cell 2
    have H6 := Lib.hid h6
    have HE := Lib.hid heap6
    have P6 := Lib.hid (p6.trans (List.perm_append_singleton _ _))
    have O6 := Lib.hid (Only.trans (S := fun k => Foot q m v k) O5.out o6 (fun k hk h => by
      rcases FT.out k h with g | g
      · exact g
      · have := HS.out
        omega))
    clear p6 heap6 h6 o6 e0 ST
    go_wp2_with fail
    go_ret
    exact ⟨rfl, _, L6, P6.out, HE.out, H6.out, O6.out, fun k h => by
      rcases FT.out k h with g | g
      · exact .inl g
      · exact .inr (Nat.le_trans HS.out g)⟩
  · go_simp
    refine hK.out _ _ SA.out.2 (fun hHeld2 => ?_)
    clear hK K hHeld
    generalize W.alloc (.cells #[.int .i64 (ad + 1), .int .i64 due, .int .i64 s] 91) = W1 at *
    have c0 := SA.out.1
    refine wpAnyH_ready (rs := [4]) (by kernel_rfl) (by simp) ?_
    refine AllReadyH.cons rfl (fun K hK => ?_) AllReadyH.nil
    go_simp
    refine hK.out _ _ SA.out.2 (fun hHeld3 => ?_)
    clear hK K hHeld2 c0
    refine wpAnyH_ready (rs := [13]) (by kernel_rfl) (by simp) ?_
    refine AllReadyH.cons rfl (fun K hK => ?_) AllReadyH.nil
    rw [if_pos (by rfl)]
    refine op_app (.tmp 18) (.tmp 26) rfl rfl rfl rfl HR.out ?_
    simp only [Act.put, List.getElem_toArray, List.getElem_cons_zero, List.getElem_cons_succ, List.setIfInBounds_toArray, List.set_cons_zero, List.set_cons_succ]
    refine hK.out _ _ (B2.out.cell 2) (fun hHeld4 => ?_)
    clear hK K hHeld3
    refine wpAnyH_take (i := 14) (v := ?_) rfl (by kernel_rfl) (by kernel_rfl) (by kernel_rfl) (fun _ _ _ h => h) (Or.inl ⟨by rfl, ?_⟩) (by assumption) ?_
    rotate_left
    · (intro w hSw; (try dsimp only at hSw); first | (go_simp; done) | (go_simp; with_reducible rfl))
    simp only [Act.put, List.getElem_toArray, List.getElem_cons_zero, List.getElem_cons_succ, List.setIfInBounds_toArray, List.set_cons_zero, List.set_cons_succ]
    refine wpAnyH_take (i := 15) (v := ?_) rfl (by kernel_rfl) (by kernel_rfl) (by kernel_rfl) (fun _ _ _ h => h) (Or.inl ⟨by rfl, ?_⟩) (by assumption) ?_
    rotate_left
    · (intro w hSw; (try dsimp only at hSw); first | (go_simp; done) | (go_simp; with_reducible rfl))
    simp only [Act.put, List.getElem_toArray, List.getElem_cons_zero, List.getElem_cons_succ, List.setIfInBounds_toArray, List.set_cons_zero, List.set_cons_succ]
    have d0 := B2.out.cell 0
    have d1 := B2.out.free 0
    refine wpAnyH_ready (rs := [16]) (by kernel_rfl) (by simp) ?_
    refine AllReadyH.cons rfl (fun K hK => ?_) AllReadyH.nil
    go_simp
    clear d0 d1
    refine hK.out _ _ (B3.out.cell 2) (fun hHeld5 => ?_)
    clear hK K hHeld4
    refine wpAnyH_done (by kernel_rfl) ?_ _
    clear hHeld5 S2 SA HR B2
    go_upto_region 3 with fail
    refine wp_region_held_drew (S := fun ws => ws.cell? ⟨q, 0, none⟩ = some (.slice A (L.length + 1) c') ∧ ws.cell? ⟨q, 1, none⟩ = some (.map (some m)) ∧ ws.cell? ⟨q, 2, none⟩ = some (.int .i64 (ad + 1))) (by kernel_rfl) ⟨B3.out.cell 0, B3.out.cell 1, B3.out.cell 2⟩ (fun hHeld => ?_)
    have hr5 := R5.out
    generalize (W2.setCell ⟨q, 0, none⟩ (.slice A (L.length + 1) c')).drew = W4 at *
    refine wpAnyH_take (i := 0) (v := ?_) rfl (by kernel_rfl) (by kernel_rfl) (by kernel_rfl) (fun _ _ _ h => h) (Or.inl ⟨by rfl, ?_⟩) (by assumption) ?_
    rotate_left
    · (intro w hSw; (try dsimp only at hSw); first | (go_simp; done) | (go_simp; with_reducible rfl))
    simp only [Act.put, List.getElem_toArray, List.getElem_cons_zero, List.getElem_cons_succ, List.setIfInBounds_toArray, List.set_cons_zero, List.set_cons_succ]
    refine wpAnyH_take (i := 1) (v := ?_) rfl (by kernel_rfl) (by kernel_rfl) (by kernel_rfl) (fun _ _ _ h => h) (Or.inl ⟨by rfl, ?_⟩) (by assumption) ?_
    rotate_left
    · (intro w hSw; (try dsimp only at hSw); first | (go_simp; done) | (go_simp; with_reducible rfl))
    simp only [Act.put, List.getElem_toArray, List.getElem_cons_zero, List.getElem_cons_succ, List.setIfInBounds_toArray, List.set_cons_zero, List.set_cons_succ]
    refine wpAnyH_take (i := 2) (v := ?_) rfl (by kernel_rfl) (by kernel_rfl) (by kernel_rfl) (fun _ _ _ h => h) (Or.inl ⟨by rfl, ?_⟩) (by assumption) ?_
    rotate_left
    · (intro w hSw; (try dsimp only at hSw); first | (go_simp; done) | (go_simp; with_reducible rfl))
    simp only [Act.put, List.getElem_toArray, List.getElem_cons_zero, List.getElem_cons_succ, List.setIfInBounds_toArray, List.set_cons_zero, List.set_cons_succ]
    refine wpAnyH_take (i := 3) (v := ?_) rfl (by kernel_rfl) (by kernel_rfl) (by kernel_rfl) (fun _ _ _ h => h) (Or.inl ⟨by rfl, ?_⟩) (by assumption) ?_
    rotate_left
    · (intro w hSw; (try dsimp only at hSw); first | (go_simp; done) | (go_simp; with_reducible rfl))
    simp only [Act.put, List.getElem_toArray, List.getElem_cons_zero, List.getElem_cons_succ, List.setIfInBounds_toArray, List.set_cons_zero, List.set_cons_succ]
    refine wpAnyH_take (i := 4) (v := ?_) rfl (by kernel_rfl) (by kernel_rfl) (by kernel_rfl) (fun _ _ _ h => h) (Or.inl ⟨by rfl, ?_⟩) (by assumption) ?_
    rotate_left
    · (intro w hSw; (try dsimp only at hSw); first | (go_simp; done) | (go_simp; with_reducible rfl))
    simp only [Act.put, List.getElem_toArray, List.getElem_cons_zero, List.getElem_cons_succ, List.setIfInBounds_toArray, List.set_cons_zero, List.set_cons_succ]
    refine wpAnyH_take (i := 5) (v := ?_) rfl (by kernel_rfl) (by kernel_rfl) (by kernel_rfl) (fun _ _ _ h => h) (Or.inl ⟨by rfl, ?_⟩) (by assumption) ?_
    rotate_left
    · (intro w hSw; (try dsimp only at hSw); first | (go_simp; done) | (go_simp; with_reducible rfl))
    simp only [Act.put, List.getElem_toArray, List.getElem_cons_zero, List.getElem_cons_succ, List.setIfInBounds_toArray, List.set_cons_zero, List.set_cons_succ]
    refine wpAnyH_take (i := 6) (v := ?_) rfl (by kernel_rfl) (by kernel_rfl) (by kernel_rfl) (fun _ _ _ h => h) (Or.inl ⟨by rfl, ?_⟩) (by assumption) ?_
    rotate_left
    · (intro w hSw; (try dsimp only at hSw); first | (go_simp; done) | (go_simp; with_reducible rfl))
    simp only [Act.put, List.getElem_toArray, List.getElem_cons_zero, List.getElem_cons_succ, List.setIfInBounds_toArray, List.set_cons_zero, List.set_cons_succ]
    refine wpAnyH_take (i := 7) (v := ?_) rfl (by kernel_rfl) (by kernel_rfl) (by kernel_rfl) (fun _ _ _ h => h) (Or.inl ⟨by rfl, ?_⟩) (by assumption) ?_
    rotate_left
    · (intro w hSw; (try dsimp only at hSw); first | (go_simp; done) | (go_simp; with_reducible rfl))
    simp only [Act.put, List.getElem_toArray, List.getElem_cons_zero, List.getElem_cons_succ, List.setIfInBounds_toArray, List.set_cons_zero, List.set_cons_succ]
    refine wpAnyH_take (i := 8) (v := ?_) rfl (by kernel_rfl) (by kernel_rfl) (by kernel_rfl) (fun _ _ _ h => h) (Or.inl ⟨by rfl, ?_⟩) (by assumption) ?_
    rotate_left
    · (intro w hSw; (try dsimp only at hSw); first | (go_simp; done) | (go_simp; with_reducible rfl))
    simp only [Act.put, List.getElem_toArray, List.getElem_cons_zero, List.getElem_cons_succ, List.setIfInBounds_toArray, List.set_cons_zero, List.set_cons_succ]
    refine wpAnyH_take (i := 9) (v := ?_) rfl (by kernel_rfl) (by kernel_rfl) (by kernel_rfl) (fun _ _ _ h => h) (Or.inl ⟨by rfl, ?_⟩) (by assumption) ?_
    rotate_left
    · (intro w hSw; (try dsimp only at hSw); first | (go_simp; done) | (go_simp; with_reducible rfl))
    simp only [Act.put, List.getElem_toArray, List.getElem_cons_zero, List.getElem_cons_succ, List.setIfInBounds_toArray, List.set_cons_zero, List.set_cons_succ]
    refine wpAnyH_take (i := 10) (v := ?_) rfl (by kernel_rfl) (by kernel_rfl) (by kernel_rfl) (fun _ _ _ h => h) (Or.inl ⟨by rfl, ?_⟩) (by assumption) ?_
    rotate_left
    · (intro w hSw; (try dsimp only at hSw); first | (go_simp; done) | (go_simp; with_reducible rfl))
    simp only [Act.put, List.getElem_toArray, List.getElem_cons_zero, List.getElem_cons_succ, List.setIfInBounds_toArray, List.set_cons_zero, List.set_cons_succ]
    refine wpAnyH_take (i := 11) (v := ?_) rfl (by kernel_rfl) (by kernel_rfl) (by kernel_rfl) (fun _ _ _ h => h) (Or.inl ⟨by rfl, ?_⟩) (by assumption) ?_
    rotate_left
    · (intro w hSw; (try dsimp only at hSw); first | (go_simp; done) | (go_simp; with_reducible rfl))
    simp only [Act.put, List.getElem_toArray, List.getElem_cons_zero, List.getElem_cons_succ, List.setIfInBounds_toArray, List.set_cons_zero, List.set_cons_succ]
    refine wpAnyH_take (i := 12) (v := ?_) rfl (by kernel_rfl) (by kernel_rfl) (by kernel_rfl) (fun _ _ _ h => h) (Or.inl ⟨by rfl, ?_⟩) (by assumption) ?_
    rotate_left
    · (intro w hSw; (try dsimp only at hSw); first | (go_simp; done) | (go_simp; with_reducible rfl))
    simp only [Act.put, List.getElem_toArray, List.getElem_cons_zero, List.getElem_cons_succ, List.setIfInBounds_toArray, List.set_cons_zero, List.set_cons_succ]
    refine wpAnyH_take (i := 13) (v := ?_) rfl (by kernel_rfl) (by kernel_rfl) (by kernel_rfl) (fun _ _ _ h => h) (Or.inl ⟨by rfl, ?_⟩) (by assumption) ?_
    rotate_left
    · (intro w hSw; (try dsimp only at hSw); first | (go_simp; done) | (go_simp; with_reducible rfl))
    simp only [Act.put, List.getElem_toArray, List.getElem_cons_zero, List.getElem_cons_succ, List.setIfInBounds_toArray, List.set_cons_zero, List.set_cons_succ]
    refine wpAnyH_ready (rs := [14]) (by kernel_rfl) (by simp) ?_
    refine AllReadyH.cons rfl (fun K hK => ?_) AllReadyH.nil
    go_simp
    refine hK.out _ _ ⟨H5.out.blk.cell 0, H5.out.blk.cell 1, H5.out.blk.cell 2⟩ (fun hHeld2 => ?_)
    clear hK K hHeld hr5 R5
    refine wpAnyH_done (by kernel_rfl) ?_ _
    clear hHeld2
    have e0 := H5.out.blk.cell 0
    have ST := Lib.hid (settle_any H5.out (i := L.length) (HH.out.app (ad + 1, due, s)) (by rw [List.length_append, List.length_singleton]; omega) (by omega))
    go_wp2_with fail
    refine ST.out.mono ?_
    rintro e w6 ⟨rfl, L6, p6, heap6, h6, o6⟩
    have e2 := h6.blk.cell 2
    have H6 := Lib.hid h6
    have HE := Lib.hid heap6
    have P6 := Lib.hid (p6.trans (List.perm_append_singleton _ _))
    have O6 := Lib.hid (Only.trans (S := fun k => Foot q m v k) O5.out o6 (fun k hk h => by
      rcases FT.out k h with g | g
      · exact g
      · have := HS.out
        omega))
    clear p6 heap6 h6 o6 e0 ST
    go_wp2_with fail
    go_ret
    exact ⟨rfl, _, L6, P6.out, HE.out, H6.out, O6.out, fun k h => by
      rcases FT.out k h with g | g
      · exact .inl g
      · exact .inr (Nat.le_trans HS.out g)⟩
end Go.Proofs.Ytmgfnhbhgmpchaa.qu
