/-
  Contracts of package bid: Clone, Copy, Rows, Len, Next, Held.
-/
import Derived.Test.YtlklfolpcebahaaAucD
import Derived.Deep.RegionHeld
import Derived.Laws.Cover3
namespace Go.Proofs.Ytlklfolpcebahaa.bb
open Go.RowKit
open base (ret_bool ret_int made up Blk Only Nums below_drewN)
open rk
set_option linter.unusedVariables false
set_option linter.unusedSimpArgs false

theorem Own.empty (w : World) (t : TypeId) : Own E7 (w.alloc (.cells #[] t)) w.heap.size t (.slice (some ⟨w.heap.size, 0, none⟩) 0 0) [] :=
  ⟨rfl, .inr ⟨w.heap.size, 0, #[], rfl, Nat.le_refl _, Blk.new w t #[], Nat.le_refl _, Nat.zero_le _, rfl, rfl⟩⟩
theorem eql_nil (w : World) (a : Option Addr) (n c : Nat) : (binOp .eql 56 (.slice a n c) (.slice none 0 0)).run Try.prog w = .ok (.bool a.isNone) w := by
  simp only [binOp]
  simp [Op.equal, Op.maxDepth, run_equalIn_slice_nil w 9999 56 35 a n c Try.underlying56]
set_option maxRecDepth 100000 in
set_option maxHeartbeats 1000000 in
theorem clone_any (A : Option Addr) (c : Nat) (L : List D) (w : World) (hA : Lay E7 w A L) (hl : L.length ≤ 100000) :
    Calls Try.prog 38 #[.slice A L.length c] w fun e w' => ∃ v, e = .returned v ∧ Own E7 w' w.heap.size 35 v L ∧ Below w.heap.size w w' := by
  cases A with
  | none =>
    have hL : L = [] := by
      cases L with
      | nil => rfl
      | cons d L =>
        obtain ⟨b, off, e, -⟩ := hA (by simp)
        cases e
    subst hL
    have en := eql_nil w none 0 c
    dsimp only [List.length_nil, Option.isNone] at en ⊢
    go_enter Try.func38, Try.ntmps38
    go_wp2_with fail
    go_ret
    exact ⟨_, rfl, Own.nil _ _ _, Below.refl _ _⟩
  | some ad =>
    have OE := Lib.hid (Own.empty w 35)
    have LY := Lib.hid (hA.below (made w (.cells #[] 35)))
    have B6 := Lib.hid (made w (.cells #[] 35))
    clear hA
    have en := eql_nil w (some ad) L.length c
    dsimp only [Option.isNone] at en
    go_enter Try.func38, Try.ntmps38
    go_wp2_with ((with_reducible show wpList _ _ _ (⟨some 7, _, _, _, _, _⟩ :: _) _ _); go_must (refine wp_app TD (c := c) (n := L.length) rfl _ _ rfl rfl rfl rfl rfl OE.out LY.out (by simp; omega) B6.out.size ?_))
    intro v7 w7 own7 gr7
    have B7 := Lib.hid (B6.out.trans (gr7.below OE.out B6.out.size))
    have O7 := Lib.hid own7
    obtain ⟨A2, c2, rfl, -⟩ := own7.open_
    clear own7 gr7 OE LY B6
    go_wp2_with fail
    go_ret
    exact ⟨_, rfl, O7.out, B7.out⟩
set_option maxRecDepth 100000 in
set_option maxHeartbeats 2000000 in
theorem copy_any (B g : Nat) (L : List D) (nx : Int) (w : World) (hd : DAt w B g L nx) (hl : L.length ≤ 100000) :
    Calls Try.prog 22 #[.pointer (some ⟨g, 0, none⟩)] w fun e w' => ∃ v, e = .returned v ∧ (∃ g', v = .pointer (some ⟨g', 0, none⟩) ∧ DAt w' w.heap.size g' L nx) ∧ Below w.heap.size w w' := by
  obtain ⟨A, c, hbk, -, hlay, -⟩ := hd.open_
  have HB := Lib.hid hbk
  have CL := Lib.hid (fun ws (h : Below w.heap.size w ws) => clone_any A c L ws (hlay.below h) hl)
  have KX := Lib.hid (fun ws (h : Below w.heap.size w ws) => (show ws.cell? ⟨g, 0, none⟩ = some (.slice A L.length c) ∧ ws.cell? ⟨g, 1, none⟩ = some (.int .i64 nx) from ⟨(HB.out.below h HB.out.lt).cell 0, (HB.out.below h HB.out.lt).cell 1⟩))
  have BV := Lib.hid ((Below.refl w.heap.size w).drew)
  clear hbk hlay hd
  go_enter Try.func22, Try.ntmps22
  go_wp2_with fail
  refine wp_region_held_drew (S := (fun ws => ws.cell? ⟨g, 0, none⟩ = some (.slice A L.length c) ∧ ws.cell? ⟨g, 1, none⟩ = some (.int .i64 nx))) (by kernel_rfl) (KX.out _ BV.out) (fun hHeld => ?_)
  refine wpAnyH_take (i := 0) (v := ?_) rfl (by kernel_rfl) (by kernel_rfl) (by kernel_rfl) (fun _ _ _ h => h) (Or.inl ⟨by rfl, ?_⟩) (by assumption) ?_
  rotate_left
  · (intro w hSw; (try dsimp only at hSw); first | (go_simp; done) | (go_simp; with_reducible rfl))
  simp only [Act.put, List.getElem_toArray, List.getElem_cons_zero, List.getElem_cons_succ, List.setIfInBounds_toArray, List.set_cons_zero, List.set_cons_succ]
  refine wpAnyH_take (i := 1) (v := ?_) rfl (by kernel_rfl) (by kernel_rfl) (by kernel_rfl) (fun _ _ _ h => h) (Or.inl ⟨by rfl, ?_⟩) (by assumption) ?_
  rotate_left
  · (intro w hSw; (try dsimp only at hSw); first | (go_simp; done) | (go_simp; with_reducible rfl))
  simp only [Act.put, List.getElem_toArray, List.getElem_cons_zero, List.getElem_cons_succ, List.setIfInBounds_toArray, List.set_cons_zero, List.set_cons_succ]
  refine wpAnyH_take (i := 2) (v := ?_) rfl (by kernel_rfl) (by kernel_rfl) (by kernel_rfl) (fun _ _ _ h => h) (Or.inl ⟨by rfl, ?_⟩) (by assumption) ?_
  rotate_left
  · (intro w hSw; (try dsimp only at hSw); first | (go_simp; done) | (go_simp; with_reducible rfl))
  simp only [Act.put, List.getElem_toArray, List.getElem_cons_zero, List.getElem_cons_succ, List.setIfInBounds_toArray, List.set_cons_zero, List.set_cons_succ]
  refine wpAnyH_take (i := 3) (v := ?_) rfl (by kernel_rfl) (by kernel_rfl) (by kernel_rfl) (fun _ _ _ h => h) (Or.inl ⟨by rfl, ?_⟩) (by assumption) ?_
  rotate_left
  · (intro w hSw; (try dsimp only at hSw); first | (go_simp; done) | (go_simp; with_reducible rfl))
  simp only [Act.put, List.getElem_toArray, List.getElem_cons_zero, List.getElem_cons_succ, List.setIfInBounds_toArray, List.set_cons_zero, List.set_cons_succ]
  refine wpAnyH_take (i := 5) (v := ?_) rfl (by kernel_rfl) (by kernel_rfl) (by kernel_rfl) (fun _ _ _ h => h) (Or.inl ⟨by rfl, ?_⟩) (by assumption) ?_
  rotate_left
  · (intro w hSw; (try dsimp only at hSw); first | (go_simp; done) | (go_simp; with_reducible rfl))
  simp only [Act.put, List.getElem_toArray, List.getElem_cons_zero, List.getElem_cons_succ, List.setIfInBounds_toArray, List.set_cons_zero, List.set_cons_succ]
  refine wpAnyH_take (i := 6) (v := ?_) rfl (by kernel_rfl) (by kernel_rfl) (by kernel_rfl) (fun _ _ _ h => h) (Or.inl ⟨by rfl, ?_⟩) (by assumption) ?_
  rotate_left
  · (intro w hSw; (try dsimp only at hSw); first | (go_simp; done) | (go_simp; with_reducible rfl))
  simp only [Act.put, List.getElem_toArray, List.getElem_cons_zero, List.getElem_cons_succ, List.setIfInBounds_toArray, List.set_cons_zero, List.set_cons_succ]
  refine wpAnyH_take (i := 7) (v := ?_) rfl (by kernel_rfl) (by kernel_rfl) (by kernel_rfl) (fun _ _ _ h => h) (Or.inl ⟨by rfl, ?_⟩) (by assumption) ?_
  rotate_left
  · (intro w hSw; (try dsimp only at hSw); first | (go_simp; done) | (go_simp; with_reducible rfl))
  simp only [Act.put, List.getElem_toArray, List.getElem_cons_zero, List.getElem_cons_succ, List.setIfInBounds_toArray, List.set_cons_zero, List.set_cons_succ]
  refine wpAnyH_take (i := 8) (v := ?_) rfl (by kernel_rfl) (by kernel_rfl) (by kernel_rfl) (fun _ _ _ h => h) (Or.inl ⟨by rfl, ?_⟩) (by assumption) ?_
  rotate_left
  · (intro w hSw; (try dsimp only at hSw); first | (go_simp; done) | (go_simp; with_reducible rfl))
  simp only [Act.put, List.getElem_toArray, List.getElem_cons_zero, List.getElem_cons_succ, List.setIfInBounds_toArray, List.set_cons_zero, List.set_cons_succ]
  refine wpAnyH_ready (rs := [4]) (by kernel_rfl) (by simp) ?_
  refine AllReadyH.cons rfl (fun K hK => ?_) AllReadyH.nil
  go_simp
  go_wp2_with (go_at_call 38; refine (CL.out _ BV.out).mono ?_; rintro e w4 ⟨v4, rfl, ho4, hb4⟩)
  have B4 := Lib.hid (up BV.out hb4 BV.out.size)
  have O4 := Lib.hid (ho4.mono BV.out.size)
  obtain ⟨A4, c4, rfl, -⟩ := ho4.open_
  refine hK.out _ _ (KX.out _ B4.out) (fun hH1 => ?_)
  clear hK K hHeld hb4 ho4
  refine wpAnyH_take (i := 9) (v := ?_) rfl (by kernel_rfl) (by kernel_rfl) (by kernel_rfl) (fun _ _ _ h => h) (Or.inl ⟨by rfl, ?_⟩) (by assumption) ?_
  rotate_left
  · (intro w hSw; (try dsimp only at hSw); first | (go_simp; done) | (go_simp; with_reducible rfl))
  simp only [Act.put, List.getElem_toArray, List.getElem_cons_zero, List.getElem_cons_succ, List.setIfInBounds_toArray, List.set_cons_zero, List.set_cons_succ]
  refine wpAnyH_ready (rs := [10]) (by kernel_rfl) (by simp) ?_
  refine AllReadyH.cons rfl (fun K hK => ?_) AllReadyH.nil
  go_simp
  go_wp2_with fail
  have B5 := Lib.hid (up B4.out (made w4 (.cells #[.slice A4 L.length c4, .int .i64 nx] 58)) B4.out.size)
  have O5 := Lib.hid (O4.out.below (made w4 (.cells #[.slice A4 L.length c4, .int .i64 nx] 58)))
  have N5 := Lib.hid (Blk.new w4 58 #[.slice A4 L.length c4, .int .i64 nx])
  refine hK.out _ _ (KX.out _ B5.out) (fun hH2 => ?_)
  clear hK K hH1
  refine wpAnyH_take (i := 11) (v := ?_) rfl (by kernel_rfl) (by kernel_rfl) (by kernel_rfl) (fun _ _ _ h => h) (Or.inl ⟨by rfl, ?_⟩) (by assumption) ?_
  rotate_left
  · (intro w hSw; (try dsimp only at hSw); first | (go_simp; done) | (go_simp; with_reducible rfl))
  simp only [Act.put, List.getElem_toArray, List.getElem_cons_zero, List.getElem_cons_succ, List.setIfInBounds_toArray, List.set_cons_zero, List.set_cons_succ]
  refine wpAnyH_done (by kernel_rfl) ?_ _
  clear hH2
  go_wp2_with fail
  go_ret
  exact ⟨_, rfl, ⟨_, rfl, ⟨⟨_, N5.out, O5.out⟩, B4.out.size⟩⟩, B5.out⟩
set_option maxHeartbeats 400000 in
theorem len_any (B g : Nat) (L : List D) (nx : Int) (w : World) (h : DAt w B g L nx) : Calls Try.prog 27 #[.pointer (some ⟨g, 0, none⟩)] w fun e w' => e = .returned (.int .i64 L.length) ∧ w' = w := by
  obtain ⟨A, c, hb, _⟩ := h.open_
  have c0 := hb.cell 0
  clear h hb
  go_enter Try.func27, Try.ntmps27
  go_wp2_with fail
  go_ret
  exact ⟨rfl, rfl⟩
set_option maxHeartbeats 400000 in
theorem next_any (B g : Nat) (L : List D) (nx : Int) (w : World) (h : DAt w B g L nx) : Calls Try.prog 28 #[.pointer (some ⟨g, 0, none⟩)] w fun e w' => e = .returned (.int .i64 nx) ∧ w' = w := by
  obtain ⟨A, c, hb, _⟩ := h.open_
  have c0 := hb.cell 1
  clear h hb
  go_enter Try.func28, Try.ntmps28
  go_wp2_with fail
  go_ret
  exact ⟨rfl, rfl⟩
set_option maxRecDepth 100000 in
set_option maxHeartbeats 1000000 in
theorem rows_any (B g : Nat) (L : List D) (nx : Int) (w : World) (hd : DAt w B g L nx) (hl : L.length ≤ 100000) :
    Calls Try.prog 26 #[.pointer (some ⟨g, 0, none⟩)] w fun e w' => ∃ v, e = .returned v ∧ Own E7 w' w.heap.size 35 v L ∧ Below w.heap.size w w' := by
  obtain ⟨A, c, hbk, -, hlay, -⟩ := hd.open_
  have c0 := hbk.cell 0
  have CL := Lib.hid (clone_any A c L w hlay hl)
  clear hbk hlay hd
  go_enter Try.func26, Try.ntmps26
  go_wp2_with fail
  refine CL.out.mono ?_
  rintro e w4 ⟨v4, rfl, ho4, hb4⟩
  have O4 := Lib.hid ho4
  have B4 := Lib.hid hb4
  obtain ⟨A4, c4, rfl, -⟩ := ho4.open_
  clear ho4 hb4 CL
  go_wp2_with fail
  go_ret
  exact ⟨_, rfl, O4.out, B4.out⟩
theorem sum_le {L : List D} (h : ∀ d, d ∈ L → 0 ≤ best d ∧ best d ≤ 1099511627776) : ∀ k, k ≤ L.length → 0 ≤ sum (L.take k) ∧ sum (L.take k) ≤ k * 1099511627776 := by
  intro k
  induction k with
  | zero => intro _; simp [sum]
  | succ k ih =>
    intro hk
    have := ih (by omega)
    rw [sum_snoc L (by omega)]
    have := h _ (List.getElem_mem (show k < L.length by omega))
    omega
set_option maxRecDepth 100000 in
set_option maxHeartbeats 1000000 in
theorem held_any (B g : Nat) (L : List D) (nx : Int) (w : World) (hd : DAt w B g L nx) (hl : L.length ≤ 1000) (hb : ∀ d, d ∈ L → 0 ≤ best d ∧ best d ≤ 1099511627776) :
    Calls Try.prog 18 #[.pointer (some ⟨g, 0, none⟩)] w fun e w' => e = .returned (.int .i64 (sum L)) ∧ Below w.heap.size w w' := by
  obtain ⟨A, c, hbk, -, hlay, -⟩ := hd.open_
  have c0 := hbk.cell 0
  have HA := Lib.hid hlay
  have SU := Lib.hid (sum_le hb)
  clear hbk hlay hd hb
  go_enter Try.func18, Try.ntmps18
  go_wp2_with fail
  go_loopw [3, 11] (fun s i wr => ∃ (k : Nat) (W : World), W = wr ∧ k ≤ L.length ∧ i = .int .i64 k ∧ s = .int .i64 (sum (L.take k)) ∧ Below w.heap.size w wr) (fun _ i _ => L.length - (intOf i).toNat)
  case atStart => exact ⟨0, _, rfl, by omega, rfl, by simp [sum], Below.refl _ _⟩
  case round =>
  obtain ⟨k, w2, rfl, hk, rfl, rfl, hb2⟩ := hrel
  have B2 := Lib.hid hb2
  by_cases hkl : k < L.length
  · obtain ⟨b, off, rfl, e0, e1, e2, e3, e4, e5, e6⟩ := lay7 (HA.out.below hb2) hkl
    have SN := Lib.hid (sum_snoc L hkl)
    have s1 := SU.out k (by omega)
    have s2 := SU.out (k + 1) (by omega)
    rw [SN.out] at s2
    clear hb2
    generalize L[k] = d at *
    obtain ⟨d0, d1, d2, d3, d4, d5, d6⟩ := d
    dsimp only [best] at e0 e1 e2 e3 e4 e5 e6 s2 SN
    have hm := made w2 (.cells #[.int .i64 d0, .int .i64 d1, .int .i64 d2, .int .i64 d3, .int .i64 d4, .int .i64 d5, .int .i64 d6] 35)
    have B3 := Lib.hid (up B2.out hm B2.out.size)
    have bx := Blk.new w2 35 #[.int .i64 d0, .int .i64 d1, .int .i64 d2, .int .i64 d3, .int .i64 d4, .int .i64 d5, .int .i64 d6]
    have x4 := bx.cell 4
    generalize sum (L.take k) = z at *
    have wz : IntKind.i64.wrap (z + d4) = z + d4 := IntWalk.i64_in _ (by omega)
    clear hm bx s1 s2
    generalize hw3 : w2.alloc (.cells #[.int .i64 d0, .int .i64 d1, .int .i64 d2, .int .i64 d3, .int .i64 d4, .int .i64 d5, .int .i64 d6] 35) = w3 at *
    go_wp2_with (rw [hw3])
    refine ⟨⟨k + 1, _, rfl, by omega, by go_num, by rw [SN.out], B3.out⟩, by simp [intOf]; omega⟩
  · obtain rfl : k = L.length := by omega
    rw [List.take_length]
    clear hb2
    go_wp2_with fail
    go_ret
    exact ⟨rfl, B2.out⟩
end Go.Proofs.Ytlklfolpcebahaa.bb
