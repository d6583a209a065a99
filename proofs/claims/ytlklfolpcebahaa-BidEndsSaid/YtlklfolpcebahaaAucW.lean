/-
  Both tell the same.
-/
import Derived.Test.YtlklfolpcebahaaAucU
namespace Go.Proofs.Ytlklfolpcebahaa.bb
open Go.RowKit
open base (ret_bool ret_int made up Blk Only Nums)
open rk
set_option linter.unusedVariables false
set_option linter.unusedSimpArgs false

theorem Inv.id {L : List D} {nx : Int} (h : Inv L nx) {k : Nat} (hk : k < L.length) : fi (isId L[k].1) L = some k :=
  fi_eq ⟨hk, by simp [isId], fun j hj => by
    have := (List.pairwise_iff_getElem.1 h.2.1 j k (by omega) hk hj).1
    simp [isId]
    omega⟩
theorem Inv.deed {L : List D} {nx : Int} (h : Inv L nx) {k : Nat} (hk : k < L.length) : fi (isDeed L[k].2.1) L = some k :=
  fi_eq ⟨hk, by simp [isDeed], fun j hj => by
    have := (List.pairwise_iff_getElem.1 h.2.1 j k (by omega) hk hj).2
    simp [isDeed]
    omega⟩
theorem Inv.best {L : List D} {nx : Int} (h : Inv L nx) : ∀ d, d ∈ L → 0 ≤ best d ∧ best d ≤ 1099511627776 := fun d hd => (h.2.2.1 d hd).best
theorem get_at (B g : Nat) (L : List D) (nx : Int) (k : Nat) (w : World) (h : DAt w B g L nx) (hi : Inv L nx) (hk : k < L.length) (d : D) (hd : L[k] = d) :
    Calls Try.prog 11 #[.pointer (some ⟨g, 0, none⟩), .int .i64 d.1] w fun e w' => e = .returned (.tuple #[(.agg #[.int .i64 d.1, .int .i64 d.2.1, .int .i64 d.2.2.1, .int .i64 d.2.2.2.1, .int .i64 d.2.2.2.2.1, .int .i64 d.2.2.2.2.2.1, .int .i64 d.2.2.2.2.2.2]), .int .i64 0]) ∧ Below w.heap.size w w' := by
  have q := get_any B g L nx d.1 w h (by have := hi.2.2.2; omega)
  have e := hi.id hk
  rw [hd] at e
  have e2 : dAt L (some k) = d := by unfold dAt; rw [← hd]; simp [List.getD, hk]
  rw [e, e2] at q
  exact q
theorem of_at (B g : Nat) (L : List D) (nx : Int) (k : Nat) (w : World) (h : DAt w B g L nx) (hi : Inv L nx) (hk : k < L.length) (d : D) (hd : L[k] = d) :
    Calls Try.prog 12 #[.pointer (some ⟨g, 0, none⟩), .int .i64 d.2.1] w fun e w' => e = .returned (.tuple #[(.agg #[.int .i64 d.1, .int .i64 d.2.1, .int .i64 d.2.2.1, .int .i64 d.2.2.2.1, .int .i64 d.2.2.2.2.1, .int .i64 d.2.2.2.2.2.1, .int .i64 d.2.2.2.2.2.2]), .bool true]) ∧ Below w.heap.size w w' := by
  have q := of_any B g L nx d.2.1 w h (by have := hi.2.2.2; omega)
  have e := hi.deed hk
  rw [hd] at e
  have e2 : dAt L (some k) = d := by unfold dAt; rw [← hd]; simp [List.getD, hk]
  rw [e, e2] at q
  exact q
set_option maxRecDepth 100000 in
set_option maxHeartbeats 4000000 in
theorem same_any (A : Option Addr) (c : Nat) (L : List D) (nx : Int) (B g : Nat) (w : World) (hd : DAt w B g L nx) (hA : Lay E7 w A L) (hi : Inv L nx) :
    Calls Try.prog 10 #[.pointer (some ⟨g, 0, none⟩), .agg #[.slice A L.length c, .int .i64 nx]] w fun e w' => e = .returned (.bool true) ∧ Below w.heap.size w w' := by
  have hl : L.length ≤ 64 := hi.2.2.2
  have hm := made w (.cells #[.slice A L.length c, .int .i64 nx] 28)
  have B1 := Lib.hid hm
  have BX1 := Lib.hid (Blk.new w 28 #[.slice A L.length c, .int .i64 nx])
  have HD1 := Lib.hid (hd.below hm)
  have LA1 := Lib.hid (hA.below hm)
  have IV := Lib.hid hi
  have SL := Lib.hid (sum_le hi.best)
  clear hm hd hA hi
  generalize hw1 : w.alloc (.cells #[.slice A L.length c, .int .i64 nx] 28) = w1 at *
  have RO := Lib.hid (rows_any B g L nx w1 HD1.out (by omega))
  go_enter Try.func10, Try.ntmps10
  go_wp2_with (rw [hw1])
  refine RO.out.mono ?_
  rintro e w2 ⟨v2, rfl, ho2, hb2⟩
  obtain ⟨A2, c2, rfl, -⟩ := ho2.open_
  have HO2 := Lib.hid ho2
  have BX2 := Lib.hid (BX1.out.below hb2 BX1.out.lt)
  have HD2 := Lib.hid (HD1.out.below hb2)
  have LA2 := Lib.hid (LA1.out.below hb2)
  have B2 := Lib.hid (up B1.out hb2 B1.out.size)
  have W1 := Lib.hid (show w.heap.size < w1.heap.size from BX1.out.lt)
  clear ho2 hb2 RO BX1 HD1 LA1
  have dw : Below w2.heap.size w2 w2.drew := (Below.refl _ _).drew
  have LN := Lib.hid (len_any B g L nx w2.drew (HD2.out.below dw))
  have NX := Lib.hid (next_any B g L nx w2.drew (HD2.out.below dw))
  have S2 := Lib.hid (show w2.drew.cell? ⟨w.heap.size, 0, none⟩ = some (.slice A L.length c) ∧ w2.drew.cell? ⟨w.heap.size, 1, none⟩ = some (.int .i64 nx) from ⟨(BX2.out.drewN 1).cell 0, (BX2.out.drewN 1).cell 1⟩)
  clear dw
  go_wp2_with fail
  refine wp_region_held_drew (S := (fun ws => ws.cell? ⟨w.heap.size, 0, none⟩ = some (.slice A L.length c) ∧ ws.cell? ⟨w.heap.size, 1, none⟩ = some (.int .i64 nx))) (by kernel_rfl) S2.out (fun hHeld => ?_)
  refine wpAnyH_take (i := 0) (v := ?_) rfl (by kernel_rfl) (by kernel_rfl) (by kernel_rfl) (fun _ _ _ h => h) (Or.inl ⟨by rfl, ?_⟩) (by assumption) ?_
  rotate_left
  · (intro w hSw; (try dsimp only at hSw); first | (go_simp; done) | (go_simp; with_reducible rfl))
  simp only [Act.put, List.getElem_toArray, List.getElem_cons_zero, List.getElem_cons_succ, List.setIfInBounds_toArray, List.set_cons_zero, List.set_cons_succ]
  refine wpAnyH_take (i := 1) (v := ?_) rfl (by kernel_rfl) (by kernel_rfl) (by kernel_rfl) (fun _ _ _ h => h) (Or.inl ⟨by rfl, ?_⟩) (by assumption) ?_
  rotate_left
  · (intro w hSw; (try dsimp only at hSw); first | (go_simp; done) | (go_simp; with_reducible rfl))
  simp only [Act.put, List.getElem_toArray, List.getElem_cons_zero, List.getElem_cons_succ, List.setIfInBounds_toArray, List.set_cons_zero, List.set_cons_succ]
  refine wpAnyH_take (i := 2) (v := ?_) rfl (by kernel_rfl) (by kernel_rfl) (by kernel_rfl) (fun _ _ _ h => h) (Or.inl ⟨by rfl, ?_⟩) (by assumption) ?_
  rotate_left
  · (intro w hSw; (try dsimp only at hSw); first | (go_simp; done) | (go_simp; with_reducible rfl))
  simp only [Act.put, List.getElem_toArray, List.getElem_cons_zero, List.getElem_cons_succ, List.setIfInBounds_toArray, List.set_cons_zero, List.set_cons_succ]
  refine wpAnyH_take (i := 3) (v := ?_) rfl (by kernel_rfl) (by kernel_rfl) (by kernel_rfl) (fun _ _ _ h => h) (Or.inl ⟨by rfl, ?_⟩) (by assumption) ?_
  rotate_left
  · (intro w hSw; (try dsimp only at hSw); first | (go_simp; done) | (go_simp; with_reducible rfl))
  simp only [Act.put, List.getElem_toArray, List.getElem_cons_zero, List.getElem_cons_succ, List.setIfInBounds_toArray, List.set_cons_zero, List.set_cons_succ]
  refine wpAnyH_take (i := 4) (v := ?_) rfl (by kernel_rfl) (by kernel_rfl) (by kernel_rfl) (fun _ _ _ h => h) (Or.inl ⟨by rfl, ?_⟩) (by assumption) ?_
  rotate_left
  · (intro w hSw; (try dsimp only at hSw); first | (go_simp; done) | (go_simp; with_reducible rfl))
  simp only [Act.put, List.getElem_toArray, List.getElem_cons_zero, List.getElem_cons_succ, List.setIfInBounds_toArray, List.set_cons_zero, List.set_cons_succ]
  refine wpAnyH_take (i := 5) (v := ?_) rfl (by kernel_rfl) (by kernel_rfl) (by kernel_rfl) (fun _ _ _ h => h) (Or.inl ⟨by rfl, ?_⟩) (by assumption) ?_
  rotate_left
  · (intro w hSw; (try dsimp only at hSw); first | (go_simp; done) | (go_simp; with_reducible rfl))
  simp only [Act.put, List.getElem_toArray, List.getElem_cons_zero, List.getElem_cons_succ, List.setIfInBounds_toArray, List.set_cons_zero, List.set_cons_succ]
  refine wpAnyH_take (i := 6) (v := ?_) rfl (by kernel_rfl) (by kernel_rfl) (by kernel_rfl) (fun _ _ _ h => h) (Or.inl ⟨by rfl, ?_⟩) (by assumption) ?_
  rotate_left
  · (intro w hSw; (try dsimp only at hSw); first | (go_simp; done) | (go_simp; with_reducible rfl))
  simp only [Act.put, List.getElem_toArray, List.getElem_cons_zero, List.getElem_cons_succ, List.setIfInBounds_toArray, List.set_cons_zero, List.set_cons_succ]
  refine wpAnyH_take (i := 7) (v := ?_) rfl (by kernel_rfl) (by kernel_rfl) (by kernel_rfl) (fun _ _ _ h => h) (Or.inl ⟨by rfl, ?_⟩) (by assumption) ?_
  rotate_left
  · (intro w hSw; (try dsimp only at hSw); first | (go_simp; done) | (go_simp; with_reducible rfl))
  simp only [Act.put, List.getElem_toArray, List.getElem_cons_zero, List.getElem_cons_succ, List.setIfInBounds_toArray, List.set_cons_zero, List.set_cons_succ]
  refine wpAnyH_take (i := 9) (v := ?_) rfl (by kernel_rfl) (by kernel_rfl) (by kernel_rfl) (fun _ _ _ h => h) (Or.inl ⟨by rfl, ?_⟩) (by assumption) ?_
  rotate_left
  · (intro w hSw; (try dsimp only at hSw); first | (go_simp; done) | (go_simp; with_reducible rfl))
  simp only [Act.put, List.getElem_toArray, List.getElem_cons_zero, List.getElem_cons_succ, List.setIfInBounds_toArray, List.set_cons_zero, List.set_cons_succ]
  refine wpAnyH_take (i := 10) (v := ?_) rfl (by kernel_rfl) (by kernel_rfl) (by kernel_rfl) (fun _ _ _ h => h) (Or.inl ⟨by rfl, ?_⟩) (by assumption) ?_
  rotate_left
  · (intro w hSw; (try dsimp only at hSw); first | (go_simp; done) | (go_simp; with_reducible rfl))
  simp only [Act.put, List.getElem_toArray, List.getElem_cons_zero, List.getElem_cons_succ, List.setIfInBounds_toArray, List.set_cons_zero, List.set_cons_succ]
  refine wpAnyH_ready (rs := [8]) (by kernel_rfl) (by simp) ?_
  refine AllReadyH.cons rfl (fun K hK => ?_) AllReadyH.nil
  go_simp
  go_wp2_with (go_at_call 27; refine LN.out.mono ?_; rintro e w3 ⟨rfl, rfl⟩)
  refine hK.out _ _ S2.out (fun hH1 => ?_)
  clear hK K hHeld
  refine wpAnyH_take (i := 11) (v := ?_) rfl (by kernel_rfl) (by kernel_rfl) (by kernel_rfl) (fun _ _ _ h => h) (Or.inl ⟨by rfl, ?_⟩) (by assumption) ?_
  rotate_left
  · (intro w hSw; (try dsimp only at hSw); first | (go_simp; done) | (go_simp; with_reducible rfl))
  simp only [Act.put, List.getElem_toArray, List.getElem_cons_zero, List.getElem_cons_succ, List.setIfInBounds_toArray, List.set_cons_zero, List.set_cons_succ]
  refine wpAnyH_take (i := 12) (v := ?_) rfl (by kernel_rfl) (by kernel_rfl) (by kernel_rfl) (fun _ _ _ h => h) (Or.inl ⟨by rfl, ?_⟩) (by assumption) ?_
  rotate_left
  · (intro w hSw; (try dsimp only at hSw); first | (go_simp; done) | (go_simp; with_reducible rfl))
  simp only [Act.put, List.getElem_toArray, List.getElem_cons_zero, List.getElem_cons_succ, List.setIfInBounds_toArray, List.set_cons_zero, List.set_cons_succ]
  refine wpAnyH_take (i := 13) (v := ?_) rfl (by kernel_rfl) (by kernel_rfl) (by kernel_rfl) (fun _ _ _ h => h) (Or.inl ⟨by rfl, ?_⟩) (by assumption) ?_
  rotate_left
  · (intro w hSw; (try dsimp only at hSw); first | (go_simp; done) | (go_simp; with_reducible rfl))
  simp only [Act.put, List.getElem_toArray, List.getElem_cons_zero, List.getElem_cons_succ, List.setIfInBounds_toArray, List.set_cons_zero, List.set_cons_succ]
  refine wpAnyH_take (i := 14) (v := ?_) rfl (by kernel_rfl) (by kernel_rfl) (by kernel_rfl) (fun _ _ _ h => h) (Or.inl ⟨by rfl, ?_⟩) (by assumption) ?_
  rotate_left
  · (intro w hSw; (try dsimp only at hSw); first | (go_simp; done) | (go_simp; with_reducible rfl))
  simp only [Act.put, List.getElem_toArray, List.getElem_cons_zero, List.getElem_cons_succ, List.setIfInBounds_toArray, List.set_cons_zero, List.set_cons_succ]
  refine wpAnyH_take (i := 16) (v := ?_) rfl (by kernel_rfl) (by kernel_rfl) (by kernel_rfl) (fun _ _ _ h => h) (Or.inl ⟨by rfl, ?_⟩) (by assumption) ?_
  rotate_left
  · (intro w hSw; (try dsimp only at hSw); first | (go_simp; done) | (go_simp; with_reducible rfl))
  simp only [Act.put, List.getElem_toArray, List.getElem_cons_zero, List.getElem_cons_succ, List.setIfInBounds_toArray, List.set_cons_zero, List.set_cons_succ]
  refine wpAnyH_take (i := 17) (v := ?_) rfl (by kernel_rfl) (by kernel_rfl) (by kernel_rfl) (fun _ _ _ h => h) (Or.inl ⟨by rfl, ?_⟩) (by assumption) ?_
  rotate_left
  · (intro w hSw; (try dsimp only at hSw); first | (go_simp; done) | (go_simp; with_reducible rfl))
  simp only [Act.put, List.getElem_toArray, List.getElem_cons_zero, List.getElem_cons_succ, List.setIfInBounds_toArray, List.set_cons_zero, List.set_cons_succ]
  refine wpAnyH_ready (rs := [15]) (by kernel_rfl) (by simp) ?_
  refine AllReadyH.cons rfl (fun K hK => ?_) AllReadyH.nil
  go_simp
  go_wp2_with (go_at_call 28; refine NX.out.mono ?_; rintro e w3 ⟨rfl, rfl⟩)
  refine hK.out _ _ S2.out (fun hHeld => ?_)
  clear hK K hH1
  refine wpAnyH_take (i := 18) (v := ?_) rfl (by kernel_rfl) (by kernel_rfl) (by kernel_rfl) (fun _ _ _ h => h) (Or.inl ⟨by rfl, ?_⟩) (by assumption) ?_
  rotate_left
  · (intro w hSw; (try dsimp only at hSw); first | (go_simp; done) | (go_simp; with_reducible rfl))
  simp only [Act.put, List.getElem_toArray, List.getElem_cons_zero, List.getElem_cons_succ, List.setIfInBounds_toArray, List.set_cons_zero, List.set_cons_succ]
  refine wpAnyH_take (i := 19) (v := ?_) rfl (by kernel_rfl) (by kernel_rfl) (by kernel_rfl) (fun _ _ _ h => h) (Or.inl ⟨by rfl, ?_⟩) (by assumption) ?_
  rotate_left
  · (intro w hSw; (try dsimp only at hSw); first | (go_simp; done) | (go_simp; with_reducible rfl))
  simp only [Act.put, List.getElem_toArray, List.getElem_cons_zero, List.getElem_cons_succ, List.setIfInBounds_toArray, List.set_cons_zero, List.set_cons_succ]
  refine wpAnyH_done (by kernel_rfl) ?_ _
  have HO3 := Lib.hid (show Own E7 w2.drew w1.heap.size 35 (.slice A2 L.length c2) L from rk.Own.below HO2.out ((Below.refl _ _).drew))
  have BX3 := Lib.hid (BX2.out.drewN 1)
  have HD3 := Lib.hid (HD2.out.below ((Below.refl _ _).drew))
  have LA3 := Lib.hid (LA2.out.below ((Below.refl _ _).drew))
  have B3 := Lib.hid (show Below w.heap.size w w2.drew from B2.out.drew)
  clear hHeld S2 LN NX HO2 BX2 HD2 LA2 B2
  generalize hw3 : w2.drew = w3 at *
  have hw3' : w2.drewN 1 = w3 := hw3
  rw [hw3'] at BX3
  clear hw3 hw3'
  go_wp2_with fail
  go_loopw [6, 37] (fun s i wr => ∃ (k : Nat) (W : World), W = wr ∧ k ≤ L.length ∧ i = .int .i64 k ∧ s = .int .i64 (sum (L.take k)) ∧ Below w3.heap.size w3 wr) (fun _ i _ => L.length - (intOf i).toNat)
  case atStart => exact ⟨0, _, rfl, by omega, rfl, by simp [sum], Below.refl _ _⟩
  case round =>
  obtain ⟨k, w4, rfl, hk, rfl, rfl, hb4⟩ := hrel
  have B4 := Lib.hid hb4
  by_cases hkl : k < L.length
  · obtain ⟨bb, off, rfl, -⟩ := lay7 LA3.out hkl
    have LAY := Lib.hid (fun ws (h : Below w3.heap.size w3 ws) => LA3.out.below h)
    have LO := Lib.hid (fun ws (h : Below w3.heap.size w3 ws) => (show Lay E7 ws A2 L from by
      obtain ⟨A', c', e, h2, _⟩ := (rk.Own.below HO3.out h).open_
      injection e with q1 q2 q3
      subst q1
      exact h2))
    obtain ⟨b2, off2, rfl, -⟩ := lay7 (LO.out _ hb4) hkl
    obtain ⟨d, hdd⟩ : ∃ d, d = L[k] := ⟨_, rfl⟩
    have ROW := Lib.hid (fun ws (h : Lay E7 ws (some ⟨bb, off, none⟩) L) => lay7_at h hkl hdd.symm)
    have ROW2 := Lib.hid (fun ws (h : Lay E7 ws (some ⟨b2, off2, none⟩) L) => lay7_at h hkl hdd.symm)
    have GT := Lib.hid (fun ws (h : DAt ws B g L nx) => get_at B g L nx k ws h IV.out hkl d hdd.symm)
    have OF := Lib.hid (fun ws (h : DAt ws B g L nx) => of_at B g L nx k ws h IV.out hkl d hdd.symm)
    have SN := Lib.hid (sum_snoc L hkl)
    rw [← hdd] at SN
    have s1 := SL.out k (by omega)
    have s2 := SL.out (k + 1) (by omega)
    rw [SN.out] at s2
    obtain ⟨e0, e1, e2, e3, e4, e5, e6⟩ := ROW2.out _ (LO.out _ hb4)
    clear hdd hb4
    obtain ⟨d0, d1, d2, d3, d4, d5, d6⟩ := d
    dsimp only [best] at e0 e1 e2 e3 e4 e5 e6 s2 SN GT OF ROW
    generalize sum (L.take k) = z at *
    have wz : IntKind.i64.wrap (z + d4) = z + d4 := IntWalk.i64_in _ (by omega)
    clear s1 s2
    have hm := made w4 (.cells #[.int .i64 d0, .int .i64 d1, .int .i64 d2, .int .i64 d3, .int .i64 d4, .int .i64 d5, .int .i64 d6] 35)
    have B5 := Lib.hid (up B4.out hm B4.out.size)
    have BA5 := Lib.hid (Blk.new w4 35 #[.int .i64 d0, .int .i64 d1, .int .i64 d2, .int .i64 d3, .int .i64 d4, .int .i64 d5, .int .i64 d6])
    have N5 := Lib.hid hm.size
    clear hm
    go_upto_region 8 with fail
    generalize w4.alloc (.cells #[.int .i64 d0, .int .i64 d1, .int .i64 d2, .int .i64 d3, .int .i64 d4, .int .i64 d5, .int .i64 d6] 35) = w5 at *
    clear e0 e1 e2 e3 e4 e5 e6
    have x0 := BA5.out.cell 0
    have G5 := Lib.hid (GT.out w5 (HD3.out.below B5.out))
    go_wp2_with fail
    refine G5.out.mono ?_
    rintro e w6 ⟨rfl, hb6⟩
    have B6 := Lib.hid (up B5.out hb6 B5.out.size)
    have BA6 := Lib.hid (BA5.out.below hb6 BA5.out.lt)
    clear x0 hb6 G5
    have hm := made w6 (.cells #[.int .i64 d0, .int .i64 d1, .int .i64 d2, .int .i64 d3, .int .i64 d4, .int .i64 d5, .int .i64 d6] 35)
    have B7 := Lib.hid (up B6.out hm B6.out.size)
    have BA7 := Lib.hid (BA6.out.below hm BA6.out.lt)
    have BY7 := Lib.hid (Blk.new w6 35 #[.int .i64 d0, .int .i64 d1, .int .i64 d2, .int .i64 d3, .int .i64 d4, .int .i64 d5, .int .i64 d6])
    clear hm
    go_upto_region 9 with fail
    generalize w6.alloc (.cells #[.int .i64 d0, .int .i64 d1, .int .i64 d2, .int .i64 d3, .int .i64 d4, .int .i64 d5, .int .i64 d6] 35) = w7 at *
    have x1 := BA7.out.cell 1
    have O7 := Lib.hid (OF.out w7 (HD3.out.below B7.out))
    go_wp2_with fail
    refine O7.out.mono ?_
    rintro e w8 ⟨rfl, hb8⟩
    have B8 := Lib.hid (up B7.out hb8 B7.out.size)
    have BA8 := Lib.hid (BA7.out.below hb8 BA7.out.lt)
    have BY8 := Lib.hid (BY7.out.below hb8 BY7.out.lt)
    clear x1 hb8 O7
    have hm := made w8 (.cells #[.int .i64 d0, .int .i64 d1, .int .i64 d2, .int .i64 d3, .int .i64 d4, .int .i64 d5, .int .i64 d6] 35)
    have B9 := Lib.hid (up B8.out hm B8.out.size)
    have BA9 := Lib.hid (BA8.out.below hm BA8.out.lt)
    have BY9 := Lib.hid (BY8.out.below hm BY8.out.lt)
    have BZ9 := Lib.hid (Blk.new w8 35 #[.int .i64 d0, .int .i64 d1, .int .i64 d2, .int .i64 d3, .int .i64 d4, .int .i64 d5, .int .i64 d6])
    clear hm
    go_upto_region 10 with fail
    generalize w8.alloc (.cells #[.int .i64 d0, .int .i64 d1, .int .i64 d2, .int .i64 d3, .int .i64 d4, .int .i64 d5, .int .i64 d6] 35) = w9 at *
    have X9 := Lib.hid (BX3.out.below B9.out BX3.out.lt)
    have S9 := Lib.hid (show w9.drew.cell? ⟨w4.heap.size, 0, none⟩ = some (.int .i64 d0) ∧ w9.drew.cell? ⟨w4.heap.size, 1, none⟩ = some (.int .i64 d1) ∧ w9.drew.cell? ⟨w4.heap.size, 2, none⟩ = some (.int .i64 d2) ∧ w9.drew.cell? ⟨w4.heap.size, 3, none⟩ = some (.int .i64 d3) ∧ w9.drew.cell? ⟨w4.heap.size, 4, none⟩ = some (.int .i64 d4) ∧ w9.drew.cell? ⟨w4.heap.size, 5, none⟩ = some (.int .i64 d5) ∧ w9.drew.cell? ⟨w4.heap.size, 6, none⟩ = some (.int .i64 d6) ∧ w9.drew.cell? ⟨w6.heap.size, 0, none⟩ = some (.int .i64 d0) ∧ w9.drew.cell? ⟨w6.heap.size, 1, none⟩ = some (.int .i64 d1) ∧ w9.drew.cell? ⟨w6.heap.size, 2, none⟩ = some (.int .i64 d2) ∧ w9.drew.cell? ⟨w6.heap.size, 3, none⟩ = some (.int .i64 d3) ∧ w9.drew.cell? ⟨w6.heap.size, 4, none⟩ = some (.int .i64 d4) ∧ w9.drew.cell? ⟨w6.heap.size, 5, none⟩ = some (.int .i64 d5) ∧ w9.drew.cell? ⟨w6.heap.size, 6, none⟩ = some (.int .i64 d6) ∧ w9.drew.cell? ⟨w8.heap.size, 0, none⟩ = some (.int .i64 d0) ∧ w9.drew.cell? ⟨w8.heap.size, 1, none⟩ = some (.int .i64 d1) ∧ w9.drew.cell? ⟨w8.heap.size, 2, none⟩ = some (.int .i64 d2) ∧ w9.drew.cell? ⟨w8.heap.size, 3, none⟩ = some (.int .i64 d3) ∧ w9.drew.cell? ⟨w8.heap.size, 4, none⟩ = some (.int .i64 d4) ∧ w9.drew.cell? ⟨w8.heap.size, 5, none⟩ = some (.int .i64 d5) ∧ w9.drew.cell? ⟨w8.heap.size, 6, none⟩ = some (.int .i64 d6) ∧ w9.drew.cell? ⟨w.heap.size, 0, none⟩ = some (.slice (some ⟨bb, off, none⟩) L.length c) ∧ w9.drew.cell? ⟨w.heap.size, 1, none⟩ = some (.int .i64 nx) ∧ w9.drew.cell? ⟨bb, off + k * 7, none⟩ = some (.int .i64 d0) ∧ w9.drew.cell? ⟨bb, off + k * 7 + 1, none⟩ = some (.int .i64 d1) ∧ w9.drew.cell? ⟨bb, off + k * 7 + 2, none⟩ = some (.int .i64 d2) ∧ w9.drew.cell? ⟨bb, off + k * 7 + 3, none⟩ = some (.int .i64 d3) ∧ w9.drew.cell? ⟨bb, off + k * 7 + 4, none⟩ = some (.int .i64 d4) ∧ w9.drew.cell? ⟨bb, off + k * 7 + 5, none⟩ = some (.int .i64 d5) ∧ w9.drew.cell? ⟨bb, off + k * 7 + 6, none⟩ = some (.int .i64 d6) from ⟨(BA9.out.drewN 1).cell 0, (BA9.out.drewN 1).cell 1, (BA9.out.drewN 1).cell 2, (BA9.out.drewN 1).cell 3, (BA9.out.drewN 1).cell 4, (BA9.out.drewN 1).cell 5, (BA9.out.drewN 1).cell 6, (BY9.out.drewN 1).cell 0, (BY9.out.drewN 1).cell 1, (BY9.out.drewN 1).cell 2, (BY9.out.drewN 1).cell 3, (BY9.out.drewN 1).cell 4, (BY9.out.drewN 1).cell 5, (BY9.out.drewN 1).cell 6, (BZ9.out.drewN 1).cell 0, (BZ9.out.drewN 1).cell 1, (BZ9.out.drewN 1).cell 2, (BZ9.out.drewN 1).cell 3, (BZ9.out.drewN 1).cell 4, (BZ9.out.drewN 1).cell 5, (BZ9.out.drewN 1).cell 6, (X9.out.drewN 1).cell 0, (X9.out.drewN 1).cell 1, ROW.out _ (LAY.out _ (Below.drew B9.out))⟩)
    refine wp_region_held_drew (S := (fun ws => ws.cell? ⟨w4.heap.size, 0, none⟩ = some (.int .i64 d0) ∧ ws.cell? ⟨w4.heap.size, 1, none⟩ = some (.int .i64 d1) ∧ ws.cell? ⟨w4.heap.size, 2, none⟩ = some (.int .i64 d2) ∧ ws.cell? ⟨w4.heap.size, 3, none⟩ = some (.int .i64 d3) ∧ ws.cell? ⟨w4.heap.size, 4, none⟩ = some (.int .i64 d4) ∧ ws.cell? ⟨w4.heap.size, 5, none⟩ = some (.int .i64 d5) ∧ ws.cell? ⟨w4.heap.size, 6, none⟩ = some (.int .i64 d6) ∧ ws.cell? ⟨w6.heap.size, 0, none⟩ = some (.int .i64 d0) ∧ ws.cell? ⟨w6.heap.size, 1, none⟩ = some (.int .i64 d1) ∧ ws.cell? ⟨w6.heap.size, 2, none⟩ = some (.int .i64 d2) ∧ ws.cell? ⟨w6.heap.size, 3, none⟩ = some (.int .i64 d3) ∧ ws.cell? ⟨w6.heap.size, 4, none⟩ = some (.int .i64 d4) ∧ ws.cell? ⟨w6.heap.size, 5, none⟩ = some (.int .i64 d5) ∧ ws.cell? ⟨w6.heap.size, 6, none⟩ = some (.int .i64 d6) ∧ ws.cell? ⟨w8.heap.size, 0, none⟩ = some (.int .i64 d0) ∧ ws.cell? ⟨w8.heap.size, 1, none⟩ = some (.int .i64 d1) ∧ ws.cell? ⟨w8.heap.size, 2, none⟩ = some (.int .i64 d2) ∧ ws.cell? ⟨w8.heap.size, 3, none⟩ = some (.int .i64 d3) ∧ ws.cell? ⟨w8.heap.size, 4, none⟩ = some (.int .i64 d4) ∧ ws.cell? ⟨w8.heap.size, 5, none⟩ = some (.int .i64 d5) ∧ ws.cell? ⟨w8.heap.size, 6, none⟩ = some (.int .i64 d6) ∧ ws.cell? ⟨w.heap.size, 0, none⟩ = some (.slice (some ⟨bb, off, none⟩) L.length c) ∧ ws.cell? ⟨w.heap.size, 1, none⟩ = some (.int .i64 nx) ∧ ws.cell? ⟨bb, off + k * 7, none⟩ = some (.int .i64 d0) ∧ ws.cell? ⟨bb, off + k * 7 + 1, none⟩ = some (.int .i64 d1) ∧ ws.cell? ⟨bb, off + k * 7 + 2, none⟩ = some (.int .i64 d2) ∧ ws.cell? ⟨bb, off + k * 7 + 3, none⟩ = some (.int .i64 d3) ∧ ws.cell? ⟨bb, off + k * 7 + 4, none⟩ = some (.int .i64 d4) ∧ ws.cell? ⟨bb, off + k * 7 + 5, none⟩ = some (.int .i64 d5) ∧ ws.cell? ⟨bb, off + k * 7 + 6, none⟩ = some (.int .i64 d6))) (by kernel_rfl) S9.out (fun hHeld => ?_)
    refine wpAnyH_take (i := 0) (v := ?_) rfl (by kernel_rfl) (by kernel_rfl) (by kernel_rfl) (fun _ _ _ h => h) (Or.inl ⟨by rfl, ?_⟩) (by assumption) ?_
    rotate_left
    · (intro w hSw; (try dsimp only at hSw); first | (go_simp; done) | (go_simp; with_reducible rfl))
    simp only [Act.put, List.getElem_toArray, List.getElem_cons_zero, List.getElem_cons_succ, List.setIfInBounds_toArray, List.set_cons_zero, List.set_cons_succ]
    refine wpAnyH_take (i := 1) (v := ?_) rfl (by kernel_rfl) (by kernel_rfl) (by kernel_rfl) (fun _ _ _ h => h) (Or.inl ⟨by rfl, ?_⟩) (by assumption) ?_
    rotate_left
    · (intro w hSw; (try dsimp only at hSw); first | (go_simp; done) | (go_simp; with_reducible rfl))
    simp only [Act.put, List.getElem_toArray, List.getElem_cons_zero, List.getElem_cons_succ, List.setIfInBounds_toArray, List.set_cons_zero, List.set_cons_succ]
    refine wpAnyH_take (i := 2) (v := ?_) rfl (by kernel_rfl) (by kernel_rfl) (by kernel_rfl) (fun _ _ _ h => h) (Or.inl ⟨by rfl, ?_⟩) (by assumption) ?_
    rotate_left
    · (intro w hSw; (try dsimp only at hSw); first | (go_simp; done) | (go_simp; with_reducible rfl))
    simp only [Act.put, List.getElem_toArray, List.getElem_cons_zero, List.getElem_cons_succ, List.setIfInBounds_toArray, List.set_cons_zero, List.set_cons_succ]
    refine wpAnyH_take (i := 3) (v := ?_) rfl (by kernel_rfl) (by kernel_rfl) (by kernel_rfl) (fun _ _ _ h => h) (Or.inl ⟨by rfl, ?_⟩) (by assumption) ?_
    rotate_left
    · (intro w hSw; (try dsimp only at hSw); first | (go_simp; done) | (go_simp; with_reducible rfl))
    simp only [Act.put, List.getElem_toArray, List.getElem_cons_zero, List.getElem_cons_succ, List.setIfInBounds_toArray, List.set_cons_zero, List.set_cons_succ]
    refine wpAnyH_take (i := 4) (v := ?_) rfl (by kernel_rfl) (by kernel_rfl) (by kernel_rfl) (fun _ _ _ h => h) (Or.inl ⟨by rfl, ?_⟩) (by assumption) ?_
    rotate_left
    · (intro w hSw; (try dsimp only at hSw); first | (go_simp; done) | (go_simp; with_reducible rfl))
    simp only [Act.put, List.getElem_toArray, List.getElem_cons_zero, List.getElem_cons_succ, List.setIfInBounds_toArray, List.set_cons_zero, List.set_cons_succ]
    refine wpAnyH_take (i := 5) (v := ?_) rfl (by kernel_rfl) (by kernel_rfl) (by kernel_rfl) (fun _ _ _ h => h) (Or.inl ⟨by rfl, ?_⟩) (by assumption) ?_
    rotate_left
    · (intro w hSw; (try dsimp only at hSw); first | (go_simp; done) | (go_simp; with_reducible rfl))
    simp only [Act.put, List.getElem_toArray, List.getElem_cons_zero, List.getElem_cons_succ, List.setIfInBounds_toArray, List.set_cons_zero, List.set_cons_succ]
    refine wpAnyH_take (i := 6) (v := ?_) rfl (by kernel_rfl) (by kernel_rfl) (by kernel_rfl) (fun _ _ _ h => h) (Or.inl ⟨by rfl, ?_⟩) (by assumption) ?_
    rotate_left
    · (intro w hSw; (try dsimp only at hSw); first | (go_simp; done) | (go_simp; with_reducible rfl))
    simp only [Act.put, List.getElem_toArray, List.getElem_cons_zero, List.getElem_cons_succ, List.setIfInBounds_toArray, List.set_cons_zero, List.set_cons_succ]
    refine wpAnyH_take (i := 7) (v := ?_) rfl (by kernel_rfl) (by kernel_rfl) (by kernel_rfl) (fun _ _ _ h => h) (Or.inl ⟨by rfl, ?_⟩) (by assumption) ?_
    rotate_left
    · (intro w hSw; (try dsimp only at hSw); first | (go_simp; done) | (go_simp; with_reducible rfl))
    simp only [Act.put, List.getElem_toArray, List.getElem_cons_zero, List.getElem_cons_succ, List.setIfInBounds_toArray, List.set_cons_zero, List.set_cons_succ]
    refine wpAnyH_take (i := 8) (v := ?_) rfl (by kernel_rfl) (by kernel_rfl) (by kernel_rfl) (fun _ _ _ h => h) (Or.inl ⟨by rfl, ?_⟩) (by assumption) ?_
    rotate_left
    · (intro w hSw; (try dsimp only at hSw); first | (go_simp; done) | (go_simp; with_reducible rfl))
    simp only [Act.put, List.getElem_toArray, List.getElem_cons_zero, List.getElem_cons_succ, List.setIfInBounds_toArray, List.set_cons_zero, List.set_cons_succ]
    refine wpAnyH_take (i := 9) (v := ?_) rfl (by kernel_rfl) (by kernel_rfl) (by kernel_rfl) (fun _ _ _ h => h) (Or.inl ⟨by rfl, ?_⟩) (by assumption) ?_
    rotate_left
    · (intro w hSw; (try dsimp only at hSw); first | (go_simp; done) | (go_simp; with_reducible rfl))
    simp only [Act.put, List.getElem_toArray, List.getElem_cons_zero, List.getElem_cons_succ, List.setIfInBounds_toArray, List.set_cons_zero, List.set_cons_succ]
    refine wpAnyH_take (i := 10) (v := ?_) rfl (by kernel_rfl) (by kernel_rfl) (by kernel_rfl) (fun _ _ _ h => h) (Or.inl ⟨by rfl, ?_⟩) (by assumption) ?_
    rotate_left
    · (intro w hSw; (try dsimp only at hSw); first | (go_simp; done) | (go_simp; with_reducible rfl))
    simp only [Act.put, List.getElem_toArray, List.getElem_cons_zero, List.getElem_cons_succ, List.setIfInBounds_toArray, List.set_cons_zero, List.set_cons_succ]
    refine wpAnyH_take (i := 11) (v := ?_) rfl (by kernel_rfl) (by kernel_rfl) (by kernel_rfl) (fun _ _ _ h => h) (Or.inl ⟨by rfl, ?_⟩) (by assumption) ?_
    rotate_left
    · (intro w hSw; (try dsimp only at hSw); first | (go_simp; done) | (go_simp; with_reducible rfl))
    simp only [Act.put, List.getElem_toArray, List.getElem_cons_zero, List.getElem_cons_succ, List.setIfInBounds_toArray, List.set_cons_zero, List.set_cons_succ]
    refine wpAnyH_take (i := 12) (v := ?_) rfl (by kernel_rfl) (by kernel_rfl) (by kernel_rfl) (fun _ _ _ h => h) (Or.inl ⟨by rfl, ?_⟩) (by assumption) ?_
    rotate_left
    · (intro w hSw; (try dsimp only at hSw); first | (go_simp; done) | (go_simp; with_reducible rfl))
    simp only [Act.put, List.getElem_toArray, List.getElem_cons_zero, List.getElem_cons_succ, List.setIfInBounds_toArray, List.set_cons_zero, List.set_cons_succ]
    refine wpAnyH_take (i := 13) (v := ?_) rfl (by kernel_rfl) (by kernel_rfl) (by kernel_rfl) (fun _ _ _ h => h) (Or.inl ⟨by rfl, ?_⟩) (by assumption) ?_
    rotate_left
    · (intro w hSw; (try dsimp only at hSw); first | (go_simp; done) | (go_simp; with_reducible rfl))
    simp only [Act.put, List.getElem_toArray, List.getElem_cons_zero, List.getElem_cons_succ, List.setIfInBounds_toArray, List.set_cons_zero, List.set_cons_succ]
    refine wpAnyH_take (i := 14) (v := ?_) rfl (by kernel_rfl) (by kernel_rfl) (by kernel_rfl) (fun _ _ _ h => h) (Or.inl ⟨by rfl, ?_⟩) (by assumption) ?_
    rotate_left
    · (intro w hSw; (try dsimp only at hSw); first | (go_simp; done) | (go_simp; with_reducible rfl))
    simp only [Act.put, List.getElem_toArray, List.getElem_cons_zero, List.getElem_cons_succ, List.setIfInBounds_toArray, List.set_cons_zero, List.set_cons_succ]
    refine wpAnyH_take (i := 15) (v := ?_) rfl (by kernel_rfl) (by kernel_rfl) (by kernel_rfl) (fun _ _ _ h => h) (Or.inl ⟨by rfl, ?_⟩) (by assumption) ?_
    rotate_left
    · (intro w hSw; (try dsimp only at hSw); first | (go_simp; done) | (go_simp; with_reducible rfl))
    simp only [Act.put, List.getElem_toArray, List.getElem_cons_zero, List.getElem_cons_succ, List.setIfInBounds_toArray, List.set_cons_zero, List.set_cons_succ]
    refine wpAnyH_take (i := 16) (v := ?_) rfl (by kernel_rfl) (by kernel_rfl) (by kernel_rfl) (fun _ _ _ h => h) (Or.inl ⟨by rfl, ?_⟩) (by assumption) ?_
    rotate_left
    · (intro w hSw; (try dsimp only at hSw); first | (go_simp; done) | (go_simp; with_reducible rfl))
    simp only [Act.put, List.getElem_toArray, List.getElem_cons_zero, List.getElem_cons_succ, List.setIfInBounds_toArray, List.set_cons_zero, List.set_cons_succ]
    refine wpAnyH_take (i := 17) (v := ?_) rfl (by kernel_rfl) (by kernel_rfl) (by kernel_rfl) (fun _ _ _ h => h) (Or.inl ⟨by rfl, ?_⟩) (by assumption) ?_
    rotate_left
    · (intro w hSw; (try dsimp only at hSw); first | (go_simp; done) | (go_simp; with_reducible rfl))
    simp only [Act.put, List.getElem_toArray, List.getElem_cons_zero, List.getElem_cons_succ, List.setIfInBounds_toArray, List.set_cons_zero, List.set_cons_succ]
    refine wpAnyH_take (i := 18) (v := ?_) rfl (by kernel_rfl) (by kernel_rfl) (by kernel_rfl) (fun _ _ _ h => h) (Or.inl ⟨by rfl, ?_⟩) (by assumption) ?_
    rotate_left
    · (intro w hSw; (try dsimp only at hSw); first | (go_simp; done) | (go_simp; with_reducible rfl))
    simp only [Act.put, List.getElem_toArray, List.getElem_cons_zero, List.getElem_cons_succ, List.setIfInBounds_toArray, List.set_cons_zero, List.set_cons_succ]
    refine wpAnyH_take (i := 19) (v := ?_) rfl (by kernel_rfl) (by kernel_rfl) (by kernel_rfl) (fun _ _ _ h => h) (Or.inl ⟨by rfl, ?_⟩) (by assumption) ?_
    rotate_left
    · (intro w hSw; (try dsimp only at hSw); first | (go_simp; done) | (go_simp; with_reducible rfl))
    simp only [Act.put, List.getElem_toArray, List.getElem_cons_zero, List.getElem_cons_succ, List.setIfInBounds_toArray, List.set_cons_zero, List.set_cons_succ]
    refine wpAnyH_take (i := 20) (v := ?_) rfl (by kernel_rfl) (by kernel_rfl) (by kernel_rfl) (fun _ _ _ h => h) (Or.inl ⟨by rfl, ?_⟩) (by assumption) ?_
    rotate_left
    · (intro w hSw; (try dsimp only at hSw); first | (go_simp; done) | (go_simp; with_reducible rfl))
    simp only [Act.put, List.getElem_toArray, List.getElem_cons_zero, List.getElem_cons_succ, List.setIfInBounds_toArray, List.set_cons_zero, List.set_cons_succ]
    refine wpAnyH_take (i := 21) (v := ?_) rfl (by kernel_rfl) (by kernel_rfl) (by kernel_rfl) (fun _ _ _ h => h) (Or.inl ⟨by rfl, ?_⟩) (by assumption) ?_
    rotate_left
    · (intro w hSw; (try dsimp only at hSw); first | (go_simp; done) | (go_simp; with_reducible rfl))
    simp only [Act.put, List.getElem_toArray, List.getElem_cons_zero, List.getElem_cons_succ, List.setIfInBounds_toArray, List.set_cons_zero, List.set_cons_succ]
    refine wpAnyH_take (i := 22) (v := ?_) rfl (by kernel_rfl) (by kernel_rfl) (by kernel_rfl) (fun _ _ _ h => h) (Or.inl ⟨by rfl, ?_⟩) (by assumption) ?_
    rotate_left
    · (intro w hSw; (try dsimp only at hSw); first | (go_simp; done) | (go_simp; with_reducible rfl))
    simp only [Act.put, List.getElem_toArray, List.getElem_cons_zero, List.getElem_cons_succ, List.setIfInBounds_toArray, List.set_cons_zero, List.set_cons_succ]
    refine wpAnyH_take (i := 23) (v := ?_) rfl (by kernel_rfl) (by kernel_rfl) (by kernel_rfl) (fun _ _ _ h => h) (Or.inl ⟨by rfl, ?_⟩) (by assumption) ?_
    rotate_left
    · (intro w hSw; (try dsimp only at hSw); first | (go_simp; done) | (go_simp; with_reducible rfl))
    simp only [Act.put, List.getElem_toArray, List.getElem_cons_zero, List.getElem_cons_succ, List.setIfInBounds_toArray, List.set_cons_zero, List.set_cons_succ]
    refine wpAnyH_take (i := 24) (v := ?_) rfl (by kernel_rfl) (by kernel_rfl) (by kernel_rfl) (fun _ _ _ h => h) (Or.inl ⟨by rfl, ?_⟩) (by assumption) ?_
    rotate_left
    · (intro w hSw; (try dsimp only at hSw); first | (go_simp; done) | (go_simp; with_reducible rfl))
    simp only [Act.put, List.getElem_toArray, List.getElem_cons_zero, List.getElem_cons_succ, List.setIfInBounds_toArray, List.set_cons_zero, List.set_cons_succ]
    refine wpAnyH_done (by kernel_rfl) ?_ _
    clear hHeld S9
    have x4 : w9.cell? ⟨w4.heap.size, 4, none⟩ = some (.int .i64 d4) := BA9.out.cell 4
    have B10 := Lib.hid (show Below w3.heap.size w3 w9.drew from B9.out.drew)
    go_wp2_with fail
    refine ⟨⟨k + 1, _, rfl, by omega, by go_num, by rw [SN.out], B10.out⟩, by simp [intOf]; omega⟩
  · obtain rfl : k = L.length := by omega
    rw [List.take_length]
    have HE := Lib.hid (held_any B g L nx w4 (HD3.out.below hb4) (by omega) IV.out.best)
    clear hb4
    generalize sum L = z at *
    go_wp2_with fail
    refine HE.out.mono ?_
    rintro e w5 ⟨rfl, hb5⟩
    have B5 := Lib.hid (up B3.out (up B4.out hb5 B4.out.size) B3.out.size)
    clear hb5 HE
    go_wp2_with fail
    go_ret
    exact ⟨rfl, B5.out⟩
end Go.Proofs.Ytlklfolpcebahaa.bb
