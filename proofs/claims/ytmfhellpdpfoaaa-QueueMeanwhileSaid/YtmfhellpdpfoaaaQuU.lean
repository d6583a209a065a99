/-
  The queue and the document's list: both tell the same.
-/
import Derived.Test.YtmfhellpdpfoaaaQuT
namespace Go.Proofs.Ytmfhellpdpfoaaa.qu
open Go.RowKit Go.Shelf
open base (ret_bool ret_int made up Blk Only)
open rk mk rgm
set_option linter.unusedVariables false
set_option linter.unusedSimpArgs false
attribute [local go_sem] Oper.semAt_some
attribute [local irreducible] wpStill
variable {w w' : World} {q sb B : Nat} {vl : Value} {L M : List It} {ad : Int} {F : Nat → Prop}

/-- so many were told -/
def Sm (w w4 : World) (k : Nat) (W : World) : Prop := Blk W (w.heap.size + 1 + 1) 3 #[.int .i64 k] ∧ Below (w.heap.size + 2) w4 W ∧ w4.heap.size + 2 ≤ W.heap.size
theorem Sm.below {w4 W W' : World} {k : Nat} (h : Sm w w4 k W) (h4 : w.heap.size + 3 ≤ w4.heap.size) (hb : Below W.heap.size W W') : Sm w w4 k W' :=
  ⟨h.1.below hb (by have := h.2.2; omega), h.2.1.trans (hb.mono (by have := h.2.2; omega)), Nat.le_trans h.2.2 hb.size⟩
theorem Sm.only {w4 W W' : World} {k : Nat} (h : Sm w w4 k W) (h4 : w.heap.size + 3 ≤ w4.heap.size) (ho : Only (fun j => j = w4.heap.size + 1) W W') : Sm w w4 k W' :=
  ⟨h.1.only ho (by omega), h.2.1.trans (ho.to_below (fun i hi e => by omega) (by have := h.2.2; omega)), Nat.le_trans h.2.2 ho.size⟩
set_option maxRecDepth 100000 in
set_option maxHeartbeats 8000000 in
theorem same_at {A : Option Addr} {c : Nat} (P : Pair F w q sb (.slice A M.length c) M ad B) (had : ad ≤ 99000) :
    Calls Try.prog 11 #[.pointer (some ⟨sb, 0, none⟩), .pointer (some ⟨q, 0, none⟩)] w fun e w' => e = .returned (.bool true) ∧ Below w.heap.size w w' := by
  have hm1 : Below w.heap.size w (w.alloc (.cells #[.pointer (some ⟨sb, 0, none⟩)] 26)) := made w _
  have hm2 : Below w.heap.size w ((w.alloc (.cells #[.pointer (some ⟨sb, 0, none⟩)] 26)).alloc (.cells #[.bool false] 4)) := hm1.alloc (by rw [asz]; omega) _
  have hm3 : Below w.heap.size w (((w.alloc (.cells #[.pointer (some ⟨sb, 0, none⟩)] 26)).alloc (.cells #[.bool false] 4)).alloc (.cells #[.int .i64 0] 3)) := hm2.alloc (by rw [asz, asz]; omega) _
  have bx : Blk (((w.alloc (.cells #[.pointer (some ⟨sb, 0, none⟩)] 26)).alloc (.cells #[.bool false] 4)).alloc (.cells #[.int .i64 0] 3)) w.heap.size 26 #[.pointer (some ⟨sb, 0, none⟩)] := ((Blk.new _ _ _).alloc _).alloc _
  have br : Blk (((w.alloc (.cells #[.pointer (some ⟨sb, 0, none⟩)] 26)).alloc (.cells #[.bool false] 4)).alloc (.cells #[.int .i64 0] 3)) (w.heap.size + 1) 4 #[.bool false] := by
    have := (Blk.new (w.alloc (.cells #[.pointer (some ⟨sb, 0, none⟩)] 26)) 4 #[.bool false]).alloc (.cells #[.int .i64 0] 3)
    rw [asz] at this
    exact this
  have bi : Blk (((w.alloc (.cells #[.pointer (some ⟨sb, 0, none⟩)] 26)).alloc (.cells #[.bool false] 4)).alloc (.cells #[.int .i64 0] 3)) (w.heap.size + 1 + 1) 3 #[.int .i64 0] := by
    have := Blk.new ((w.alloc (.cells #[.pointer (some ⟨sb, 0, none⟩)] 26)).alloc (.cells #[.bool false] 4)) 3 #[.int .i64 0]
    rw [asz, asz] at this
    exact this
  have hs : (((w.alloc (.cells #[.pointer (some ⟨sb, 0, none⟩)] 26)).alloc (.cells #[.bool false] 4)).alloc (.cells #[.int .i64 0] 3)).heap.size = w.heap.size + 3 := by rw [asz, asz, asz]
  have BX := Lib.hid bx
  have BR := Lib.hid br
  have BI := Lib.hid bi
  have M3 := Lib.hid hm3
  have Z3 := Lib.hid hs
  have PP := Lib.hid P
  have hml : M.length ≤ 99000 := by have := P.len; omega
  have MK := Lib.hid (fun ws => all_make q ws)
  clear P hm1 hm2 hm3 bx br bi hs
  refine (callsIn_wide (n := 3)).1 ?_
  refine callsIn_of_wp_marks Try.func11 rfl trivial ?_ rfl
  simp only [Try.ntmps11, List.size_toArray, List.length_cons, List.length_nil, Nat.reduceAdd, Nat.reduceSub, Array.replicate_succ, Array.replicate_zero, List.push_toArray, List.append_toArray, List.nil_append, List.cons_append]
  refine wpIn_wide.2 (calm_wp ?_)
  go_wp2_with fail
  generalize ((w.alloc (.cells #[.pointer (some ⟨sb, 0, none⟩)] 26)).alloc (.cells #[.bool false] 4)).alloc (.cells #[.int .i64 0] 3) = w3 at *
  refine (MK.out _).mono ?_
  rintro e w4 ⟨rfl, hbl, hb4⟩
  have BL := Lib.hid hbl
  have BB := Lib.hid hb4
  have M4 := Lib.hid (show Below w.heap.size w w4 from up M3.out hb4 M3.out.size)
  have X4 := Lib.hid (BX.out.below hb4 BX.out.lt)
  have R4 := Lib.hid (BR.out.below hb4 BR.out.lt)
  have I4 := Lib.hid (BI.out.below hb4 BI.out.lt)
  have Z4 := Lib.hid (show w.heap.size + 3 ≤ w4.heap.size by have := hb4.size; have := Z3.out; omega)
  have ZB := Lib.hid (show w3.heap.size < w4.heap.size from hbl.lt)
  clear hbl hb4 MK
  go_wp2_with fail
  -- what a world tells in which nothing below the counter has turned
  have KX := Lib.hid (fun ws (h : Below (w.heap.size + 2) w4 ws) => X4.out.below h (by omega))
  have KR := Lib.hid (fun ws (h : Below (w.heap.size + 2) w4 ws) => R4.out.below h (by omega))
  have KB := Lib.hid (fun ws (h : Below (w.heap.size + 2) w4 ws) => (show Below w.heap.size w ws from M4.out.trans (h.mono (by omega))))
  refine (wpIn_wide (n := 3)).1 ?_
  refine wpIn_rangeFunc_free (α := Nat) rfl (by omega) (gf := 31) (lb := #[.pointer (some ⟨w3.heap.size, 0, none⟩)]) rfl trivial (enters_of Try.func31 (by kernel_rfl) rfl)
    (encs := fun k => #[.int .i64 (at_ M k).1, .string (at_ M k).2.2]) (fun _ => rfl)
    (fun k W => k < M.length ∧ Sm w w4 k W) (fun k W W' => Sm w w4 (k + 1) W' ∧ Only (fun j => j = w.heap.size + 1 + 1 ∨ j = w4.heap.size + 1) W W') (fun _ _ => False) (fun W => Sm w w4 M.length W)
    (fun k a' W Wb => a' = { tmps := #[.pointer (some ⟨sb, 0, none⟩), .pointer (some ⟨q, 0, none⟩), .pointer (some ⟨w.heap.size, 0, none⟩), undef, .pointer (some ⟨w.heap.size + 1, 0, none⟩), .pointer (some ⟨w.heap.size + 1 + 1, 0, none⟩), .int .i64 (at_ M k).1, .string (at_ M k).2.2, undef, undef, undef, undef, .pointer (some ⟨q, 0, none⟩), .func (.func 31) #[] #[.pointer (some ⟨w3.heap.size, 0, none⟩)], .int .i64 (at_ M k).1, .string (at_ M k).2.2, undef, undef, undef, undef, undef, undef, undef, undef, undef, undef, undef, undef, undef, undef, undef, undef, undef, undef, undef, undef, undef, undef, undef, undef, undef, undef, undef, undef, undef, undef, undef, undef, undef, undef, undef, undef, undef, undef, undef, undef, undef, undef, undef, undef, undef, undef, undef, undef, undef, undef, undef, undef, undef, undef, undef, undef, undef, undef, undef, undef, undef, undef, undef, undef, undef, undef, undef, undef, undef, undef, undef, undef, undef, undef, undef, undef, undef, undef, undef, undef, undef, undef, undef, undef, undef, undef, undef, undef, undef, undef, undef, undef, undef, undef, undef, undef, undef, undef, undef, undef, undef, undef, undef, undef, undef, undef, undef, undef, undef, undef, undef, undef, undef, undef, undef, undef, undef, undef, undef, undef, undef, undef, undef, undef, undef], defers := [] } ∧ Wb = W)
    ?iter ?assign ?body ?done ?stop
  case iter =>
    intro W1 Bk Bx hb1 hz1 hbk hBk hBx hY
    have hsm : Sm w w4 0 W1 := ⟨I4.out.below hb1 (by have := Z4.out; omega), hb1.mono (by have := Z4.out; omega), by omega⟩
    refine (all_it (3 - 1) (by omega) (w4.heap.size + 1) w3.heap.size W1 (BL.out.below hb1 ZB.out) (PP.out.qs.below (up M4.out hb1 M4.out.size)) hml (fun k W => Bk W ∧ Sm w w4 k W) (fun _ => False) (fun j => j = w.heap.size + 1 + 1 ∨ j = w4.heap.size + 1) (fun j h => by have := Z4.out; omega) ⟨hbk, hsm⟩ (fun k W W' h hb => ⟨hBk _ _ h.1 (Kept.of_below hb (by have := h.2.2.2; omega)), h.2.below Z4.out hb⟩) (fun k W hk h => ?_)).mono ?_
    · refine (hY k W h.1 ⟨hk, h.2⟩).mono ?_
      rintro e W' (⟨rfl, h1, h2⟩ | ⟨rfl, c', h1, h2⟩)
      · exact .inl ⟨rfl, ⟨h1, h2.1⟩, h2.2⟩
      · exact h2.elim
    · rintro e W' ⟨h1, (h2 | h2)⟩
      · exact ⟨h1, .inl h2⟩
      · exact h2.elim
  case assign =>
    rintro k W K ⟨hk, hsm⟩ hlt hK
    have HK := Lib.hid (hK _ _ (Kept.refl _ W) ⟨rfl, rfl⟩)
    clear hK hsm
    generalize at_ M k = d at *
    obtain ⟨d0, d1, d2⟩ := d
    simp only [List.zip_toArray, List.zip_cons_cons, List.zip_nil_right, List.foldl_toArray, List.foldl_cons, List.foldl_nil, List.setIfInBounds_toArray, List.set_cons_succ, List.set_cons_zero]
    gi_wp2
    exact HK.out
  case body =>
    rintro k a' W Wb Wc ⟨hk, hsm⟩ ⟨rfl, rfl⟩ hO - hlt
    have hsc := hsm.only Z4.out hO
    have SC := Lib.hid hsc
    have OC := Lib.hid hO
    have PC := Lib.hid (PP.out.below (KB.out _ hsc.2.1))
    obtain ⟨bb, off, rfl, e0, -, e2⟩ := layQ (layO PC.out.st.row) hk
    have x0 := (KX.out _ hsc.2.1).cell 0
    have s0 := PC.out.st.blk.cell 0
    have i0 := hsc.1.cell 0
    have g0 := hsc.1.free 0
    have FIN := Lib.hid (show Kept w4.heap.size Wc (Wc.drew.setCell ⟨w.heap.size + 1 + 1, 0, none⟩ (.int .i64 ((k : Int) + 1))) ∧ Sm w w4 (k + 1) (Wc.drew.setCell ⟨w.heap.size + 1 + 1, 0, none⟩ (.int .i64 ((k : Int) + 1))) ∧ Only (fun j => j = w.heap.size + 1 + 1 ∨ j = w4.heap.size + 1) Wb (Wc.drew.setCell ⟨w.heap.size + 1 + 1, 0, none⟩ (.int .i64 ((k : Int) + 1))) from by
      have hz := Z4.out
      have h1 : Only (fun j => j = w.heap.size + 1 + 1) Wc (Wc.drew.setCell ⟨w.heap.size + 1 + 1, 0, none⟩ (.int .i64 ((k : Int) + 1))) := ((Only.refl (fun j => j = w.heap.size + 1 + 1) Wc).drewN 1).setCell (p := ⟨w.heap.size + 1 + 1, 0, none⟩) (.inl rfl) _
      refine ⟨Kept.of_only h1 hlt (by omega) (by omega), ⟨?_, ?_, ?_⟩, ?_⟩
      · rw [show ((k + 1 : Nat) : Int) = (k : Int) + 1 by omega]
        exact (show Blk Wc.drew (w.heap.size + 1 + 1) 3 #[.int .i64 k] from hsc.1.drewN 1).put 0 _
      · exact hsc.2.1.trans (h1.to_below (fun i hi e => by omega) (by omega))
      · exact Nat.le_trans hsc.2.2 h1.size
      · exact (hO.mono (S' := fun j => j = w.heap.size + 1 + 1 ∨ j = w4.heap.size + 1) (fun i _ e => .inr e)).trans h1 (fun i _ e => .inl e))
    have tk : decide ((k : Int) ≥ (M.length : Int)) = false := decide_eq_false (by omega)
    have tk2 : decide (M.length ≤ k) = false := decide_eq_false (by omega)
    have tk3 : ((M.length : Int) ≤ (k : Int)) = False := by simp; omega
    have wk : IntKind.i64.wrap ((k : Int) + 1) = (k : Int) + 1 := IntWalk.i64_in _ (by omega)
    clear hsc hsm hO
    generalize at_ M k = d at *
    obtain ⟨d0, d1, d2⟩ := d
    dsimp only at e0 e2 ⊢
    gi_wp2
    refine still.region_in (still.round (w4.heap.size + 1)) 30 (by kernel_rfl) (by kernel_rfl) ?_
    simp only [List.take_succ_cons, List.take_zero, List.drop_succ_cons, List.drop_zero, List.take_nil, List.drop_nil]
    repeat still_step
    refine wpStill_nil ?_
    change wpListIn _ _ _ _ _ _ _ Wc.drew
    gi_wp2
    exact ⟨FIN.out.1, fun W2 h2 => ⟨FIN.out.2.1.only Z4.out h2, FIN.out.2.2.trans h2 (fun i _ e => .inr e)⟩⟩
  case done =>
    rintro W0 W hsm0 hO hK
    have hsm := hsm0.only Z4.out hO
    have HSM := Lib.hid hsm
    have KK := Lib.hid hK
    have PW := Lib.hid (PP.out.below (KB.out _ hsm.2.1))
    have BW := Lib.hid (KB.out _ hsm.2.1)
    have XW := Lib.hid (KX.out _ hsm.2.1)
    have RW := Lib.hid (KR.out _ hsm.2.1)
    have IW := Lib.hid hsm.1
    clear hsm hsm0 hO hK
    cases M with
    | nil =>
      have FI := Lib.hid (qfirst_nil PW.out.qs)
      have LE := Lib.hid (fun ws (h : QS F ws q [] ad) => qlen h)
      have AD := Lib.hid (fun ws (h : QS F ws q [] ad) => qadded h)
      have x0 := XW.out.cell 0
      have s0 := PW.out.st.blk.cell 0
      go_wp2_with fail
      refine FI.out.mono ?_
      rintro e w5 ⟨rfl, rfl⟩
      go_upto_region 10 with fail
      have IE := Lib.hid (show Blk W.drew (w.heap.size + 1 + 1) _ _ from IW.out.drewN 1)
      have XE := Lib.hid (show Blk W.drew w.heap.size _ _ from XW.out.drewN 1)
      have RB := Lib.hid (show Blk W.drew (w.heap.size + 1) _ _ from RW.out.drewN 1)
      have PE := Lib.hid (PW.out.below (Below.refl _ _).drew)
      have BE := Lib.hid (show Below w.heap.size w W.drew from BW.out.drew)
      have KE := Lib.hid (show W.drew.heap[w4.heap.size]? = _ from KK.out)
      clear x0 s0
      refine wp_region_held_drew (S := fun ws => ws.cell? ⟨w.heap.size + 1 + 1, 0, none⟩ = some (.int .i64 (([] : List It).length : Nat)) ∧ ws.cell? ⟨w.heap.size, 0, none⟩ = some (.pointer (some ⟨sb, 0, none⟩)) ∧ ws.cell? ⟨sb, 1, none⟩ = some (.int .i64 ad)) (by kernel_rfl) ⟨IE.out.cell 0, XE.out.cell 0, PE.out.st.blk.cell 1⟩ (fun hHeld => ?_)
      generalize W.drew = W5 at *
      have tq : (ad == ad) = true := by simp
      refine wpAnyH_take (i := 0) (v := ?_) rfl (by kernel_rfl) (by kernel_rfl) (by kernel_rfl) (fun _ _ _ h => h) (Or.inl ⟨by rfl, ?_⟩) (by assumption) ?_
      rotate_left
      · (intro w hSw; (try dsimp only at hSw); first | (go_simp; done) | (go_simp; with_reducible rfl))
      simp only [Act.put, List.getElem_toArray, List.getElem_cons_zero, List.getElem_cons_succ, List.setIfInBounds_toArray, List.set_cons_zero, List.set_cons_succ]
      refine wpAnyH_take (i := 1) (v := ?_) rfl (by kernel_rfl) (by kernel_rfl) (by kernel_rfl) (fun _ _ _ h => h) (Or.inl ⟨by rfl, ?_⟩) (by assumption) ?_
      rotate_left
      · (intro w hSw; (try dsimp only at hSw); first | (go_simp; done) | (go_simp; with_reducible rfl))
      simp only [Act.put, List.getElem_toArray, List.getElem_cons_zero, List.getElem_cons_succ, List.setIfInBounds_toArray, List.set_cons_zero, List.set_cons_succ]
      refine wpAnyH_take (i := 2) (v := ?_) rfl (by kernel_rfl) (by kernel_rfl) (by kernel_rfl) (fun _ _ _ h => h) (Or.inl ⟨by rfl, ?_⟩) (by assumption) ?_
      rotate_left
      · (intro w hSw; (try dsimp only at hSw); first | (go_simp; done) | (go_simp; with_reducible rfl))
      simp only [Act.put, List.getElem_toArray, List.getElem_cons_zero, List.getElem_cons_succ, List.setIfInBounds_toArray, List.set_cons_zero, List.set_cons_succ]
      refine wpAnyH_take (i := 3) (v := ?_) rfl (by kernel_rfl) (by kernel_rfl) (by kernel_rfl) (fun _ _ _ h => h) (Or.inl ⟨by rfl, ?_⟩) (by assumption) ?_
      rotate_left
      · (intro w hSw; (try dsimp only at hSw); first | (go_simp; done) | (go_simp; with_reducible rfl))
      simp only [Act.put, List.getElem_toArray, List.getElem_cons_zero, List.getElem_cons_succ, List.setIfInBounds_toArray, List.set_cons_zero, List.set_cons_succ]
      refine wpAnyH_ready (rs := [4]) (by kernel_rfl) (by simp) ?_
      refine AllReadyH.cons rfl (fun K hK => ?_) AllReadyH.nil
      go_simp
      refine (LE.out _ PE.out.qs).mono ?_
      rintro e w5 ⟨rfl, rfl⟩
      refine hK.out _ _ ⟨IE.out.cell 0, XE.out.cell 0, PE.out.st.blk.cell 1⟩ (fun hH2 => ?_)
      clear hK K hHeld
      refine wpAnyH_take (i := 5) (v := ?_) rfl (by kernel_rfl) (by kernel_rfl) (by kernel_rfl) (fun _ _ _ h => h) (Or.inl ⟨by rfl, ?_⟩) (by assumption) ?_
      rotate_left
      · (intro w hSw; (try dsimp only at hSw); first | (go_simp; done) | (go_simp; with_reducible rfl))
      simp only [Act.put, List.getElem_toArray, List.getElem_cons_zero, List.getElem_cons_succ, List.setIfInBounds_toArray, List.set_cons_zero, List.set_cons_succ]
      refine wpAnyH_take (i := 6) (v := ?_) rfl (by kernel_rfl) (by kernel_rfl) (by kernel_rfl) (fun _ _ _ h => h) (Or.inl ⟨by rfl, ?_⟩) (by assumption) ?_
      rotate_left
      · (intro w hSw; (try dsimp only at hSw); first | (go_simp; done) | (go_simp; with_reducible rfl))
      simp only [Act.put, List.getElem_toArray, List.getElem_cons_zero, List.getElem_cons_succ, List.setIfInBounds_toArray, List.set_cons_zero, List.set_cons_succ]
      refine wpAnyH_take (i := 7) (v := ?_) rfl (by kernel_rfl) (by kernel_rfl) (by kernel_rfl) (fun _ _ _ h => h) (Or.inl ⟨by rfl, ?_⟩) (by assumption) ?_
      rotate_left
      · (intro w hSw; (try dsimp only at hSw); first | (go_simp; done) | (go_simp; with_reducible rfl))
      simp only [Act.put, List.getElem_toArray, List.getElem_cons_zero, List.getElem_cons_succ, List.setIfInBounds_toArray, List.set_cons_zero, List.set_cons_succ]
      refine wpAnyH_take (i := 8) (v := ?_) rfl (by kernel_rfl) (by kernel_rfl) (by kernel_rfl) (fun _ _ _ h => h) (Or.inl ⟨by rfl, ?_⟩) (by assumption) ?_
      rotate_left
      · (intro w hSw; (try dsimp only at hSw); first | (go_simp; done) | (go_simp; with_reducible rfl))
      simp only [Act.put, List.getElem_toArray, List.getElem_cons_zero, List.getElem_cons_succ, List.setIfInBounds_toArray, List.set_cons_zero, List.set_cons_succ]
      refine wpAnyH_take (i := 9) (v := ?_) rfl (by kernel_rfl) (by kernel_rfl) (by kernel_rfl) (fun _ _ _ h => h) (Or.inl ⟨by rfl, ?_⟩) (by assumption) ?_
      rotate_left
      · (intro w hSw; (try dsimp only at hSw); first | (go_simp; done) | (go_simp; with_reducible rfl))
      simp only [Act.put, List.getElem_toArray, List.getElem_cons_zero, List.getElem_cons_succ, List.setIfInBounds_toArray, List.set_cons_zero, List.set_cons_succ]
      refine wpAnyH_take (i := 10) (v := ?_) rfl (by kernel_rfl) (by kernel_rfl) (by kernel_rfl) (fun _ _ _ h => h) (Or.inl ⟨by rfl, ?_⟩) (by assumption) ?_
      rotate_left
      · (intro w hSw; (try dsimp only at hSw); first | (go_simp; done) | (go_simp; with_reducible rfl))
      simp only [Act.put, List.getElem_toArray, List.getElem_cons_zero, List.getElem_cons_succ, List.setIfInBounds_toArray, List.set_cons_zero, List.set_cons_succ]
      refine wpAnyH_take (i := 11) (v := ?_) rfl (by kernel_rfl) (by kernel_rfl) (by kernel_rfl) (fun _ _ _ h => h) (Or.inl ⟨by rfl, ?_⟩) (by assumption) ?_
      rotate_left
      · (intro w hSw; (try dsimp only at hSw); first | (go_simp; done) | (go_simp; with_reducible rfl))
      simp only [Act.put, List.getElem_toArray, List.getElem_cons_zero, List.getElem_cons_succ, List.setIfInBounds_toArray, List.set_cons_zero, List.set_cons_succ]
      refine wpAnyH_take (i := 12) (v := ?_) rfl (by kernel_rfl) (by kernel_rfl) (by kernel_rfl) (fun _ _ _ h => h) (Or.inl ⟨by rfl, ?_⟩) (by assumption) ?_
      rotate_left
      · (intro w hSw; (try dsimp only at hSw); first | (go_simp; done) | (go_simp; with_reducible rfl))
      simp only [Act.put, List.getElem_toArray, List.getElem_cons_zero, List.getElem_cons_succ, List.setIfInBounds_toArray, List.set_cons_zero, List.set_cons_succ]
      refine wpAnyH_take (i := 14) (v := ?_) rfl (by kernel_rfl) (by kernel_rfl) (by kernel_rfl) (fun _ _ _ h => h) (Or.inl ⟨by rfl, ?_⟩) (by assumption) ?_
      rotate_left
      · (intro w hSw; (try dsimp only at hSw); first | (go_simp; done) | (go_simp; with_reducible rfl))
      simp only [Act.put, List.getElem_toArray, List.getElem_cons_zero, List.getElem_cons_succ, List.setIfInBounds_toArray, List.set_cons_zero, List.set_cons_succ]
      refine wpAnyH_take (i := 15) (v := ?_) rfl (by kernel_rfl) (by kernel_rfl) (by kernel_rfl) (fun _ _ _ h => h) (Or.inl ⟨by rfl, ?_⟩) (by assumption) ?_
      rotate_left
      · (intro w hSw; (try dsimp only at hSw); first | (go_simp; done) | (go_simp; with_reducible rfl))
      simp only [Act.put, List.getElem_toArray, List.getElem_cons_zero, List.getElem_cons_succ, List.setIfInBounds_toArray, List.set_cons_zero, List.set_cons_succ]
      refine wpAnyH_take (i := 16) (v := ?_) rfl (by kernel_rfl) (by kernel_rfl) (by kernel_rfl) (fun _ _ _ h => h) (Or.inl ⟨by rfl, ?_⟩) (by assumption) ?_
      rotate_left
      · (intro w hSw; (try dsimp only at hSw); first | (go_simp; done) | (go_simp; with_reducible rfl))
      simp only [Act.put, List.getElem_toArray, List.getElem_cons_zero, List.getElem_cons_succ, List.setIfInBounds_toArray, List.set_cons_zero, List.set_cons_succ]
      refine wpAnyH_take (i := 17) (v := ?_) rfl (by kernel_rfl) (by kernel_rfl) (by kernel_rfl) (fun _ _ _ h => h) (Or.inl ⟨by rfl, ?_⟩) (by assumption) ?_
      rotate_left
      · (intro w hSw; (try dsimp only at hSw); first | (go_simp; done) | (go_simp; with_reducible rfl))
      simp only [Act.put, List.getElem_toArray, List.getElem_cons_zero, List.getElem_cons_succ, List.setIfInBounds_toArray, List.set_cons_zero, List.set_cons_succ]
      refine wpAnyH_ready (rs := [13]) (by kernel_rfl) (by simp) ?_
      refine AllReadyH.cons rfl (fun K hK => ?_) AllReadyH.nil
      go_simp
      refine (AD.out _ PE.out.qs).mono ?_
      rintro e w5 ⟨rfl, rfl⟩
      refine hK.out _ _ ⟨IE.out.cell 0, XE.out.cell 0, PE.out.st.blk.cell 1⟩ (fun hH3 => ?_)
      clear hK K hH2
      refine wpAnyH_take (i := 18) (v := ?_) rfl (by kernel_rfl) (by kernel_rfl) (by kernel_rfl) (fun _ _ _ h => h) (Or.inl ⟨by rfl, ?_⟩) (by assumption) ?_
      rotate_left
      · (intro w hSw; (try dsimp only at hSw); first | (go_simp; done) | (go_simp; with_reducible rfl))
      simp only [Act.put, List.getElem_toArray, List.getElem_cons_zero, List.getElem_cons_succ, List.setIfInBounds_toArray, List.set_cons_zero, List.set_cons_succ]
      refine wpAnyH_take (i := 19) (v := ?_) rfl (by kernel_rfl) (by kernel_rfl) (by kernel_rfl) (fun _ _ _ h => h) (Or.inl ⟨by rfl, ?_⟩) (by assumption) ?_
      rotate_left
      · (intro w hSw; (try dsimp only at hSw); first | (go_simp; done) | (go_simp; with_reducible rfl))
      simp only [Act.put, List.getElem_toArray, List.getElem_cons_zero, List.getElem_cons_succ, List.setIfInBounds_toArray, List.set_cons_zero, List.set_cons_succ]
      have d0 := RB.out.cell 0
      have d1 := RB.out.free 0
      have C9 := Lib.hid ((RB.out.put 0 (.bool true)).cell 0)
      have B9 := Lib.hid (BE.out.setCell (p := ⟨w.heap.size + 1, 0, none⟩) (by show w.heap.size ≤ w.heap.size + 1; omega) (.bool true))
      have KD := Lib.hid ((Below.heap_setCell W5 ⟨w.heap.size + 1, 0, none⟩ (.bool true) w4.heap.size (by show w4.heap.size ≠ w.heap.size + 1; have := Z4.out; omega)).trans KE.out)
      have I9 := Lib.hid (IE.out.far (p := ⟨w.heap.size + 1, 0, none⟩) (by show w.heap.size + 1 + 1 ≠ w.heap.size + 1; omega) (.bool true))
      have X9 := Lib.hid (XE.out.far (p := ⟨w.heap.size + 1, 0, none⟩) (by show w.heap.size ≠ w.heap.size + 1; omega) (.bool true))
      have P9 := Lib.hid (PE.out.st.keep (w' := W5.setCell ⟨w.heap.size + 1, 0, none⟩ (.bool true)) (fun j hj => Below.heap_setCell W5 _ _ _ (by have := PP.out.st.lt hj; show j ≠ w.heap.size + 1; omega)))
      refine wpAnyH_ready (rs := [20]) (by kernel_rfl) (by simp) ?_
      refine AllReadyH.cons rfl (fun K hK => ?_) AllReadyH.nil
      go_simp
      generalize W5.setCell ⟨w.heap.size + 1, 0, none⟩ (.bool true) = W9 at *
      refine hK.out _ _ ⟨I9.out.cell 0, X9.out.cell 0, P9.out.blk.cell 1⟩ (fun hH4 => ?_)
      clear hK K hH3 d0 d1
      refine wpAnyH_done (by kernel_rfl) ?_ _
      clear hH4
      go_wp2_with fail
      refine ⟨by simp, .inl ⟨_, _, rfl, run_takeDeferred KD.out, ?_⟩⟩
      have hc9 := cell_kept C9.out (grownBy_putObj' _ w4.heap.size (.deferred none)) (fun r e => by cases e; exact ⟨_, KD.out, rfl⟩)
      refine ⟨.bool true, ?_, rfl, B9.out.trans (belowK_b (w := w) (Nat.le_refl _) _ w4.heap.size _ _ (by have := Z4.out; omega) KD.out rfl rfl)⟩
      generalize W9.putObj w4.heap.size (.deferred none) = w10 at hc9 ⊢
      simp [results, Try.f11, go_sem, hc9]
    | cons x M' =>
      have FI := Lib.hid (qfirst PW.out.qs)
      have LE := Lib.hid (fun ws (h : QS F ws q (x :: M') ad) => qlen h)
      have AD := Lib.hid (fun ws (h : QS F ws q (x :: M') ad) => qadded h)
      have x0 := XW.out.cell 0
      have s0 := PW.out.st.blk.cell 0
      have hne : 0 < (x :: M').length := by simp
      have LX := Lib.hid (show at_ (x :: M') 0 = x from rfl)
      have LY := Lib.hid (fun ws (h : St ws sb (.slice A (x :: M').length c) (x :: M') ad B) => layQ (layO h.row) (k := 0) hne)
      have LB := Lib.hid (show ∃ b off, A = some ⟨b, off, none⟩ ∧ b < w.heap.size from by
        obtain ⟨b, off, e, hl, _⟩ := layO PP.out.st.row hne
        exact ⟨b, off, e, hl⟩)
      generalize hnl : (x :: M').length = nl at *
      have tz : ((nl : Int) == 0) = false := by simp only [beq_eq_false_iff_ne, ne_eq]; omega
      have tn1 : (nl = 0) = False := eq_false (by omega)
      have tn2 : ((nl : Int) ≤ 0) = False := eq_false (by omega)
      have tn3 : (0 < nl) = True := eq_true (by omega)
      have tn : decide (0 < nl) = true := decide_eq_true (by omega)
      have tl : ((nl : Int) == (nl : Int)) = true := by simp
      have HNL := Lib.hid hnl
      clear hnl
      have MX := Lib.hid (show ∀ x : It, x = x from fun _ => rfl)
      go_wp2_with fail
      refine FI.out.mono ?_
      rintro e w5 ⟨rfl, hb5⟩
      have I5 := Lib.hid (IW.out.below hb5 IW.out.lt)
      have X5 := Lib.hid (XW.out.below hb5 XW.out.lt)
      have R5 := Lib.hid (RW.out.below hb5 RW.out.lt)
      have P5 := Lib.hid (PW.out.below hb5)
      have B5 := Lib.hid (up BW.out hb5 BW.out.size)
      have K5 := Lib.hid ((hb5.block w4.heap.size (by have := HSM.out.2.2; omega)).trans KK.out)
      clear x0 s0 hb5
      have x0 := X5.out.cell 0
      have s0 := P5.out.st.blk.cell 0
      go_upto_region 11 with fail
      have IE := Lib.hid (show Blk w5.drew (w.heap.size + 1 + 1) _ _ from I5.out.drewN 1)
      have XE := Lib.hid (show Blk w5.drew w.heap.size _ _ from X5.out.drewN 1)
      have RB := Lib.hid (show Blk w5.drew (w.heap.size + 1) _ _ from R5.out.drewN 1)
      have PE := Lib.hid (P5.out.below (Below.refl _ _).drew)
      have BE := Lib.hid (show Below w.heap.size w w5.drew from B5.out.drew)
      have KE := Lib.hid (show w5.drew.heap[w4.heap.size]? = _ from K5.out)
      clear x0 s0
      obtain ⟨bb, off, rfl, e0, e1, e2⟩ := LY.out _ PE.out.st
      rw [Nat.zero_mul, Nat.add_zero] at e0 e1 e2
      rw [LX.out] at e0 e1 e2
      obtain ⟨y0, y1, y2⟩ := x
      dsimp only at *
      have tq : (ad == ad) = true := by simp
      have tq0 : (y0 == y0) = true := by simp
      have tq1 : (y1 == y1) = true := by simp
      refine wp_region_held_drew (S := fun ws => ws.cell? ⟨w.heap.size + 1 + 1, 0, none⟩ = some (.int .i64 nl) ∧ ws.cell? ⟨w.heap.size, 0, none⟩ = some (.pointer (some ⟨sb, 0, none⟩)) ∧ ws.cell? ⟨sb, 1, none⟩ = some (.int .i64 ad) ∧ ws.cell? ⟨sb, 0, none⟩ = some (.slice (some ⟨bb, off, none⟩) nl c) ∧ ws.cell? ⟨bb, off, none⟩ = some (.int .i64 y0) ∧ ws.cell? ⟨bb, off + 1, none⟩ = some (.int .i64 y1) ∧ ws.cell? ⟨bb, off + 2, none⟩ = some (.string y2)) (by kernel_rfl) ⟨IE.out.cell 0, XE.out.cell 0, PE.out.st.blk.cell 1, PE.out.st.blk.cell 0, e0, e1, e2⟩ (fun hHeld => ?_)
      generalize w5.drew = W5 at *
      refine wpAnyH_take (i := 0) (v := ?_) rfl (by kernel_rfl) (by kernel_rfl) (by kernel_rfl) (fun _ _ _ h => h) (Or.inl ⟨by rfl, ?_⟩) (by assumption) ?_
      rotate_left
      · (intro w hSw; (try dsimp only at hSw); first | (go_simp; done) | (go_simp; with_reducible rfl))
      simp only [Act.put, List.getElem_toArray, List.getElem_cons_zero, List.getElem_cons_succ, List.setIfInBounds_toArray, List.set_cons_zero, List.set_cons_succ]
      refine wpAnyH_take (i := 1) (v := ?_) rfl (by kernel_rfl) (by kernel_rfl) (by kernel_rfl) (fun _ _ _ h => h) (Or.inl ⟨by rfl, ?_⟩) (by assumption) ?_
      rotate_left
      · (intro w hSw; (try dsimp only at hSw); first | (go_simp; done) | (go_simp; with_reducible rfl))
      simp only [Act.put, List.getElem_toArray, List.getElem_cons_zero, List.getElem_cons_succ, List.setIfInBounds_toArray, List.set_cons_zero, List.set_cons_succ]
      refine wpAnyH_take (i := 2) (v := ?_) rfl (by kernel_rfl) (by kernel_rfl) (by kernel_rfl) (fun _ _ _ h => h) (Or.inl ⟨by rfl, ?_⟩) (by assumption) ?_
      rotate_left
      · (intro w hSw; (try dsimp only at hSw); first | (go_simp; done) | (go_simp; with_reducible rfl))
      simp only [Act.put, List.getElem_toArray, List.getElem_cons_zero, List.getElem_cons_succ, List.setIfInBounds_toArray, List.set_cons_zero, List.set_cons_succ]
      refine wpAnyH_take (i := 3) (v := ?_) rfl (by kernel_rfl) (by kernel_rfl) (by kernel_rfl) (fun _ _ _ h => h) (Or.inl ⟨by rfl, ?_⟩) (by assumption) ?_
      rotate_left
      · (intro w hSw; (try dsimp only at hSw); first | (go_simp; done) | (go_simp; with_reducible rfl))
      simp only [Act.put, List.getElem_toArray, List.getElem_cons_zero, List.getElem_cons_succ, List.setIfInBounds_toArray, List.set_cons_zero, List.set_cons_succ]
      refine wpAnyH_take (i := 4) (v := ?_) rfl (by kernel_rfl) (by kernel_rfl) (by kernel_rfl) (fun _ _ _ h => h) (Or.inl ⟨by rfl, ?_⟩) (by assumption) ?_
      rotate_left
      · (intro w hSw; (try dsimp only at hSw); first | (go_simp; done) | (go_simp; with_reducible rfl))
      simp only [Act.put, List.getElem_toArray, List.getElem_cons_zero, List.getElem_cons_succ, List.setIfInBounds_toArray, List.set_cons_zero, List.set_cons_succ]
      refine wpAnyH_take (i := 5) (v := ?_) rfl (by kernel_rfl) (by kernel_rfl) (by kernel_rfl) (fun _ _ _ h => h) (Or.inl ⟨by rfl, ?_⟩) (by assumption) ?_
      rotate_left
      · (intro w hSw; (try dsimp only at hSw); first | (go_simp; done) | (go_simp; with_reducible rfl))
      simp only [Act.put, List.getElem_toArray, List.getElem_cons_zero, List.getElem_cons_succ, List.setIfInBounds_toArray, List.set_cons_zero, List.set_cons_succ]
      refine wpAnyH_take (i := 6) (v := ?_) rfl (by kernel_rfl) (by kernel_rfl) (by kernel_rfl) (fun _ _ _ h => h) (Or.inl ⟨by rfl, ?_⟩) (by assumption) ?_
      rotate_left
      · (intro w hSw; (try dsimp only at hSw); first | (go_simp; done) | (go_simp; with_reducible rfl))
      simp only [Act.put, List.getElem_toArray, List.getElem_cons_zero, List.getElem_cons_succ, List.setIfInBounds_toArray, List.set_cons_zero, List.set_cons_succ]
      refine wpAnyH_take (i := 7) (v := ?_) rfl (by kernel_rfl) (by kernel_rfl) (by kernel_rfl) (fun _ _ _ h => h) (Or.inl ⟨by rfl, ?_⟩) (by assumption) ?_
      rotate_left
      · (intro w hSw; (try dsimp only at hSw); first | (go_simp; done) | (go_simp; with_reducible rfl))
      simp only [Act.put, List.getElem_toArray, List.getElem_cons_zero, List.getElem_cons_succ, List.setIfInBounds_toArray, List.set_cons_zero, List.set_cons_succ]
      refine wpAnyH_take (i := 8) (v := ?_) rfl (by kernel_rfl) (by kernel_rfl) (by kernel_rfl) (fun _ _ _ h => h) (Or.inl ⟨by rfl, ?_⟩) (by assumption) ?_
      rotate_left
      · (intro w hSw; (try dsimp only at hSw); first | (go_simp; done) | (go_simp; with_reducible rfl))
      simp only [Act.put, List.getElem_toArray, List.getElem_cons_zero, List.getElem_cons_succ, List.setIfInBounds_toArray, List.set_cons_zero, List.set_cons_succ]
      refine wpAnyH_take (i := 10) (v := ?_) rfl (by kernel_rfl) (by kernel_rfl) (by kernel_rfl) (fun _ _ _ h => h) (Or.inl ⟨by rfl, ?_⟩) (by assumption) ?_
      rotate_left
      · (intro w hSw; (try dsimp only at hSw); first | (go_simp; done) | (go_simp; with_reducible rfl))
      simp only [Act.put, List.getElem_toArray, List.getElem_cons_zero, List.getElem_cons_succ, List.setIfInBounds_toArray, List.set_cons_zero, List.set_cons_succ]
      refine wpAnyH_ready (rs := [9]) (by kernel_rfl) (by simp) ?_
      refine AllReadyH.cons rfl (fun K hK => ?_) AllReadyH.nil
      go_simp
      refine (LE.out _ PE.out.qs).mono ?_
      rintro e w6 ⟨rfl, rfl⟩
      refine hK.out _ _ ⟨IE.out.cell 0, XE.out.cell 0, PE.out.st.blk.cell 1, PE.out.st.blk.cell 0, e0, e1, e2⟩ (fun hH2 => ?_)
      clear hK K hHeld
      refine wpAnyH_take (i := 11) (v := ?_) rfl (by kernel_rfl) (by kernel_rfl) (by kernel_rfl) (fun _ _ _ h => h) (Or.inl ⟨by rfl, ?_⟩) (by assumption) ?_
      rotate_left
      · (intro w hSw; (try dsimp only at hSw); first | (go_simp; done) | (go_simp; with_reducible rfl))
      simp only [Act.put, List.getElem_toArray, List.getElem_cons_zero, List.getElem_cons_succ, List.setIfInBounds_toArray, List.set_cons_zero, List.set_cons_succ]
      refine wpAnyH_take (i := 12) (v := ?_) rfl (by kernel_rfl) (by kernel_rfl) (by kernel_rfl) (fun _ _ _ h => h) (Or.inl ⟨by rfl, ?_⟩) (by assumption) ?_
      rotate_left
      · (intro w hSw; (try dsimp only at hSw); first | (go_simp; done) | (go_simp; with_reducible rfl))
      simp only [Act.put, List.getElem_toArray, List.getElem_cons_zero, List.getElem_cons_succ, List.setIfInBounds_toArray, List.set_cons_zero, List.set_cons_succ]
      refine wpAnyH_take (i := 13) (v := ?_) rfl (by kernel_rfl) (by kernel_rfl) (by kernel_rfl) (fun _ _ _ h => h) (Or.inl ⟨by rfl, ?_⟩) (by assumption) ?_
      rotate_left
      · (intro w hSw; (try dsimp only at hSw); first | (go_simp; done) | (go_simp; with_reducible rfl))
      simp only [Act.put, List.getElem_toArray, List.getElem_cons_zero, List.getElem_cons_succ, List.setIfInBounds_toArray, List.set_cons_zero, List.set_cons_succ]
      refine wpAnyH_take (i := 14) (v := ?_) rfl (by kernel_rfl) (by kernel_rfl) (by kernel_rfl) (fun _ _ _ h => h) (Or.inl ⟨by rfl, ?_⟩) (by assumption) ?_
      rotate_left
      · (intro w hSw; (try dsimp only at hSw); first | (go_simp; done) | (go_simp; with_reducible rfl))
      simp only [Act.put, List.getElem_toArray, List.getElem_cons_zero, List.getElem_cons_succ, List.setIfInBounds_toArray, List.set_cons_zero, List.set_cons_succ]
      refine wpAnyH_take (i := 16) (v := ?_) rfl (by kernel_rfl) (by kernel_rfl) (by kernel_rfl) (fun _ _ _ h => h) (Or.inl ⟨by rfl, ?_⟩) (by assumption) ?_
      rotate_left
      · (intro w hSw; (try dsimp only at hSw); first | (go_simp; done) | (go_simp; with_reducible rfl))
      simp only [Act.put, List.getElem_toArray, List.getElem_cons_zero, List.getElem_cons_succ, List.setIfInBounds_toArray, List.set_cons_zero, List.set_cons_succ]
      refine wpAnyH_take (i := 17) (v := ?_) rfl (by kernel_rfl) (by kernel_rfl) (by kernel_rfl) (fun _ _ _ h => h) (Or.inl ⟨by rfl, ?_⟩) (by assumption) ?_
      rotate_left
      · (intro w hSw; (try dsimp only at hSw); first | (go_simp; done) | (go_simp; with_reducible rfl))
      simp only [Act.put, List.getElem_toArray, List.getElem_cons_zero, List.getElem_cons_succ, List.setIfInBounds_toArray, List.set_cons_zero, List.set_cons_succ]
      refine wpAnyH_take (i := 18) (v := ?_) rfl (by kernel_rfl) (by kernel_rfl) (by kernel_rfl) (fun _ _ _ h => h) (Or.inl ⟨by rfl, ?_⟩) (by assumption) ?_
      rotate_left
      · (intro w hSw; (try dsimp only at hSw); first | (go_simp; done) | (go_simp; with_reducible rfl))
      simp only [Act.put, List.getElem_toArray, List.getElem_cons_zero, List.getElem_cons_succ, List.setIfInBounds_toArray, List.set_cons_zero, List.set_cons_succ]
      refine wpAnyH_take (i := 19) (v := ?_) rfl (by kernel_rfl) (by kernel_rfl) (by kernel_rfl) (fun _ _ _ h => h) (Or.inl ⟨by rfl, ?_⟩) (by assumption) ?_
      rotate_left
      · (intro w hSw; (try dsimp only at hSw); first | (go_simp; done) | (go_simp; with_reducible rfl))
      simp only [Act.put, List.getElem_toArray, List.getElem_cons_zero, List.getElem_cons_succ, List.setIfInBounds_toArray, List.set_cons_zero, List.set_cons_succ]
      refine wpAnyH_ready (rs := [15]) (by kernel_rfl) (by simp) ?_
      refine AllReadyH.cons rfl (fun K hK => ?_) AllReadyH.nil
      go_simp
      refine (AD.out _ PE.out.qs).mono ?_
      rintro e w6 ⟨rfl, rfl⟩
      refine hK.out _ _ ⟨IE.out.cell 0, XE.out.cell 0, PE.out.st.blk.cell 1, PE.out.st.blk.cell 0, e0, e1, e2⟩ (fun hH3 => ?_)
      clear hK K hH2
      refine wpAnyH_take (i := 20) (v := ?_) rfl (by kernel_rfl) (by kernel_rfl) (by kernel_rfl) (fun _ _ _ h => h) (Or.inl ⟨by rfl, ?_⟩) (by assumption) ?_
      rotate_left
      · (intro w hSw; (try dsimp only at hSw); first | (go_simp; done) | (go_simp; with_reducible rfl))
      simp only [Act.put, List.getElem_toArray, List.getElem_cons_zero, List.getElem_cons_succ, List.setIfInBounds_toArray, List.set_cons_zero, List.set_cons_succ]
      refine wpAnyH_take (i := 21) (v := ?_) rfl (by kernel_rfl) (by kernel_rfl) (by kernel_rfl) (fun _ _ _ h => h) (Or.inl ⟨by rfl, ?_⟩) (by assumption) ?_
      rotate_left
      · (intro w hSw; (try dsimp only at hSw); first | (go_simp; done) | (go_simp; with_reducible rfl))
      simp only [Act.put, List.getElem_toArray, List.getElem_cons_zero, List.getElem_cons_succ, List.setIfInBounds_toArray, List.set_cons_zero, List.set_cons_succ]
      refine wpAnyH_take (i := 22) (v := ?_) rfl (by kernel_rfl) (by kernel_rfl) (by kernel_rfl) (fun _ _ _ h => h) (Or.inl ⟨by rfl, ?_⟩) (by assumption) ?_
      rotate_left
      · (intro w hSw; (try dsimp only at hSw); first | (go_simp; done) | (go_simp; with_reducible rfl))
      simp only [Act.put, List.getElem_toArray, List.getElem_cons_zero, List.getElem_cons_succ, List.setIfInBounds_toArray, List.set_cons_zero, List.set_cons_succ]
      refine wpAnyH_take (i := 23) (v := ?_) rfl (by kernel_rfl) (by kernel_rfl) (by kernel_rfl) (fun _ _ _ h => h) (Or.inl ⟨by rfl, ?_⟩) (by assumption) ?_
      rotate_left
      · (intro w hSw; (try dsimp only at hSw); first | (go_simp; done) | (go_simp; with_reducible rfl))
      simp only [Act.put, List.getElem_toArray, List.getElem_cons_zero, List.getElem_cons_succ, List.setIfInBounds_toArray, List.set_cons_zero, List.set_cons_succ]
      refine wpAnyH_take (i := 24) (v := ?_) rfl (by kernel_rfl) (by kernel_rfl) (by kernel_rfl) (fun _ _ _ h => h) (Or.inl ⟨by rfl, ?_⟩) (by assumption) ?_
      rotate_left
      · (intro w hSw; (try dsimp only at hSw); first | (go_simp; done) | (go_simp; with_reducible rfl))
      simp only [Act.put, List.getElem_toArray, List.getElem_cons_zero, List.getElem_cons_succ, List.setIfInBounds_toArray, List.set_cons_zero, List.set_cons_succ]
      refine wpAnyH_take (i := 25) (v := ?_) rfl (by kernel_rfl) (by kernel_rfl) (by kernel_rfl) (fun _ _ _ h => h) (Or.inl ⟨by rfl, ?_⟩) (by assumption) ?_
      rotate_left
      · (intro w hSw; (try dsimp only at hSw); first | (go_simp; done) | (go_simp; with_reducible rfl))
      simp only [Act.put, List.getElem_toArray, List.getElem_cons_zero, List.getElem_cons_succ, List.setIfInBounds_toArray, List.set_cons_zero, List.set_cons_succ]
      refine wpAnyH_take (i := 26) (v := ?_) rfl (by kernel_rfl) (by kernel_rfl) (by kernel_rfl) (fun _ _ _ h => h) (Or.inl ⟨by rfl, ?_⟩) (by assumption) ?_
      rotate_left
      · (intro w hSw; (try dsimp only at hSw); first | (go_simp; done) | (go_simp; with_reducible rfl))
      simp only [Act.put, List.getElem_toArray, List.getElem_cons_zero, List.getElem_cons_succ, List.setIfInBounds_toArray, List.set_cons_zero, List.set_cons_succ]
      refine wpAnyH_take (i := 27) (v := ?_) rfl (by kernel_rfl) (by kernel_rfl) (by kernel_rfl) (fun _ _ _ h => h) (Or.inl ⟨by rfl, ?_⟩) (by assumption) ?_
      rotate_left
      · (intro w hSw; (try dsimp only at hSw); first | (go_simp; done) | (go_simp; with_reducible rfl))
      simp only [Act.put, List.getElem_toArray, List.getElem_cons_zero, List.getElem_cons_succ, List.setIfInBounds_toArray, List.set_cons_zero, List.set_cons_succ]
      refine wpAnyH_take (i := 28) (v := ?_) rfl (by kernel_rfl) (by kernel_rfl) (by kernel_rfl) (fun _ _ _ h => h) (Or.inl ⟨by rfl, ?_⟩) (by assumption) ?_
      rotate_left
      · (intro w hSw; (try dsimp only at hSw); first | (go_simp; done) | (go_simp; with_reducible rfl))
      simp only [Act.put, List.getElem_toArray, List.getElem_cons_zero, List.getElem_cons_succ, List.setIfInBounds_toArray, List.set_cons_zero, List.set_cons_succ]
      refine wpAnyH_take (i := 29) (v := ?_) rfl (by kernel_rfl) (by kernel_rfl) (by kernel_rfl) (fun _ _ _ h => h) (Or.inl ⟨by rfl, ?_⟩) (by assumption) ?_
      rotate_left
      · (intro w hSw; (try dsimp only at hSw); first | (go_simp; done) | (go_simp; with_reducible rfl))
      simp only [Act.put, List.getElem_toArray, List.getElem_cons_zero, List.getElem_cons_succ, List.setIfInBounds_toArray, List.set_cons_zero, List.set_cons_succ]
      refine wpAnyH_take (i := 30) (v := ?_) rfl (by kernel_rfl) (by kernel_rfl) (by kernel_rfl) (fun _ _ _ h => h) (Or.inl ⟨by rfl, ?_⟩) (by assumption) ?_
      rotate_left
      · (intro w hSw; (try dsimp only at hSw); first | (go_simp; done) | (go_simp; with_reducible rfl))
      simp only [Act.put, List.getElem_toArray, List.getElem_cons_zero, List.getElem_cons_succ, List.setIfInBounds_toArray, List.set_cons_zero, List.set_cons_succ]
      refine wpAnyH_take (i := 31) (v := ?_) rfl (by kernel_rfl) (by kernel_rfl) (by kernel_rfl) (fun _ _ _ h => h) (Or.inl ⟨by rfl, ?_⟩) (by assumption) ?_
      rotate_left
      · (intro w hSw; (try dsimp only at hSw); first | (go_simp; done) | (go_simp; with_reducible rfl))
      simp only [Act.put, List.getElem_toArray, List.getElem_cons_zero, List.getElem_cons_succ, List.setIfInBounds_toArray, List.set_cons_zero, List.set_cons_succ]
      refine wpAnyH_take (i := 32) (v := ?_) rfl (by kernel_rfl) (by kernel_rfl) (by kernel_rfl) (fun _ _ _ h => h) (Or.inl ⟨by rfl, ?_⟩) (by assumption) ?_
      rotate_left
      · (intro w hSw; (try dsimp only at hSw); first | (go_simp; done) | (go_simp; with_reducible rfl))
      simp only [Act.put, List.getElem_toArray, List.getElem_cons_zero, List.getElem_cons_succ, List.setIfInBounds_toArray, List.set_cons_zero, List.set_cons_succ]
      refine wpAnyH_take (i := 33) (v := ?_) rfl (by kernel_rfl) (by kernel_rfl) (by kernel_rfl) (fun _ _ _ h => h) (Or.inl ⟨by rfl, ?_⟩) (by assumption) ?_
      rotate_left
      · (intro w hSw; (try dsimp only at hSw); first | (go_simp; done) | (go_simp; with_reducible rfl))
      simp only [Act.put, List.getElem_toArray, List.getElem_cons_zero, List.getElem_cons_succ, List.setIfInBounds_toArray, List.set_cons_zero, List.set_cons_succ]
      refine wpAnyH_take (i := 34) (v := ?_) rfl (by kernel_rfl) (by kernel_rfl) (by kernel_rfl) (fun _ _ _ h => h) (Or.inl ⟨by rfl, ?_⟩) (by assumption) ?_
      rotate_left
      · (intro w hSw; (try dsimp only at hSw); first | (go_simp; done) | (go_simp; with_reducible rfl))
      simp only [Act.put, List.getElem_toArray, List.getElem_cons_zero, List.getElem_cons_succ, List.setIfInBounds_toArray, List.set_cons_zero, List.set_cons_succ]
      refine wpAnyH_take (i := 35) (v := ?_) rfl (by kernel_rfl) (by kernel_rfl) (by kernel_rfl) (fun _ _ _ h => h) (Or.inl ⟨by rfl, ?_⟩) (by assumption) ?_
      rotate_left
      · (intro w hSw; (try dsimp only at hSw); first | (go_simp; done) | (go_simp; with_reducible rfl))
      simp only [Act.put, List.getElem_toArray, List.getElem_cons_zero, List.getElem_cons_succ, List.setIfInBounds_toArray, List.set_cons_zero, List.set_cons_succ]
      refine wpAnyH_take (i := 36) (v := ?_) rfl (by kernel_rfl) (by kernel_rfl) (by kernel_rfl) (fun _ _ _ h => h) (Or.inl ⟨by rfl, ?_⟩) (by assumption) ?_
      rotate_left
      · (intro w hSw; (try dsimp only at hSw); first | (go_simp; done) | (go_simp; with_reducible rfl))
      simp only [Act.put, List.getElem_toArray, List.getElem_cons_zero, List.getElem_cons_succ, List.setIfInBounds_toArray, List.set_cons_zero, List.set_cons_succ]
      refine wpAnyH_take (i := 37) (v := ?_) rfl (by kernel_rfl) (by kernel_rfl) (by kernel_rfl) (fun _ _ _ h => h) (Or.inl ⟨by rfl, ?_⟩) (by assumption) ?_
      rotate_left
      · (intro w hSw; (try dsimp only at hSw); first | (go_simp; done) | (go_simp; with_reducible rfl))
      simp only [Act.put, List.getElem_toArray, List.getElem_cons_zero, List.getElem_cons_succ, List.setIfInBounds_toArray, List.set_cons_zero, List.set_cons_succ]
      refine wpAnyH_take (i := 38) (v := ?_) rfl (by kernel_rfl) (by kernel_rfl) (by kernel_rfl) (fun _ _ _ h => h) (Or.inl ⟨by rfl, ?_⟩) (by assumption) ?_
      rotate_left
      · (intro w hSw; (try dsimp only at hSw); first | (go_simp; done) | (go_simp; with_reducible rfl))
      simp only [Act.put, List.getElem_toArray, List.getElem_cons_zero, List.getElem_cons_succ, List.setIfInBounds_toArray, List.set_cons_zero, List.set_cons_succ]
      refine wpAnyH_take (i := 39) (v := ?_) rfl (by kernel_rfl) (by kernel_rfl) (by kernel_rfl) (fun _ _ _ h => h) (Or.inl ⟨by rfl, ?_⟩) (by assumption) ?_
      rotate_left
      · (intro w hSw; (try dsimp only at hSw); first | (go_simp; done) | (go_simp; with_reducible rfl))
      simp only [Act.put, List.getElem_toArray, List.getElem_cons_zero, List.getElem_cons_succ, List.setIfInBounds_toArray, List.set_cons_zero, List.set_cons_succ]
      refine wpAnyH_take (i := 40) (v := ?_) rfl (by kernel_rfl) (by kernel_rfl) (by kernel_rfl) (fun _ _ _ h => h) (Or.inl ⟨by rfl, ?_⟩) (by assumption) ?_
      rotate_left
      · (intro w hSw; (try dsimp only at hSw); first | (go_simp; done) | (go_simp; with_reducible rfl))
      simp only [Act.put, List.getElem_toArray, List.getElem_cons_zero, List.getElem_cons_succ, List.setIfInBounds_toArray, List.set_cons_zero, List.set_cons_succ]
      refine wpAnyH_take (i := 41) (v := ?_) rfl (by kernel_rfl) (by kernel_rfl) (by kernel_rfl) (fun _ _ _ h => h) (Or.inl ⟨by rfl, ?_⟩) (by assumption) ?_
      rotate_left
      · (intro w hSw; (try dsimp only at hSw); first | (go_simp; done) | (go_simp; with_reducible rfl))
      simp only [Act.put, List.getElem_toArray, List.getElem_cons_zero, List.getElem_cons_succ, List.setIfInBounds_toArray, List.set_cons_zero, List.set_cons_succ]
      refine wpAnyH_take (i := 42) (v := ?_) rfl (by kernel_rfl) (by kernel_rfl) (by kernel_rfl) (fun _ _ _ h => h) (Or.inl ⟨by rfl, ?_⟩) (by assumption) ?_
      rotate_left
      · (intro w hSw; (try dsimp only at hSw); first | (go_simp; done) | (go_simp; with_reducible rfl))
      simp only [Act.put, List.getElem_toArray, List.getElem_cons_zero, List.getElem_cons_succ, List.setIfInBounds_toArray, List.set_cons_zero, List.set_cons_succ]
      refine wpAnyH_take (i := 43) (v := ?_) rfl (by kernel_rfl) (by kernel_rfl) (by kernel_rfl) (fun _ _ _ h => h) (Or.inl ⟨by rfl, ?_⟩) (by assumption) ?_
      rotate_left
      · (intro w hSw; (try dsimp only at hSw); first | (go_simp; done) | (go_simp; with_reducible rfl))
      simp only [Act.put, List.getElem_toArray, List.getElem_cons_zero, List.getElem_cons_succ, List.setIfInBounds_toArray, List.set_cons_zero, List.set_cons_succ]
      refine wpAnyH_take (i := 44) (v := ?_) rfl (by kernel_rfl) (by kernel_rfl) (by kernel_rfl) (fun _ _ _ h => h) (Or.inl ⟨by rfl, ?_⟩) (by assumption) ?_
      rotate_left
      · (intro w hSw; (try dsimp only at hSw); first | (go_simp; done) | (go_simp; with_reducible rfl))
      simp only [Act.put, List.getElem_toArray, List.getElem_cons_zero, List.getElem_cons_succ, List.setIfInBounds_toArray, List.set_cons_zero, List.set_cons_succ]
      refine wpAnyH_take (i := 45) (v := ?_) rfl (by kernel_rfl) (by kernel_rfl) (by kernel_rfl) (fun _ _ _ h => h) (Or.inl ⟨by rfl, ?_⟩) (by assumption) ?_
      rotate_left
      · (intro w hSw; (try dsimp only at hSw); first | (go_simp; done) | (go_simp; with_reducible rfl))
      simp only [Act.put, List.getElem_toArray, List.getElem_cons_zero, List.getElem_cons_succ, List.setIfInBounds_toArray, List.set_cons_zero, List.set_cons_succ]
      refine wpAnyH_take (i := 46) (v := ?_) rfl (by kernel_rfl) (by kernel_rfl) (by kernel_rfl) (fun _ _ _ h => h) (Or.inl ⟨by rfl, ?_⟩) (by assumption) ?_
      rotate_left
      · (intro w hSw; (try dsimp only at hSw); first | (go_simp; done) | (go_simp; with_reducible rfl))
      simp only [Act.put, List.getElem_toArray, List.getElem_cons_zero, List.getElem_cons_succ, List.setIfInBounds_toArray, List.set_cons_zero, List.set_cons_succ]
      refine wpAnyH_take (i := 47) (v := ?_) rfl (by kernel_rfl) (by kernel_rfl) (by kernel_rfl) (fun _ _ _ h => h) (Or.inl ⟨by rfl, ?_⟩) (by assumption) ?_
      rotate_left
      · (intro w hSw; (try dsimp only at hSw); first | (go_simp; done) | (go_simp; with_reducible rfl))
      simp only [Act.put, List.getElem_toArray, List.getElem_cons_zero, List.getElem_cons_succ, List.setIfInBounds_toArray, List.set_cons_zero, List.set_cons_succ]
      refine wpAnyH_take (i := 48) (v := ?_) rfl (by kernel_rfl) (by kernel_rfl) (by kernel_rfl) (fun _ _ _ h => h) (Or.inl ⟨by rfl, ?_⟩) (by assumption) ?_
      rotate_left
      · (intro w hSw; (try dsimp only at hSw); first | (go_simp; done) | (go_simp; with_reducible rfl))
      simp only [Act.put, List.getElem_toArray, List.getElem_cons_zero, List.getElem_cons_succ, List.setIfInBounds_toArray, List.set_cons_zero, List.set_cons_succ]
      refine wpAnyH_take (i := 49) (v := ?_) rfl (by kernel_rfl) (by kernel_rfl) (by kernel_rfl) (fun _ _ _ h => h) (Or.inl ⟨by rfl, ?_⟩) (by assumption) ?_
      rotate_left
      · (intro w hSw; (try dsimp only at hSw); first | (go_simp; done) | (go_simp; with_reducible rfl))
      simp only [Act.put, List.getElem_toArray, List.getElem_cons_zero, List.getElem_cons_succ, List.setIfInBounds_toArray, List.set_cons_zero, List.set_cons_succ]
      refine wpAnyH_take (i := 50) (v := ?_) rfl (by kernel_rfl) (by kernel_rfl) (by kernel_rfl) (fun _ _ _ h => h) (Or.inl ⟨by rfl, ?_⟩) (by assumption) ?_
      rotate_left
      · (intro w hSw; (try dsimp only at hSw); first | (go_simp; done) | (go_simp; with_reducible rfl))
      simp only [Act.put, List.getElem_toArray, List.getElem_cons_zero, List.getElem_cons_succ, List.setIfInBounds_toArray, List.set_cons_zero, List.set_cons_succ]
      refine wpAnyH_take (i := 51) (v := ?_) rfl (by kernel_rfl) (by kernel_rfl) (by kernel_rfl) (fun _ _ _ h => h) (Or.inl ⟨by rfl, ?_⟩) (by assumption) ?_
      rotate_left
      · (intro w hSw; (try dsimp only at hSw); first | (go_simp; done) | (go_simp; with_reducible rfl))
      simp only [Act.put, List.getElem_toArray, List.getElem_cons_zero, List.getElem_cons_succ, List.setIfInBounds_toArray, List.set_cons_zero, List.set_cons_succ]
      refine wpAnyH_take (i := 52) (v := ?_) rfl (by kernel_rfl) (by kernel_rfl) (by kernel_rfl) (fun _ _ _ h => h) (Or.inl ⟨by rfl, ?_⟩) (by assumption) ?_
      rotate_left
      · (intro w hSw; (try dsimp only at hSw); first | (go_simp; done) | (go_simp; with_reducible rfl))
      simp only [Act.put, List.getElem_toArray, List.getElem_cons_zero, List.getElem_cons_succ, List.setIfInBounds_toArray, List.set_cons_zero, List.set_cons_succ]
      refine wpAnyH_take (i := 53) (v := ?_) rfl (by kernel_rfl) (by kernel_rfl) (by kernel_rfl) (fun _ _ _ h => h) (Or.inl ⟨by rfl, ?_⟩) (by assumption) ?_
      rotate_left
      · (intro w hSw; (try dsimp only at hSw); first | (go_simp; done) | (go_simp; with_reducible rfl))
      simp only [Act.put, List.getElem_toArray, List.getElem_cons_zero, List.getElem_cons_succ, List.setIfInBounds_toArray, List.set_cons_zero, List.set_cons_succ]
      refine wpAnyH_take (i := 54) (v := ?_) rfl (by kernel_rfl) (by kernel_rfl) (by kernel_rfl) (fun _ _ _ h => h) (Or.inl ⟨by rfl, ?_⟩) (by assumption) ?_
      rotate_left
      · (intro w hSw; (try dsimp only at hSw); first | (go_simp; done) | (go_simp; with_reducible rfl))
      simp only [Act.put, List.getElem_toArray, List.getElem_cons_zero, List.getElem_cons_succ, List.setIfInBounds_toArray, List.set_cons_zero, List.set_cons_succ]
      refine wpAnyH_take (i := 55) (v := ?_) rfl (by kernel_rfl) (by kernel_rfl) (by kernel_rfl) (fun _ _ _ h => h) (Or.inl ⟨by rfl, ?_⟩) (by assumption) ?_
      rotate_left
      · (intro w hSw; (try dsimp only at hSw); first | (go_simp; done) | (go_simp; with_reducible rfl))
      simp only [Act.put, List.getElem_toArray, List.getElem_cons_zero, List.getElem_cons_succ, List.setIfInBounds_toArray, List.set_cons_zero, List.set_cons_succ]
      refine wpAnyH_take (i := 56) (v := ?_) rfl (by kernel_rfl) (by kernel_rfl) (by kernel_rfl) (fun _ _ _ h => h) (Or.inl ⟨by rfl, ?_⟩) (by assumption) ?_
      rotate_left
      · (intro w hSw; (try dsimp only at hSw); first | (go_simp; done) | (go_simp; with_reducible rfl))
      simp only [Act.put, List.getElem_toArray, List.getElem_cons_zero, List.getElem_cons_succ, List.setIfInBounds_toArray, List.set_cons_zero, List.set_cons_succ]
      refine wpAnyH_take (i := 57) (v := ?_) rfl (by kernel_rfl) (by kernel_rfl) (by kernel_rfl) (fun _ _ _ h => h) (Or.inl ⟨by rfl, ?_⟩) (by assumption) ?_
      rotate_left
      · (intro w hSw; (try dsimp only at hSw); first | (go_simp; done) | (go_simp; with_reducible rfl))
      simp only [Act.put, List.getElem_toArray, List.getElem_cons_zero, List.getElem_cons_succ, List.setIfInBounds_toArray, List.set_cons_zero, List.set_cons_succ]
      refine wpAnyH_take (i := 58) (v := ?_) rfl (by kernel_rfl) (by kernel_rfl) (by kernel_rfl) (fun _ _ _ h => h) (Or.inl ⟨by rfl, ?_⟩) (by assumption) ?_
      rotate_left
      · (intro w hSw; (try dsimp only at hSw); first | (go_simp; done) | (go_simp; with_reducible rfl))
      simp only [Act.put, List.getElem_toArray, List.getElem_cons_zero, List.getElem_cons_succ, List.setIfInBounds_toArray, List.set_cons_zero, List.set_cons_succ]
      have d0 := RB.out.cell 0
      have d1 := RB.out.free 0
      have C9 := Lib.hid ((RB.out.put 0 (.bool true)).cell 0)
      have B9 := Lib.hid (BE.out.setCell (p := ⟨w.heap.size + 1, 0, none⟩) (by show w.heap.size ≤ w.heap.size + 1; omega) (.bool true))
      have KD := Lib.hid ((Below.heap_setCell W5 ⟨w.heap.size + 1, 0, none⟩ (.bool true) w4.heap.size (by show w4.heap.size ≠ w.heap.size + 1; have := Z4.out; omega)).trans KE.out)
      have I9 := Lib.hid (IE.out.far (p := ⟨w.heap.size + 1, 0, none⟩) (by show w.heap.size + 1 + 1 ≠ w.heap.size + 1; omega) (.bool true))
      have X9 := Lib.hid (XE.out.far (p := ⟨w.heap.size + 1, 0, none⟩) (by show w.heap.size ≠ w.heap.size + 1; omega) (.bool true))
      have P9 := Lib.hid (PE.out.st.keep (w' := W5.setCell ⟨w.heap.size + 1, 0, none⟩ (.bool true)) (fun j hj => Below.heap_setCell W5 _ _ _ (by have := PP.out.st.lt hj; show j ≠ w.heap.size + 1; omega)))
      have E0 := Lib.hid ((World.cell?_setCell_far W5 ⟨w.heap.size + 1, 0, none⟩ ⟨bb, off, none⟩ (.bool true) (by have := (show bb < w.heap.size by obtain ⟨b', off', e, hl⟩ := LB.out; injection e with e; injection e with e1 e2; rw [e1]; exact hl); show w.heap.size + 1 ≠ bb; omega)).trans e0)
      have E1 := Lib.hid ((World.cell?_setCell_far W5 ⟨w.heap.size + 1, 0, none⟩ ⟨bb, off + 1, none⟩ (.bool true) (by have := (show bb < w.heap.size by obtain ⟨b', off', e, hl⟩ := LB.out; injection e with e; injection e with e1 e2; rw [e1]; exact hl); show w.heap.size + 1 ≠ bb; omega)).trans e1)
      have E2 := Lib.hid ((World.cell?_setCell_far W5 ⟨w.heap.size + 1, 0, none⟩ ⟨bb, off + 2, none⟩ (.bool true) (by have := (show bb < w.heap.size by obtain ⟨b', off', e, hl⟩ := LB.out; injection e with e; injection e with e1 e2; rw [e1]; exact hl); show w.heap.size + 1 ≠ bb; omega)).trans e2)
      refine wpAnyH_ready (rs := [59]) (by kernel_rfl) (by simp) ?_
      refine AllReadyH.cons rfl (fun K hK => ?_) AllReadyH.nil
      go_simp
      generalize W5.setCell ⟨w.heap.size + 1, 0, none⟩ (.bool true) = W9 at *
      refine hK.out _ _ ⟨I9.out.cell 0, X9.out.cell 0, P9.out.blk.cell 1, P9.out.blk.cell 0, E0.out, E1.out, E2.out⟩ (fun hH4 => ?_)
      clear hK K hH3 d0 d1
      refine wpAnyH_done (by kernel_rfl) ?_ _
      clear hH4
      go_wp2_with fail
      refine ⟨by simp, .inl ⟨_, _, rfl, run_takeDeferred KD.out, ?_⟩⟩
      have hc9 := cell_kept C9.out (grownBy_putObj' _ w4.heap.size (.deferred none)) (fun r e => by cases e; exact ⟨_, KD.out, rfl⟩)
      refine ⟨.bool true, ?_, rfl, B9.out.trans (belowK_b (w := w) (Nat.le_refl _) _ w4.heap.size _ _ (by have := Z4.out; omega) KD.out rfl rfl)⟩
      generalize W9.putObj w4.heap.size (.deferred none) = w10 at hc9 ⊢
      simp [results, Try.f11, go_sem, hc9]
  case stop =>
    intro c' W0 W h
    exact h.elim
theorem same_any (P : Pair F w q sb vl M ad B) (had : ad ≤ 99000) :
    Calls Try.prog 11 #[.pointer (some ⟨sb, 0, none⟩), .pointer (some ⟨q, 0, none⟩)] w fun e w' => e = .returned (.bool true) ∧ Below w.heap.size w w' := by
  obtain ⟨A, c, rfl, -⟩ := P.open_
  exact same_at P had
end Go.Proofs.Ytmfhellpdpfoaaa.qu
