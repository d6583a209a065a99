/-
  Accounts out of rows: Restore.
-/
import Derived.Test.YtkpnlcllmgobkaaFkR
namespace Go.Proofs.Ytkpnlcllmgobkaa.fk
open Go.RowKit
open base (ret_bool ret_int made up Blk Only Nums)
open rk mk
set_option linter.unusedVariables false
set_option linter.unusedSimpArgs false
variable {B C g b gx : Nat} {w w1 w2 w' : World} {L : List FR} {h : Int}

theorem FAt.fresh {t : Int} (H : FAt w B g b L h t) (o : Obj) : w.heap.size < (w.alloc o).heap.size ∧ w.heap.size ≠ g ∧ w.heap.size ≠ b ∧ ∀ v, (w.alloc o).cell? ⟨g, 0, none⟩ = some v → v.ownBlock ≠ some w.heap.size := by
  obtain ⟨v, h1, h2⟩ := H.ex
  have hg := h1.lt
  have hb := MapIs.lt H.map
  refine ⟨by rw [asz]; omega, by omega, by omega, fun u hu e => ?_⟩
  rw [(h1.alloc o).cell 0] at hu
  injection hu with hu
  subst hu
  have := (h2.lt' _ e).2.1
  omega
theorem set_last2 (L : List FR) (d : FR) (k : Nat) (hk : L.length = k) (hl : k < (L ++ [(d.1, (0 : Int))]).length) : (L ++ [(d.1, 0)]).set k ((L ++ [(d.1, 0)])[k].1, d.2) = L ++ [d] := by
  subst hk
  exact set_last L d hl
def Rsd (w : World) (D : List FR) (held : Int) (q : Bool) (e : Ending) (w' : World) : Prop :=
  (q = true → ∃ g b, e = .returned (.tuple #[.pointer (some ⟨g, 0, none⟩), .bool true]) ∧ FAt w' w.heap.size g b D held (tt (D, held))) ∧ (q = false → e = .returned (.tuple #[.pointer none, .bool false])) ∧ Below w.heap.size w w'
theorem Rsd.no {w w' : World} {D : List FR} {held : Int} {e : Ending} (he : e = .returned (.tuple #[.pointer none, .bool false])) (hb : Below w.heap.size w w') : Rsd w D held false e w' := ⟨fun h => (by cases h), fun _ => he, hb⟩
set_option maxRecDepth 100000 in
set_option maxHeartbeats 8000000 in
theorem restore_any (A : Option Addr) (c : Nat) (D : List FR) (held : Int) (w : World) (hA : Lay EF w A D) (hl : D.length ≤ 256) (hs : ∀ d, d ∈ D → d.1.size ≤ maxLen) (q : Bool) (hq : q = true ↔ Gd (D, held)) :
    Calls Try.prog 16 #[.slice A D.length c, .int .i64 held] w (Rsd w D held q) := by
  have NW := Lib.hid (new_ex w)
  have HA := Lib.hid hA
  have HS := Lib.hid hs
  have HQ := Lib.hid hq
  clear hA hs hq
  go_enter Try.func16, Try.ntmps16
  go_wp2_with fail
  refine NW.out.mono ?_
  rintro e w1 ⟨g, b, rfl, h1, b1⟩
  have hm := made w1 (.cells #[.int .i64 held] 3)
  have H2 := Lib.hid (h1.below hm)
  have O2 := Lib.hid (own_one (w := w1) b1.size held)
  have B2 := Lib.hid (up b1 hm b1.size)
  clear h1 b1 hm NW
  go_upto_region 3 with fail
  generalize w1.alloc (.cells #[.int .i64 held] 3) = w2 at *
  go_wp2_with fail
  go_loopw [7, 19] (fun a i wr => ∃ (k : Nat) (W : World), W = wr ∧ k ≤ D.length ∧ i = .int .i64 k ∧ FAt wr w.heap.size g b (D.take k) 0 0 ∧ rk.Own EI wr w.heap.size 3 a (zsG held (D.take k)) ∧ NmOk (D.take k) ∧ Below w.heap.size w wr) (fun _ i _ => D.length - (intOf i).toNat)
  case atStart => exact ⟨0, _, rfl, by omega, rfl, H2.out, O2.out, NmOk.nil, B2.out⟩
  case round =>
  obtain ⟨k, w3, rfl, hk, rfl, hf, ho, hn, hb3⟩ := hrel
  have F3 := Lib.hid hf
  have O3 := Lib.hid ho
  have N3 := Lib.hid hn
  have B3 := Lib.hid hb3
  clear hf ho hn
  by_cases hkl : k < D.length
  · obtain ⟨b0, off, rfl, e0, e1⟩ := layF (HA.out.below hb3) hkl
    have TK := Lib.hid (List.take_succ_eq_append_getElem hkl)
    have TL := Lib.hid (show (D.take k).length = k by rw [List.length_take]; omega)
    have BD := Lib.hid (fun i => NmOk.bad (i := i) hkl)
    have OKK := Lib.hid (fun (G : Gd (D, held)) => G.ok D[k] (List.getElem_mem hkl))
    have SZ := Lib.hid (HS.out D[k] (List.getElem_mem hkl))
    have SL := Lib.hid (set_last2 (D.take k) D[k] k TL.out (by rw [List.length_append, TL.out]; simp))
    have NX := Lib.hid (fun (h1 : okN D[k].1 = true) (h2 : nu (D.take k) D[k].1 = none) => NmOk.snoc (d := D[k]) N3.out h1 h2)
    have ZZ := Lib.hid (show zsG held (D.take k) ++ [D[k].2] = zsG held (D.take k ++ [D[k]]) by simp only [zsG, List.map_append, List.map_cons, List.map_nil, List.cons_append])
    generalize D[k] = d at *
    obtain ⟨d0, d1⟩ := d
    dsimp only at *
    have hm := made w3 (.cells #[.string d0, .int .i64 d1] 52)
    have B4 := Lib.hid (up hb3 hm hb3.size)
    have F4 := Lib.hid (F3.out.below hm)
    have O4 := Lib.hid (O3.out.below hm)
    have BR := Lib.hid (Blk.new w3 52 #[.string d0, .int .i64 d1])
    have KP := Lib.hid (F3.out.fresh (.cells #[.string d0, .int .i64 d1] 52))
    clear hm hb3
    go_upto_region 6 with fail
    generalize w3.alloc (.cells #[.string d0, .int .i64 d1] 52) = w4 at *
    generalize w3.heap.size = gr at *
    clear e0 e1
    have r0 := BR.out.cell 0
    have AD := Lib.hid (addK_any (s := d0) (by rw [TL.out]; omega) SZ.out B4.out.size F4.out)
    cases hok : okN d0 with
    | false =>
      rw [add_name hok] at AD
      have e : q = false := by
        cases q with
        | false => rfl
        | true =>
          have := OKK.out (HQ.out.1 rfl)
          rw [hok] at this
          cases this
      subst e
      clear HQ hok
      go_wp2_with fail
      refine AD.out.mono ?_
      rintro e w5 ⟨rfl, f5, c5, kp5⟩
      have B5 := Lib.hid (B4.out.trans (c5.to B4.out.size))
      clear f5 c5 AD kp5
      go_wp2_with fail
      go_ret2
      exact Rsd.no rfl B5.out
    | true =>
    cases hnu : nu (D.take k) d0 with
    | some i =>
      rw [add_twice hok (by rw [hnu]; rfl)] at AD
      have e : q = false := by
        cases q with
        | false => rfl
        | true => exact absurd (Gd.nm (HQ.out.1 rfl)) (BD.out i hnu)
      subst e
      clear HQ hok hnu
      go_wp2_with fail
      refine AD.out.mono ?_
      rintro e w5 ⟨rfl, f5, c5, kp5⟩
      have B5 := Lib.hid (B4.out.trans (c5.to B4.out.size))
      clear f5 c5 AD kp5
      go_wp2_with fail
      go_ret2
      exact Rsd.no rfl B5.out
    | none =>
    rw [add_yes hok hnu (by rw [TL.out]; omega)] at AD
    have N4 := Lib.hid (NX.out hok hnu)
    rw [← TK.out] at N4
    have LK := Lib.hid (show (D.take k ++ [(d0, (0 : Int))]).length = k + 1 by rw [List.length_append, TL.out]; rfl)
    clear hok hnu
    dsimp only at AD
    rw [TL.out] at AD
    go_wp2_with fail
    refine AD.out.mono ?_
    rintro e w5 ⟨rfl, f5, c5, kp5⟩
    have B5 := Lib.hid (B4.out.trans (c5.to B4.out.size))
    have O5 := Lib.hid (show rk.Own EI w5 w.heap.size 3 _ _ from Chg.own c5 O4.out (fun _ => rfl))
    obtain ⟨k5a, k5b⟩ := kp5 gr KP.out.1 KP.out.2.1 KP.out.2.2.1 KP.out.2.2.2
    have BR5 := Lib.hid (show Blk w5 gr 52 _ from k5a.trans BR.out)
    have F6 := f5.below (drewB w5)
    obtain ⟨g5, c5', hb5, hc5, fz5, hle5, hmx5, hne5, hput⟩ := F6.put (m := k) (by rw [LK.out]; omega)
    rw [LK.out] at hb5 hle5
    have hgr : g5 ≠ gr := fun e => k5b _ (hb5.cell 0) (by rw [e]; rfl)
    have PU := Lib.hid (hput d1)
    rw [SL.out, ← TK.out] at PU
    have O6 := Lib.hid (O5.out.below (drewB w5))
    have BR6 := Lib.hid (BR5.out.below (drewB w5) BR5.out.lt)
    have B6 := Lib.hid (B5.out.drew)
    have SA := Lib.hid (show w5.drew.cell? ⟨g, 0, none⟩ = some (.slice (some ⟨g5, 0, none⟩) (k + 1) c5') ∧ w5.drew.cell? ⟨gr, 1, none⟩ = some (.int .i64 d1) from ⟨hb5.cell 0, BR6.out.cell 1⟩)
    clear c5 AD r0 f5 F6 hb5 hput kp5 k5a k5b KP BR BR5 B5 O5
    go_upto_region 9 with fail
    refine wp_region_held_drew (S := fun ws => ws.cell? ⟨g, 0, none⟩ = some (.slice (some ⟨g5, 0, none⟩) (k + 1) c5') ∧ ws.cell? ⟨gr, 1, none⟩ = some (.int .i64 d1)) (by kernel_rfl) SA.out (fun hHeld => ?_)
    generalize w5.drew = w6 at *
    have wr1 : IntKind.i64.wrap (k : Int) = k := IntWalk.i64_in _ (by omega)
    have wr2 : (k : Int) < (k : Int) + 1 := by omega
    refine wpAnyH_take (i := 0) (v := ?_) rfl (by kernel_rfl) (by kernel_rfl) (by kernel_rfl) (fun _ _ _ h => h) (Or.inl ⟨by rfl, ?_⟩) (by assumption) ?_
    rotate_left
    · (intro w hSw; (try dsimp only at hSw); first | (go_simp; done) | (go_simp; with_reducible rfl))
    simp only [Act.put, List.getElem_toArray, List.getElem_cons_zero, List.getElem_cons_succ, List.setIfInBounds_toArray, List.set_cons_zero, List.set_cons_succ]
    refine wpAnyH_take (i := 1) (v := ?_) rfl (by kernel_rfl) (by kernel_rfl) (by kernel_rfl) (fun _ _ _ h => h) (Or.inl ⟨by rfl, ?_⟩) (by assumption) ?_
    rotate_left
    · (intro w hSw; (try dsimp only at hSw); first | (go_simp; done) | (go_simp; with_reducible rfl))
    simp only [Act.put, List.getElem_toArray, List.getElem_cons_zero, List.getElem_cons_succ, List.setIfInBounds_toArray, List.set_cons_zero, List.set_cons_succ]
    refine wpAnyH_take (i := 2) (v := ?_) rfl (by kernel_rfl) (by kernel_rfl) (by kernel_rfl) (fun _ _ _ h => h) (Or.inl ⟨by rfl, ?_⟩) (by assumption) ?_
    rotate_left
    · (intro w hSw; (try dsimp only at hSw); first | (go_simp; done) | (go_simp; with_reducible rfl))
    simp only [Act.put, List.getElem_toArray, List.getElem_cons_zero, List.getElem_cons_succ, List.setIfInBounds_toArray, List.set_cons_zero, List.set_cons_succ]
    refine wpAnyH_take (i := 3) (v := ?_) rfl (by kernel_rfl) (by kernel_rfl) (by kernel_rfl) (fun _ _ _ h => h) (Or.inl ⟨by rfl, ?_⟩) (by assumption) ?_
    rotate_left
    · (intro w hSw; (try dsimp only at hSw); first | (go_simp; done) | (go_simp; with_reducible rfl))
    simp only [Act.put, List.getElem_toArray, List.getElem_cons_zero, List.getElem_cons_succ, List.setIfInBounds_toArray, List.set_cons_zero, List.set_cons_succ]
    refine wpAnyH_take (i := 4) (v := ?_) rfl (by kernel_rfl) (by kernel_rfl) (by kernel_rfl) (fun _ _ _ h => h) (Or.inl ⟨by rfl, ?_⟩) (by assumption) ?_
    rotate_left
    · (intro w hSw; (try dsimp only at hSw); first | (go_simp; done) | (go_simp; with_reducible rfl))
    simp only [Act.put, List.getElem_toArray, List.getElem_cons_zero, List.getElem_cons_succ, List.setIfInBounds_toArray, List.set_cons_zero, List.set_cons_succ]
    refine wpAnyH_take (i := 5) (v := ?_) rfl (by kernel_rfl) (by kernel_rfl) (by kernel_rfl) (fun _ _ _ h => h) (Or.inl ⟨by rfl, ?_⟩) (by assumption) ?_
    rotate_left
    · (intro w hSw; (try dsimp only at hSw); first | (go_simp; done) | (go_simp; with_reducible rfl))
    simp only [Act.put, List.getElem_toArray, List.getElem_cons_zero, List.getElem_cons_succ, List.setIfInBounds_toArray, List.set_cons_zero, List.set_cons_succ]
    refine wpAnyH_take (i := 6) (v := ?_) rfl (by kernel_rfl) (by kernel_rfl) (by kernel_rfl) (fun _ _ _ h => h) (Or.inl ⟨by rfl, ?_⟩) (by assumption) ?_
    rotate_left
    · (intro w hSw; (try dsimp only at hSw); first | (go_simp; done) | (go_simp; with_reducible rfl))
    simp only [Act.put, List.getElem_toArray, List.getElem_cons_zero, List.getElem_cons_succ, List.setIfInBounds_toArray, List.set_cons_zero, List.set_cons_succ]
    refine wpAnyH_take (i := 7) (v := ?_) rfl (by kernel_rfl) (by kernel_rfl) (by kernel_rfl) (fun _ _ _ h => h) (Or.inl ⟨by rfl, ?_⟩) (by assumption) ?_
    rotate_left
    · (intro w hSw; (try dsimp only at hSw); first | (go_simp; done) | (go_simp; with_reducible rfl))
    simp only [Act.put, List.getElem_toArray, List.getElem_cons_zero, List.getElem_cons_succ, List.setIfInBounds_toArray, List.set_cons_zero, List.set_cons_succ]
    refine wpAnyH_take (i := 8) (v := ?_) rfl (by kernel_rfl) (by kernel_rfl) (by kernel_rfl) (fun _ _ _ h => h) (Or.inl ⟨by rfl, ?_⟩) (by assumption) ?_
    rotate_left
    · (intro w hSw; (try dsimp only at hSw); first | (go_simp; done) | (go_simp; with_reducible rfl))
    simp only [Act.put, List.getElem_toArray, List.getElem_cons_zero, List.getElem_cons_succ, List.setIfInBounds_toArray, List.set_cons_zero, List.set_cons_succ]
    refine wpAnyH_take (i := 9) (v := ?_) rfl (by kernel_rfl) (by kernel_rfl) (by kernel_rfl) (fun _ _ _ h => h) (Or.inl ⟨by rfl, ?_⟩) (by assumption) ?_
    rotate_left
    · (intro w hSw; (try dsimp only at hSw); first | (go_simp; done) | (go_simp; with_reducible rfl))
    simp only [Act.put, List.getElem_toArray, List.getElem_cons_zero, List.getElem_cons_succ, List.setIfInBounds_toArray, List.set_cons_zero, List.set_cons_succ]
    refine wpAnyH_take (i := 10) (v := ?_) rfl (by kernel_rfl) (by kernel_rfl) (by kernel_rfl) (fun _ _ _ h => h) (Or.inl ⟨by rfl, ?_⟩) (by assumption) ?_
    rotate_left
    · (intro w hSw; (try dsimp only at hSw); first | (go_simp; done) | (go_simp; with_reducible rfl))
    simp only [Act.put, List.getElem_toArray, List.getElem_cons_zero, List.getElem_cons_succ, List.setIfInBounds_toArray, List.set_cons_zero, List.set_cons_succ]
    refine wpAnyH_take (i := 11) (v := ?_) rfl (by kernel_rfl) (by kernel_rfl) (by kernel_rfl) (fun _ _ _ h => h) (Or.inl ⟨by rfl, ?_⟩) (by assumption) ?_
    rotate_left
    · (intro w hSw; (try dsimp only at hSw); first | (go_simp; done) | (go_simp; with_reducible rfl))
    simp only [Act.put, List.getElem_toArray, List.getElem_cons_zero, List.getElem_cons_succ, List.setIfInBounds_toArray, List.set_cons_zero, List.set_cons_succ]
    refine wpAnyH_take (i := 12) (v := ?_) rfl (by kernel_rfl) (by kernel_rfl) (by kernel_rfl) (fun _ _ _ h => h) (Or.inl ⟨by rfl, ?_⟩) (by assumption) ?_
    rotate_left
    · (intro w hSw; (try dsimp only at hSw); first | (go_simp; done) | (go_simp; with_reducible rfl))
    simp only [Act.put, List.getElem_toArray, List.getElem_cons_zero, List.getElem_cons_succ, List.setIfInBounds_toArray, List.set_cons_zero, List.set_cons_succ]
    refine wpAnyH_take (i := 13) (v := ?_) rfl (by kernel_rfl) (by kernel_rfl) (by kernel_rfl) (fun _ _ _ h => h) (Or.inl ⟨by rfl, ?_⟩) (by assumption) ?_
    rotate_left
    · (intro w hSw; (try dsimp only at hSw); first | (go_simp; done) | (go_simp; with_reducible rfl))
    simp only [Act.put, List.getElem_toArray, List.getElem_cons_zero, List.getElem_cons_succ, List.setIfInBounds_toArray, List.set_cons_zero, List.set_cons_succ]
    clear wr2
    refine wpAnyH_ready (rs := [14]) (by kernel_rfl) (by simp) ?_
    refine AllReadyH.cons rfl (fun K hK => ?_) AllReadyH.nil
    go_simp
    obtain ⟨F7, C7⟩ := PU.out
    have F7 := Lib.hid F7
    have O7 := Lib.hid (show rk.Own EI _ w.heap.size 3 _ _ from Chg.own C7 O6.out (fun _ => rfl))
    have BR7 := Lib.hid (BR6.out.far (p := ⟨g5, k * 2 + 1, none⟩) (fun e => hgr e.symm) (.int .i64 d1))
    have B7 := Lib.hid (B6.out.trans (C7.to B6.out.size))
    obtain ⟨vv, hv7, -⟩ := F7.out.ex
    have S7 := Lib.hid (show (w6.setCell ⟨g5, k * 2 + 1, none⟩ (.int .i64 d1)).cell? ⟨g, 0, none⟩ = some (.slice (some ⟨g5, 0, none⟩) (k + 1) c5') ∧ (w6.setCell ⟨g5, k * 2 + 1, none⟩ (.int .i64 d1)).cell? ⟨gr, 1, none⟩ = some (.int .i64 d1) from ⟨by
      have e1 := Below.heap_setCell w6 ⟨g5, k * 2 + 1, none⟩ (.int .i64 d1) g (fun e => hne5 e.symm)
      have e2 := SA.out.1
      unfold World.cell? at e2 ⊢
      rw [e1]
      exact e2, BR7.out.cell 1⟩)
    clear C7 hv7
    refine hK.out _ _ S7.out (fun hHeld2 => ?_)
    clear hK K hHeld
    refine wpAnyH_done (by kernel_rfl) ?_ _
    clear hHeld2 S7 SA wr1 BR6 O6 PU F3 O3
    generalize w6.setCell ⟨g5, k * 2 + 1, none⟩ (.int .i64 d1) = w7 at *
    have r1 := BR7.out.cell 1
    obtain ⟨Am, cm, em, -⟩ := O7.out.open_
    have elm : (zsG held (D.take k)).length = k + 1 := by
      have := TL.out
      rw [List.length_take] at this
      simp [zsG]
      omega
    rw [elm] at em
    subst em
    have hm := made w7 (.cells #[.int .i64 d1] 3)
    have O8 := Lib.hid (O7.out.below hm)
    have F8 := Lib.hid (F7.out.below hm)
    have B8 := Lib.hid (up B7.out hm B7.out.size)
    have LY := Lib.hid (Lay.lit (E := EI) (w7.alloc (.cells #[.int .i64 d1] 3)) d1 3 w7.heap.size (Blk.new _ _ _))
    have EL := Lib.hid elm
    clear hm elm O7 F7 B7 BR7
    generalize hw8 : w7.alloc (.cells #[.int .i64 d1] 3) = w8 at *
    go_wp2_with (first | rw [hw8] | ((with_reducible show wpList _ _ _ (⟨some 50, _, _, _, _, _⟩ :: _) _ _); go_must (refine wp_app TI (c := 1) (n := 1) rfl _ _ rfl rfl rfl rfl rfl O8.out LY.out (by rw [EL.out]; simp; omega) B8.out.size ?_)))
    intro v9 w9 own9 gr9
    have hk9 : Chg w.heap.size RK w8 w9 := Only.grown (Only.refl _ w8) gr9.grown (fun i hi e => by
      obtain ⟨p1, p2, cs, p3⟩ := O8.out.lt' i e
      exact ⟨p1, _, p3, rfl⟩)
    have F9 := Lib.hid (F8.out.chg hk9)
    have B9 := Lib.hid (B8.out.trans (hk9.to B8.out.size))
    rw [ZZ.out, ← TK.out] at own9
    have O9 := Lib.hid own9
    clear own9 gr9 hk9 O8 LY F8 hw8 r1
    go_wp2_with fail
    refine ⟨⟨k + 1, _, rfl, by omega, by go_num, F9.out, O9.out, N4.out, B9.out⟩, by simp [intOf]; omega⟩
  · obtain rfl : k = D.length := by omega
    rw [List.take_length] at F3 O3 N3
    obtain ⟨Am, cm, em, lm, -, hmx⟩ := O3.out.open_
    have elm : (zsG held D).length = D.length + 1 := by simp [zsG]
    have SU := Lib.hid (gold.sum_any Am cm (zsG held D) w3 (by rw [elm]; omega) (nums_lay lm))
    have GO := Lib.hid (fun h2 h3 => gd_of (held := held) N3.out h2 h3 (by omega))
    have GZ := Lib.hid (fun G => gd_zs (held := held) (D := D) G)
    have ZS := Lib.hid (zsG_sum held D)
    subst em
    rw [elm] at SU
    rw [elm]
    clear hb3 hkl hk lm
    cases ha : (zsG held D).all gold.isRight with
    | false =>
      have e : q = false := by
        cases q with
        | false => rfl
        | true =>
          have := (GZ.out (HQ.out.1 rfl)).1
          rw [ha] at this
          cases this
      subst e
      have HAL := Lib.hid ha
      clear HQ ha elm
      go_wp2_with fail
      refine SU.out.mono ?_
      rintro e w4 hp
      obtain ⟨rfl, p1, -, -⟩ := gold.sum_of hp
      have e1 := p1 HAL.out
      subst e1
      clear p1 hp SU
      go_wp2_with fail
      go_ret2
      exact Rsd.no rfl B3.out
    | true =>
    by_cases h2 : 1099511627776 < (zsG held D).sum
    · have e : q = false := by
        cases q with
        | false => rfl
        | true =>
          have := (GZ.out (HQ.out.1 rfl)).2
          omega
      subst e
      have HAL := Lib.hid (And.intro ha h2)
      clear HQ ha elm h2
      go_wp2_with fail
      refine SU.out.mono ?_
      rintro e w4 hp
      obtain ⟨rfl, -, p1, -⟩ := gold.sum_of hp
      have e1 := p1 HAL.out.1 HAL.out.2
      subst e1
      clear p1 hp SU
      go_wp2_with fail
      go_ret2
      exact Rsd.no rfl B3.out
    · have e : q = true := HQ.out.2 (GO.out ha (by omega))
      subst e
      have HAL := Lib.hid (And.intro ha h2)
      clear HQ ha elm h2
      obtain ⟨A4, c4, hb4, -⟩ := F3.out.open_
      have f2 := hb4.free 2
      have d2 := hb4.cell 2
      obtain ⟨F4, C4⟩ := F3.out.held held
      obtain ⟨A5, c5, hb5, -⟩ := F4.open_
      have f3 := hb5.free 3
      have d3 := hb5.cell 3
      obtain ⟨F5, C5⟩ := F4.total (tt (D, held))
      have FF := Lib.hid F5
      have CC := Lib.hid (B3.out.trans ((C4.trans C5).to B3.out.size))
      rw [ZS.out] at HAL
      clear hb4 hb5 F4 C4 F5 C5 
      generalize hT : tt (D, held) = T at *
      have HT := Lib.hid hT
      clear hT
      go_wp2_with fail
      refine SU.out.mono ?_
      rintro e w4 hp
      obtain ⟨rfl, -, -, p1⟩ := gold.sum_of hp
      have e1 := p1 HAL.out.1 (by have := HAL.out.2; rw [ZS.out]; omega)
      rw [ZS.out] at e1
      subst e1
      clear p1 hp SU
      go_wp2_with fail
      go_ret2
      exact ⟨fun _ => ⟨g, b, rfl, by rw [HT.out]; exact FF.out⟩, fun h => (by cases h), CC.out⟩
end Go.Proofs.Ytkpnlcllmgobkaa.fk
