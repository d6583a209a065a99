/-
  Roots on a disk: Save and Load.
-/
import Derived.Test.YtigjfmfhmoabiaaDoorSoD
import Derived.Test.YtigjfmfhmoabiaaDoorDkE
import Derived.Test.YtigjfmfhmoabiaaDoorDkF
namespace Go.Proofs.YtigjfmfhmoabiaaDoor.so
open Go.RowKit
open base (ret_bool ret_int made up Blk Only Nums below_drewN)
open bytes (Small small_nil small_app small_take small_drop Lay By str Own)
open vi (I64 encs flat)
open vnum
open dk (DD DU DAt Gd Chg sectors_any size_any write_any read_any flush_any WriteP ReadP FlushP)
set_option linter.unusedVariables false
set_option linter.unusedSimpArgs false
variable {U : Nat → Prop} {w w' : World} {B g s m c : Nat} {d : DD}
def saveD (d : DD) (n : Nat) (zs : List Int) : DD := if d.writeE ((n % 2 : Nat) : Int) (rootB n zs (d.size - 8)) = 0 then (d.write ((n % 2 : Nat) : Int) (rootB n zs (d.size - 8))).flush else d.write ((n % 2 : Nat) : Int) (rootB n zs (d.size - 8))
def saveE (d : DD) (n : Nat) (zs : List Int) : Int := if d.writeE ((n % 2 : Nat) : Int) (rootB n zs (d.size - 8)) = 0 then (d.write ((n % 2 : Nat) : Int) (rootB n zs (d.size - 8))).flushE else d.writeE ((n % 2 : Nat) : Int) (rootB n zs (d.size - 8))
theorem cmd_done (d : DD) : d.done ≤ d.cmd.done ∧ d.cmd.done ≤ d.done + 1 := by
  unfold DD.cmd
  split
  · exact ⟨Int.le_refl _, by show d.done ≤ _; omega⟩
  · exact ⟨by show d.done ≤ d.done + 1; omega, by show d.done + 1 ≤ _; omega⟩
theorem write_done (d : DD) (i : Int) (l : List Nat) : d.done ≤ (d.write i l).done ∧ (d.write i l).done ≤ d.done + 1 := by
  unfold DD.write
  split
  · exact ⟨Int.le_refl _, by omega⟩
  split
  · split
    · exact cmd_done (d.keep i l)
    · exact ⟨Int.le_refl _, by omega⟩
  · exact ⟨Int.le_refl _, by omega⟩
theorem writeE_is (d : DD) (i : Int) (l : List Nat) (hh : d.has i = true) (hl : l.length = d.size) : d.writeE i l = 0 ∨ d.writeE i l = 20 := by
  unfold DD.writeE
  split
  · exact .inr rfl
  try rw [if_pos hh, if_pos hl]
  unfold DD.cmdE
  split
  · exact .inr rfl
  · exact .inl rfl
theorem wf_nat {k : Nat} (h : k ≤ 100000) : (Lit.int .i64 (k : Int)).wf = true := by
  simp [Lit.wf, IntKind.min, IntKind.max, IntKind.signed, IntKind.bits]
  omega
set_option maxRecDepth 100000 in
set_option maxHeartbeats 4000000 in
theorem save_no (H : DU U w B g s m d c) (E : Int) (A : Option Addr) (cc : Nat) (zs : List Int) (hN : Nums .i64 w A zs) (hr : rok E zs = false) :
    Calls Tryd.prog 17 #[.pointer (some ⟨g, 0, none⟩), .agg #[.int .i64 E, .slice A zs.length cc]] w fun e w' => e = .returned (.int .i64 10) ∧ Below w.heap.size w w' := by
  have M1 := Lib.hid (made w (.cells #[.int .i64 E, .slice A zs.length cc] 24))
  have BX := Lib.hid (Blk.new w 24 #[.int .i64 E, .slice A zs.length cc])
  have NN := Lib.hid (base.Nums.keep hN M1.out)
  have HH := Lib.hid (H.below M1.out)
  clear hN
  generalize hw : w.alloc (.cells #[.int .i64 E, .slice A zs.length cc] 24) = w1 at *
  go_enter Tryd.func17, Tryd.ntmps17
  go_wp2_with (rw [hw])
  go_upto_region 1 with fail
  have X2 := Lib.hid (BX.out.below (Below.refl _ w1).drew BX.out.lt)
  have B2 := Lib.hid (show Below w.heap.size w w1.drew from M1.out.drew)
  have H2 := Lib.hid (show DU U w1.drew B g s m d c from HH.out.below (Below.refl _ _).drew)
  have N2 := Lib.hid (show Nums .i64 w1.drew A zs from base.Nums.keep NN.out (Below.refl _ _).drew)
  refine wp_region_held_drew (S := fun ws => ws.cell? ⟨w.heap.size, 0, none⟩ = some (.int .i64 E) ∧ ws.cell? ⟨w.heap.size, 1, none⟩ = some (.slice A zs.length cc)) (by kernel_rfl) ⟨X2.out.cell 0, X2.out.cell 1⟩ (fun hHeld => ?_)
  generalize w1.drew = w2 at *
  refine wpAnyH_take (i := 0) (v := ?_) rfl (by kernel_rfl) (by kernel_rfl) (by kernel_rfl) (fun _ _ _ h => h) (Or.inl ⟨by rfl, ?_⟩) (by assumption) ?_
  rotate_left
  · (intro w hSw; (try dsimp only at hSw); first | (go_simp; done) | (go_simp; with_reducible rfl))
  simp only [Act.put, List.getElem_toArray, List.getElem_cons_zero, List.getElem_cons_succ, List.setIfInBounds_toArray, List.set_cons_zero, List.set_cons_succ]
  refine wpAnyH_take (i := 1) (v := ?_) rfl (by kernel_rfl) (by kernel_rfl) (by kernel_rfl) (fun _ _ _ h => h) (Or.inl ⟨by rfl, ?_⟩) (by assumption) ?_
  rotate_left
  · (intro w hSw; (try dsimp only at hSw); first | (go_simp; done) | (go_simp; with_reducible rfl))
  simp only [Act.put, List.getElem_toArray, List.getElem_cons_zero, List.getElem_cons_succ, List.setIfInBounds_toArray, List.set_cons_zero, List.set_cons_succ]
  refine wpAnyH_ready (rs := [2]) (by kernel_rfl) (by simp) ?_
  refine AllReadyH.cons rfl (fun K hK => ?_) AllReadyH.nil
  go_simp
  go_wp2_with (go_at_call 40; refine (size_any H2.out).mono ?_; rintro e1 w3 ⟨rfl, e3⟩; subst e3)
  refine hK.out _ _ ⟨X2.out.cell 0, X2.out.cell 1⟩ (fun hH1 => ?_)
  clear hK K hHeld
  refine wpAnyH_ready (rs := [3]) (by kernel_rfl) (by simp) ?_
  refine AllReadyH.cons rfl (fun K hK => ?_) AllReadyH.nil
  go_simp
  go_wp2_with (go_at_call 9; refine (bytes_no E A cc zs (d.size : Int) w2 N2.out hr).mono ?_; rintro e1 w4 ⟨rfl, hb⟩)
  have X4 := Lib.hid (X2.out.below hb X2.out.lt)
  have B4 := Lib.hid (up B2.out hb B2.out.size)
  refine hK.out _ _ ⟨X4.out.cell 0, X4.out.cell 1⟩ (fun hH2 => ?_)
  clear hK K hH1 hb
  refine wpAnyH_take (i := 4) (v := ?_) rfl (by kernel_rfl) (by kernel_rfl) (by kernel_rfl) (fun _ _ _ h => h) (Or.inl ⟨by rfl, ?_⟩) (by assumption) ?_
  rotate_left
  · (intro w hSw; (try dsimp only at hSw); first | (go_simp; done) | (go_simp; with_reducible rfl))
  simp only [Act.put, List.getElem_toArray, List.getElem_cons_zero, List.getElem_cons_succ, List.setIfInBounds_toArray, List.set_cons_zero, List.set_cons_succ]
  refine wpAnyH_take (i := 5) (v := ?_) rfl (by kernel_rfl) (by kernel_rfl) (by kernel_rfl) (fun _ _ _ h => h) (Or.inl ⟨by rfl, ?_⟩) (by assumption) ?_
  rotate_left
  · (intro w hSw; (try dsimp only at hSw); first | (go_simp; done) | (go_simp; with_reducible rfl))
  simp only [Act.put, List.getElem_toArray, List.getElem_cons_zero, List.getElem_cons_succ, List.setIfInBounds_toArray, List.set_cons_zero, List.set_cons_succ]
  refine wpAnyH_take (i := 6) (v := ?_) rfl (by kernel_rfl) (by kernel_rfl) (by kernel_rfl) (fun _ _ _ h => h) (Or.inl ⟨by rfl, ?_⟩) (by assumption) ?_
  rotate_left
  · (intro w hSw; (try dsimp only at hSw); first | (go_simp; done) | (go_simp; with_reducible rfl))
  simp only [Act.put, List.getElem_toArray, List.getElem_cons_zero, List.getElem_cons_succ, List.setIfInBounds_toArray, List.set_cons_zero, List.set_cons_succ]
  refine wpAnyH_take (i := 7) (v := ?_) rfl (by kernel_rfl) (by kernel_rfl) (by kernel_rfl) (fun _ _ _ h => h) (Or.inl ⟨by rfl, ?_⟩) (by assumption) ?_
  rotate_left
  · (intro w hSw; (try dsimp only at hSw); first | (go_simp; done) | (go_simp; with_reducible rfl))
  simp only [Act.put, List.getElem_toArray, List.getElem_cons_zero, List.getElem_cons_succ, List.setIfInBounds_toArray, List.set_cons_zero, List.set_cons_succ]
  refine wpAnyH_take (i := 8) (v := ?_) rfl (by kernel_rfl) (by kernel_rfl) (by kernel_rfl) (fun _ _ _ h => h) (Or.inl ⟨by rfl, ?_⟩) (by assumption) ?_
  rotate_left
  · (intro w hSw; (try dsimp only at hSw); first | (go_simp; done) | (go_simp; with_reducible rfl))
  simp only [Act.put, List.getElem_toArray, List.getElem_cons_zero, List.getElem_cons_succ, List.setIfInBounds_toArray, List.set_cons_zero, List.set_cons_succ]
  refine wpAnyH_done (by kernel_rfl) ?_ _
  clear hH2
  go_wp2_with fail
  go_ret
  exact ⟨rfl, B4.out⟩
def SaveP (U : Nat → Prop) (B g s m c : Nat) (d : DD) (n : Nat) (zs : List Int) (w : World) (e : Ending) (w' : World) : Prop := e = .returned (.int .i64 (saveE d n zs)) ∧ (∃ c', DU U w' B g s m (saveD d n zs) c' ∧ c' ≤ c + 1) ∧ Chg g s m w w'
set_option maxRecDepth 100000 in
set_option maxHeartbeats 4000000 in
theorem save_yes (H : DU U w B g s m d c) (hc : c ≤ 10000) (hd : 0 ≤ d.done) (hd2 : d.done ≤ 10000) (n : Nat) (A : Option Addr) (cc : Nat) (zs : List Int) (hN : Nums .i64 w A zs) (hr : rok (n : Int) zs = true) (hf : fitsI (plainB (n : Int) zs) (d.size : Int)) (h2 : 2 ≤ d.n) (hT : sl.Tab w) :
    Calls Tryd.prog 17 #[.pointer (some ⟨g, 0, none⟩), .agg #[.int .i64 (n : Int), .slice A zs.length cc]] w (SaveP U B g s m c d n zs w) := by
  have RF := Lib.hid (And.intro hr hf)
  have D0 := Lib.hid (And.intro hc (And.intro hd hd2))
  have NR := Lib.hid (rok_iff.1 hr)
  have kn : decide ((d.n : Int) < 2) = false := decide_eq_false (by omega)
  have HS := Lib.hid (show d.has ((n % 2 : Nat) : Int) = true from decide_eq_true (by omega))
  have TW := Lib.hid hT
  clear hr hf hc hd hd2 h2 hT
  have M1 := Lib.hid (made w (.cells #[.int .i64 (n : Int), .slice A zs.length cc] 24))
  have BX := Lib.hid (Blk.new w 24 #[.int .i64 (n : Int), .slice A zs.length cc])
  have NN := Lib.hid (base.Nums.keep hN M1.out)
  have HH := Lib.hid (H.below M1.out)
  clear hN
  generalize hw : w.alloc (.cells #[.int .i64 (n : Int), .slice A zs.length cc] 24) = w1 at *
  go_enter Tryd.func17, Tryd.ntmps17
  go_wp2_with (rw [hw])
  go_upto_region 1 with fail
  have X2 := Lib.hid (BX.out.below (Below.refl _ w1).drew BX.out.lt)
  have B2 := Lib.hid (show Below w.heap.size w w1.drew from M1.out.drew)
  have H2 := Lib.hid (show DU U w1.drew B g s m d c from HH.out.below (Below.refl _ _).drew)
  have N2 := Lib.hid (show Nums .i64 w1.drew A zs from base.Nums.keep NN.out (Below.refl _ _).drew)
  refine wp_region_held_drew (S := fun ws => ws.cell? ⟨w.heap.size, 0, none⟩ = some (.int .i64 (n : Int)) ∧ ws.cell? ⟨w.heap.size, 1, none⟩ = some (.slice A zs.length cc)) (by kernel_rfl) ⟨X2.out.cell 0, X2.out.cell 1⟩ (fun hHeld => ?_)
  generalize w1.drew = w2 at *
  refine wpAnyH_take (i := 0) (v := ?_) rfl (by kernel_rfl) (by kernel_rfl) (by kernel_rfl) (fun _ _ _ h => h) (Or.inl ⟨by rfl, ?_⟩) (by assumption) ?_
  rotate_left
  · (intro w hSw; (try dsimp only at hSw); first | (go_simp; done) | (go_simp; with_reducible rfl))
  simp only [Act.put, List.getElem_toArray, List.getElem_cons_zero, List.getElem_cons_succ, List.setIfInBounds_toArray, List.set_cons_zero, List.set_cons_succ]
  refine wpAnyH_take (i := 1) (v := ?_) rfl (by kernel_rfl) (by kernel_rfl) (by kernel_rfl) (fun _ _ _ h => h) (Or.inl ⟨by rfl, ?_⟩) (by assumption) ?_
  rotate_left
  · (intro w hSw; (try dsimp only at hSw); first | (go_simp; done) | (go_simp; with_reducible rfl))
  simp only [Act.put, List.getElem_toArray, List.getElem_cons_zero, List.getElem_cons_succ, List.setIfInBounds_toArray, List.set_cons_zero, List.set_cons_succ]
  refine wpAnyH_ready (rs := [2]) (by kernel_rfl) (by simp) ?_
  refine AllReadyH.cons rfl (fun K hK => ?_) AllReadyH.nil
  go_simp
  go_wp2_with (go_at_call 40; refine (size_any H2.out).mono ?_; rintro e1 w3 ⟨rfl, e3⟩; subst e3)
  refine hK.out _ _ ⟨X2.out.cell 0, X2.out.cell 1⟩ (fun hH1 => ?_)
  clear hK K hHeld
  refine wpAnyH_ready (rs := [3]) (by kernel_rfl) (by simp) ?_
  refine AllReadyH.cons rfl (fun K hK => ?_) AllReadyH.nil
  go_simp
  go_wp2_with (go_at_call 9; refine (bytes_yes (n : Int) A cc zs d.size RF.out.2 w2 (TW.out.keep B2.out TW.out.1) N2.out RF.out.1).mono ?_; rintro e1 w4 ⟨v4, rfl, ho, hb⟩)
  have X4 := Lib.hid (X2.out.below hb X2.out.lt)
  have B4 := Lib.hid (up B2.out hb B2.out.size)
  have H4 := Lib.hid (H2.out.below hb)
  obtain ⟨A4, c4, rfl, hl4, -, -⟩ := ho.lay
  have L4 := Lib.hid hl4
  refine hK.out _ _ ⟨X4.out.cell 0, X4.out.cell 1⟩ (fun hH2 => ?_)
  clear hK K hH1 hb ho hl4
  refine wpAnyH_take (i := 4) (v := ?_) rfl (by kernel_rfl) (by kernel_rfl) (by kernel_rfl) (fun _ _ _ h => h) (Or.inl ⟨by rfl, ?_⟩) (by assumption) ?_
  rotate_left
  · (intro w hSw; (try dsimp only at hSw); first | (go_simp; done) | (go_simp; with_reducible rfl))
  simp only [Act.put, List.getElem_toArray, List.getElem_cons_zero, List.getElem_cons_succ, List.setIfInBounds_toArray, List.set_cons_zero, List.set_cons_succ]
  refine wpAnyH_take (i := 5) (v := ?_) rfl (by kernel_rfl) (by kernel_rfl) (by kernel_rfl) (fun _ _ _ h => h) (Or.inl ⟨by rfl, ?_⟩) (by assumption) ?_
  rotate_left
  · (intro w hSw; (try dsimp only at hSw); first | (go_simp; done) | (go_simp; with_reducible rfl))
  simp only [Act.put, List.getElem_toArray, List.getElem_cons_zero, List.getElem_cons_succ, List.setIfInBounds_toArray, List.set_cons_zero, List.set_cons_succ]
  refine wpAnyH_take (i := 6) (v := ?_) rfl (by kernel_rfl) (by kernel_rfl) (by kernel_rfl) (fun _ _ _ h => h) (Or.inl ⟨by rfl, ?_⟩) (by assumption) ?_
  rotate_left
  · (intro w hSw; (try dsimp only at hSw); first | (go_simp; done) | (go_simp; with_reducible rfl))
  simp only [Act.put, List.getElem_toArray, List.getElem_cons_zero, List.getElem_cons_succ, List.setIfInBounds_toArray, List.set_cons_zero, List.set_cons_succ]
  refine wpAnyH_take (i := 7) (v := ?_) rfl (by kernel_rfl) (by kernel_rfl) (by kernel_rfl) (fun _ _ _ h => h) (Or.inl ⟨by rfl, ?_⟩) (by assumption) ?_
  rotate_left
  · (intro w hSw; (try dsimp only at hSw); first | (go_simp; done) | (go_simp; with_reducible rfl))
  simp only [Act.put, List.getElem_toArray, List.getElem_cons_zero, List.getElem_cons_succ, List.setIfInBounds_toArray, List.set_cons_zero, List.set_cons_succ]
  refine wpAnyH_take (i := 8) (v := ?_) rfl (by kernel_rfl) (by kernel_rfl) (by kernel_rfl) (fun _ _ _ h => h) (Or.inl ⟨by rfl, ?_⟩) (by assumption) ?_
  rotate_left
  · (intro w hSw; (try dsimp only at hSw); first | (go_simp; done) | (go_simp; with_reducible rfl))
  simp only [Act.put, List.getElem_toArray, List.getElem_cons_zero, List.getElem_cons_succ, List.setIfInBounds_toArray, List.set_cons_zero, List.set_cons_succ]
  refine wpAnyH_done (by kernel_rfl) ?_ _
  clear hH2
  have SE := Lib.hid (sectors_any H4.out)
  have x0 := X4.out.cell 0
  have x1 := X4.out.cell 1
  have RL := Lib.hid (root_len RF.out.2)
  have RS := Lib.hid (root_small (n : Int) zs (d.size - 8))
  have SV := Lib.hid (show saveE d n zs = (if d.writeE ((n % 2 : Nat) : Int) (rootB n zs (d.size - 8)) = 0 then (d.write ((n % 2 : Nat) : Int) (rootB n zs (d.size - 8))).flushE else d.writeE ((n % 2 : Nat) : Int) (rootB n zs (d.size - 8))) from rfl)
  have SD := Lib.hid (show saveD d n zs = (if d.writeE ((n % 2 : Nat) : Int) (rootB n zs (d.size - 8)) = 0 then (d.write ((n % 2 : Nat) : Int) (rootB n zs (d.size - 8))).flush else d.write ((n % 2 : Nat) : Int) (rootB n zs (d.size - 8))) from rfl)
  have SL := Lib.hid (fun w => slot_any n w (by have := NR.out; omega))
  obtain ⟨k, hk⟩ : ∃ k : Nat, k = n % 2 := ⟨_, rfl⟩
  rw [← hk] at HS SV SD SL
  have HK := Lib.hid (show k ≤ 100000 by omega)
  clear hk
  unfold SaveP
  generalize rootB (n : Int) zs (d.size - 8) = l at *
  go_wp2_with fail
  refine SE.out.mono ?_
  rintro e w5 ⟨rfl, e5⟩
  subst e5
  clear SE
  go_wp2_with fail
  refine (SL.out w4).mono ?_
  rintro e w5 ⟨rfl, e5⟩
  subst e5
  have WR := Lib.hid (write_any H4.out (by have := D0.out; omega) D0.out.2.1 (by have := D0.out; omega) (k : Int) (wf_nat HK.out) A4 c4 l L4.out RS.out)
  have WE := Lib.hid (writeE_is d (k : Int) l HS.out RL.out)
  have WD := Lib.hid (write_done d (k : Int) l)
  unfold WriteP at WR
  obtain ⟨x, hx⟩ : ∃ x, x = d.writeE (k : Int) l := ⟨_, rfl⟩
  rw [← hx] at WR WE SV SD
  clear hx SL
  generalize d.write (k : Int) l = d5 at *
  rw [RL.out] at *
  rcases WE.out with rfl | rfl
  · go_wp2_with fail
    refine WR.out.mono ?_
    rintro e w6 ⟨rfl, ⟨c6, h6, hc6⟩, hg6⟩
    have FL := Lib.hid (flush_any h6 (by have := WD.out; have := D0.out; omega) (by have := WD.out; have := D0.out; omega))
    have G6 := Lib.hid ((Chg.of_below (g := g) (s := s) (m := m) B4.out).trans hg6)
    unfold FlushP at FL
    have EE := Lib.hid (show saveE d n zs = d5.flushE from by rw [SV.out]; simp)
    have ED := Lib.hid (show saveD d n zs = d5.flush from by rw [SD.out]; simp)
    clear WR h6 hg6 SV SD
    go_wp2_with fail
    refine FL.out.mono ?_
    rintro e w7 ⟨rfl, ⟨c7, h7, hc7⟩, hg7⟩
    have G7 := Lib.hid (G6.out.trans hg7)
    rw [← ED.out] at h7
    have H7 := Lib.hid h7
    clear h7 hg7
    go_wp2_with fail
    go_ret
    exact ⟨by rw [EE.out] <;> rfl, ⟨c7, H7.out, by omega⟩, G7.out⟩
  · go_wp2_with fail
    refine WR.out.mono ?_
    rintro e w6 ⟨rfl, ⟨c6, h6, hc6⟩, hg6⟩
    have G6 := Lib.hid ((Chg.of_below (g := g) (s := s) (m := m) B4.out).trans hg6)
    have EE := Lib.hid (show saveE d n zs = 20 from by rw [SV.out, if_neg (by decide)])
    have ED := Lib.hid (show saveD d n zs = d5 from by rw [SD.out, if_neg (by decide)])
    rw [← ED.out] at h6
    have H6 := Lib.hid h6
    clear WR h6 hg6 SV SD
    go_wp2_with fail
    go_ret
    exact ⟨by rw [EE.out] <;> rfl, ⟨c6, H6.out, by omega⟩, G6.out⟩
def stepB (b : Int × List Int) (i : Nat) (o : Option (Int × List Int)) : Int × List Int := match o with
  | some p => if p.1 % 2 = i ∧ b.1 < p.1 then p else b
  | none => b
def bestK (f : Nat → Option (Int × List Int)) : Nat → Int × List Int
  | 0 => (0, [])
  | k + 1 => stepB (bestK f k) k (f k)
noncomputable def loadM (d : DD) : Int × List Int := bestK (fun k => parseM (d.readV (k : Int))) 2
def LoadP (p : Int × List Int) (w : World) (e : Ending) (w' : World) : Prop := Below w.heap.size w w' ∧ ((p.1 = 0 ∧ e = .returned (.tuple #[.agg #[.int .i64 0, .slice none 0 0], .int .i64 14])) ∨ (p.1 ≠ 0 ∧ ∃ A c, e = .returned (.tuple #[.agg #[.int .i64 p.1, .slice A p.2.length c], .int .i64 0]) ∧ Nums .i64 w' A p.2))
structure LS (U : Nat → Prop) (B g s m : Nat) (d : DD) (c : Nat) (w wr : World) (E : Int) (zs : List Int) (A : Option Addr) (cb : Nat) : Prop where
  res : Blk wr w.heap.size 24 #[.int .i64 0, .slice none 0 0]
  box : Blk wr (w.heap.size + 1) 24 #[.int .i64 E, .slice A zs.length cb]
  nums : Nums .i64 wr A zs
  dsk : DU U wr B g s m d c
  tab : sl.Tab wr
  below : Below w.heap.size w wr
  apart : 0 < zs.length → ∀ ad, A = some ad → ad.block ≠ w.heap.size ∧ ad.block ≠ w.heap.size + 1
  away : g ≠ w.heap.size + 1 ∧ s ≠ w.heap.size + 1 ∧ m ≠ w.heap.size + 1
theorem LS.step {wr w2 : World} {E : Int} {zs : List Int} {A : Option Addr} {cb : Nat} (h : LS U B g s m d c w wr E zs A cb) (hb : Below wr.heap.size wr w2) : LS U B g s m d c w w2 E zs A cb :=
  ⟨h.res.below hb h.res.lt, h.box.below hb h.box.lt, base.Nums.keep h.nums hb, h.dsk.below hb, h.tab.keep hb h.tab.1, up h.below hb h.below.size, h.apart, h.away⟩
theorem LS.put {wr : World} {E F : Int} {zs ys : List Int} {A C : Option Addr} {cb cd : Nat} (h : LS U B g s m d c w wr E zs A cb) (hN : Nums .i64 wr C ys) (ha : 0 < ys.length → ∀ ad, C = some ad → ad.block ≠ w.heap.size ∧ ad.block ≠ w.heap.size + 1) :
    LS U B g s m d c w ((wr.setCell ⟨w.heap.size + 1, 0, none⟩ (.int .i64 F)).setCell ⟨w.heap.size + 1, 1, none⟩ (.slice C ys.length cd)) F ys C cd := by
  have hB : Below w.heap.size w ((wr.setCell ⟨w.heap.size + 1, 0, none⟩ (.int .i64 F)).setCell ⟨w.heap.size + 1, 1, none⟩ (.slice C ys.length cd)) := below2 h.below (by omega) _ _
  have e : ∀ k, k ≠ w.heap.size + 1 → ((wr.setCell ⟨w.heap.size + 1, 0, none⟩ (.int .i64 F)).setCell ⟨w.heap.size + 1, 1, none⟩ (.slice C ys.length cd)).heap[k]? = wr.heap[k]? := fun k hk =>
    (Below.heap_setCell _ ⟨w.heap.size + 1, 1, none⟩ _ k hk).trans (Below.heap_setCell _ ⟨w.heap.size + 1, 0, none⟩ _ k hk)
  have hz : ((wr.setCell ⟨w.heap.size + 1, 0, none⟩ (.int .i64 F)).setCell ⟨w.heap.size + 1, 1, none⟩ (.slice C ys.length cd)).heap.size = wr.heap.size := by simp [World.setCell]
  have hT := h.tab
  refine ⟨(e _ (by omega)).trans h.res, blk2 h.box _ _, nums2 hN (fun h0 ad q => (ha h0 ad q).2) _ _, h.dsk.keep (e _ h.away.1) (e _ h.away.2.1) (e _ h.away.2.2) (by rw [hz]; exact Nat.le_refl _) (fun b cs _ hb => (e _ (fun q => ?_)).trans hb), ⟨by rw [hz]; exact hT.1, fun k hk => ?_⟩, hB, ha, h.away⟩
  · subst q
    exact dk.ty_ne hb h.box (by decide) rfl
  · rw [← hT.2 k hk]
    exact World.cell?_of_block (w := wr) (a := ⟨0, k, none⟩) (e 0 (by omega))
set_option maxRecDepth 100000 in
set_option maxHeartbeats 8000000 in
theorem load_any (H : DU U w B g s m d c) (h2 : 2 ≤ d.n) (hdn : d.down = false) (hT : sl.Tab w) :
    Calls Tryd.prog 16 #[.pointer (some ⟨g, 0, none⟩)] w (LoadP (loadM d) w) := by
  have LV := Lib.hid (fun (k : Nat) (hk : k < 2) => show (d.readV (k : Int)).length ≤ 4096 ∧ d.readE (k : Int) = 0 from by
    have hh : d.has (k : Int) = true := decide_eq_true (by omega)
    have hg := H.gd
    unfold DD.readV DD.readE
    rw [hdn, hh]
    refine ⟨?_, rfl⟩
    show ((d.cache (k : Int)).getD (d.sec (k : Int))).length ≤ 4096
    cases q : d.cache (k : Int) with
    | none => show (d.sec (k : Int)).length ≤ 4096; rw [hg.sec k (by omega) (by omega)]; exact hg.size.2
    | some l => show l.length ≤ 4096; rw [(hg.cac k l q).2.2]; exact hg.size.2)
  have mn : min (2 : Int) (d.n : Int) = 2 := by omega
  have M2 := Lib.hid (show Below w.heap.size w ((w.alloc (.cells #[.int .i64 0, .slice none 0 0] 24)).alloc (.cells #[.int .i64 0, .slice none 0 0] 24)) from up (made w _) (made _ _) (made w _).size)
  have S1 := asz w (.cells #[.int .i64 0, .slice none 0 0] 24)
  have L0 := Lib.hid (show LS U B g s m d c w ((w.alloc (.cells #[.int .i64 0, .slice none 0 0] 24)).alloc (.cells #[.int .i64 0, .slice none 0 0] 24)) 0 [] none 0 from ⟨(Blk.new w _ _).alloc _, by have := Blk.new (w.alloc (.cells #[.int .i64 0, .slice none 0 0] 24)) 24 #[.int .i64 0, .slice none 0 0]; rw [S1] at this; exact this, nums_nil _, H.below M2.out, hT.keep M2.out hT.1, M2.out, fun h => absurd h (by simp), by have := H.lt; omega⟩)
  have GM := Lib.hid (show ∀ k, bestK (fun k => parseM (d.readV (k : Int))) (k + 1) = stepB (bestK (fun k => parseM (d.readV (k : Int))) k) k (parseM (d.readV (k : Int))) from fun k => rfl)
  have G0 := Lib.hid (show bestK (fun k => parseM (d.readV (k : Int))) 0 = (0, []) from rfl)
  have GL := Lib.hid (show loadM d = bestK (fun k => parseM (d.readV (k : Int))) 2 from rfl)
  generalize bestK (fun k => parseM (d.readV (k : Int))) = bk at *
  generalize hw : (w.alloc (.cells #[.int .i64 0, .slice none 0 0] 24)).alloc (.cells #[.int .i64 0, .slice none 0 0] 24) = w2 at *
  have SE := Lib.hid (sectors_any L0.out.dsk)
  clear S1 hdn h2 hT
  go_enter Tryd.func16, Tryd.ntmps16
  go_wp2_with (rw [hw])
  refine SE.out.mono ?_
  rintro e w3 ⟨rfl, e3⟩
  subst e3
  clear SE
  go_wp2_with fail
  go_loopw [13] (fun i wr => ∃ (k : Nat) (W : World) (E : Int) (zs : List Int) (A : Option Addr) (cb : Nat), W = wr ∧ k ≤ 2 ∧ i = .int .i64 k ∧ bk k = (E, zs) ∧ LS U B g s m d c w wr E zs A cb) (fun i _ => 2 - (Go.RowKit.intOf i).toNat)
  case atStart => exact ⟨0, _, 0, [], none, 0, rfl, by omega, rfl, G0.out, L0.out⟩
  case round =>
  clear L0 M2 H
  obtain ⟨k, w4, E, zs, A, cb, rfl, hk, rfl, hbk, hls⟩ := hrel
  have BK := Lib.hid hbk
  have Q := Lib.hid hls
  clear hbk hls
  by_cases hk2 : k < 2
  · have kk : decide ((k : Int) < 2) = true := decide_eq_true (by omega)
    have LK := Lib.hid (LV.out k hk2)
    have RD := Lib.hid (read_any Q.out.dsk (k : Int) (wf_nat (by omega)))
    have SB := Lib.hid (GM.out k)
    rw [BK.out] at SB
    unfold ReadP at RD
    rw [LK.out.2] at RD
    have LK1 := Lib.hid LK.out.1
    clear LK GM BK
    generalize d.readV (k : Int) = b at *
    go_wp2_with fail
    refine RD.out.mono ?_
    rintro e w5 ⟨v5, rfl, ho5, hs5, hb5⟩
    have Q5 := Lib.hid (Q.out.step hb5)
    obtain ⟨A5, c5, rfl, hl5, hc5, hm5⟩ := ho5.lay
    have PA := Lib.hid (parse_any A5 c5 b w5 hl5 hs5 (by have := LK1.out; omega) hc5 hm5 Q5.out.tab)
    unfold ParseP at PA
    clear RD ho5 hs5 hb5 hl5 hc5 hm5 Q
    go_wp2_with fail
    refine PA.out.mono ?_
    rintro e w6 ⟨hb6, ⟨hp, rfl⟩ | ⟨F, ys, C, cd, hp, rfl, hn6, hlo6⟩⟩
    · have Q6 := Lib.hid ((Q5.out.step hb6).step (made w6 (.cells #[.int .i64 0, .slice none 0 0] 24)))
      have ES := Lib.hid (show bk (k + 1) = (E, zs) from by rw [SB.out, hp]; rfl)
      clear PA hb6 hp Q5
      go_wp2_with fail
      exact ⟨⟨k + 1, _, E, zs, A, cb, rfl, by omega, by go_num, ES.out, Q6.out⟩, by simp [Go.RowKit.intOf]; omega⟩
    · obtain ⟨n, rfl⟩ : ∃ n : Nat, F = n := ⟨F.toNat, by have := rok_iff.1 (parse_some hp).1; omega⟩
      have NR := Lib.hid (rok_iff.1 (parse_some hp).1)
      have Q6 := Lib.hid ((Q5.out.step hb6).step (made w6 (.cells #[.int .i64 (n : Int), .slice C ys.length cd] 24)))
      have N6 := Lib.hid (base.Nums.keep hn6 (made w6 (.cells #[.int .i64 (n : Int), .slice C ys.length cd] 24)))
      have AP := Lib.hid (show 0 < ys.length → ∀ ad, C = some ad → ad.block ≠ w.heap.size ∧ ad.block ≠ w.heap.size + 1 from fun h0 ad e => by
        have h1 := hlo6 ad e
        have h2 := Q5.out.res.lt
        have h3 := Q5.out.box.lt
        omega)
      have SL := Lib.hid (fun w => slot_any n w (by have := NR.out; omega))
      have X6 := Blk.new w6 24 #[.int .i64 (n : Int), .slice C ys.length cd]
      have x0 := X6.cell 0
      have x1 := X6.cell 1
      have y0 := Q6.out.box.cell 0
      have y1 := Q6.out.box.cell 1
      have f0 := Q6.out.box.free 0
      have f1 := Q6.out.box.free 1
      have SS := Lib.hid (show bk (k + 1) = if (n : Int) % 2 = k ∧ E < (n : Int) then ((n : Int), ys) else (E, zs) from by rw [SB.out, hp]; rfl)
      obtain ⟨q, hq⟩ : ∃ q : Nat, q = n % 2 := ⟨_, rfl⟩
      rw [← hq] at SL
      rw [show (n : Int) % 2 = (q : Int) from by omega] at SS
      clear PA hb6 hp hn6 hlo6 X6 Q5 SB hq
      generalize hw7 : w6.alloc (.cells #[.int .i64 (n : Int), .slice C ys.length cd] 24) = w7 at *
      have SC := Lib.hid (SL.out w7)
      clear SL
      by_cases h1 : q = k
      · have k1 : decide ((q : Int) = (k : Int)) = true := decide_eq_true (by omega)
        have k1b : ((q : Int) == (k : Int)) = true := by simp; omega
        by_cases h3 : E < (n : Int)
        · have k3 : decide (E < (n : Int)) = true := decide_eq_true h3
          have k4 : decide ((n : Int) > E) = true := decide_eq_true h3
          have ES := Lib.hid (show bk (k + 1) = ((n : Int), ys) from by rw [SS.out, if_pos ⟨by omega, h3⟩])
          have Q7 := Lib.hid (LS.put (F := (n : Int)) (cd := cd) Q6.out N6.out AP.out)
          clear h3 h1 SS
          go_wp2_with (rw [hw7])
          refine SC.out.mono ?_
          rintro e w8 ⟨rfl, e8⟩
          subst e8
          clear SC
          go_wp2_with fail
          exact ⟨⟨k + 1, _, (n : Int), ys, C, cd, rfl, by omega, by go_num, ES.out, Q7.out⟩, by simp [Go.RowKit.intOf]; omega⟩
        · have k3 : decide (E < (n : Int)) = false := decide_eq_false h3
          have k4 : decide ((n : Int) > E) = false := decide_eq_false h3
          have ES := Lib.hid (show bk (k + 1) = (E, zs) from by rw [SS.out, if_neg (fun h => h3 h.2)])
          clear h3 h1 SS
          go_wp2_with (rw [hw7])
          refine SC.out.mono ?_
          rintro e w8 ⟨rfl, e8⟩
          subst e8
          clear SC
          go_wp2_with fail
          exact ⟨⟨k + 1, _, E, zs, A, cb, rfl, by omega, by go_num, ES.out, Q6.out⟩, by simp [Go.RowKit.intOf]; omega⟩
      · have k1 : decide ((q : Int) = (k : Int)) = false := decide_eq_false (by omega)
        have k1b : ((q : Int) == (k : Int)) = false := by simp; omega
        have ES := Lib.hid (show bk (k + 1) = (E, zs) from by rw [SS.out, if_neg (fun h => h1 (by omega))])
        clear h1 SS
        go_wp2_with (rw [hw7])
        refine SC.out.mono ?_
        rintro e w8 ⟨rfl, e8⟩
        subst e8
        clear SC
        go_wp2_with fail
        exact ⟨⟨k + 1, _, E, zs, A, cb, rfl, by omega, by go_num, ES.out, Q6.out⟩, by simp [Go.RowKit.intOf]; omega⟩
  · obtain rfl : k = 2 := by omega
    have EL := Lib.hid (show loadM d = (E, zs) from by rw [GL.out, BK.out])
    have x0 := Q.out.res.cell 0
    have x1 := Q.out.res.cell 1
    have y0 := Q.out.box.cell 0
    have y1 := Q.out.box.cell 1
    have f0 := Q.out.res.free 0
    have f1 := Q.out.res.free 1
    clear GL BK LV GM
    by_cases h0 : E = 0
    · subst h0
      go_wp2_with fail
      have K := blk2 Q.out.res (.int .i64 0) (.slice none 0 0)
      have F := below2 (r := w.heap.size) Q.out.below (Nat.le_refl _) (.int .i64 0) (.slice none 0 0)
      have g0 := K.cell 0
      have g1 := K.cell 1
      refine bodyPost_ret (v := .tuple #[.agg #[.int .i64 0, .slice none 0 0], .int .i64 14]) (by simp [results, Tryd.results16, go_sem, g0, g1]) rfl ?_
      rw [EL.out]
      exact ⟨F, .inl ⟨rfl, rfl⟩⟩
    · have k0 : decide (E = 0) = false := decide_eq_false h0
      have k0b : (E == 0) = false := by simpa using h0
      have H0 := Lib.hid h0
      clear h0
      go_wp2_with fail
      have K := blk2 Q.out.res (.int .i64 E) (.slice A zs.length cb)
      have F := below2 (r := w.heap.size) Q.out.below (Nat.le_refl _) (.int .i64 E) (.slice A zs.length cb)
      have NN := nums2 Q.out.nums (fun h0 ad e => (Q.out.apart h0 ad e).1) (.int .i64 E) (.slice A zs.length cb)
      have g0 := K.cell 0
      have g1 := K.cell 1
      refine bodyPost_ret (v := .tuple #[.agg #[.int .i64 E, .slice A zs.length cb], .int .i64 0]) (by simp [results, Tryd.results16, go_sem, g0, g1]) rfl ?_
      rw [EL.out]
      exact ⟨F, .inr ⟨H0.out, A, cb, rfl, NN⟩⟩
end Go.Proofs.YtigjfmfhmoabiaaDoor.so
