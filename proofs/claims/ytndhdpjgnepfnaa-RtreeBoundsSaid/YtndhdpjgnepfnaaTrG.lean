/-
  R-trees: the two entries that would lie worst in one node: two of them, the first one ahead of the second.
-/
import Derived.Test.YtndhdpjgnepfnaaTrF
namespace Go.Proofs.Ytndhdpjgnepfnaa.tr
open Go.RowKit
open base (ret_bool ret_int made up Blk Only)
open rect
set_option linter.unusedVariables false
set_option linter.unusedSimpArgs false
attribute [local go_sem] Oper.semAt_some

set_option maxRecDepth 100000 in
set_option maxHeartbeats 8000000 in
theorem seeds_any (a c : Nat) (A : Option Addr) (L : List En) (w : World) (h : NAt w a A L c) (h0 : 2 ≤ L.length) (hl : L.length ≤ 1000) (hL : ∀ e ∈ L, e.b.right = true) :
    Calls Try.prog 59 #[.pointer (some ⟨a, 0, none⟩)] w fun e w' => (∃ i j : Nat, e = .returned (.tuple #[.int .i64 i, .int .i64 j]) ∧ i < j ∧ j < L.length) ∧ Below w.heap.size w w' := by
  have NA := Lib.hid h
  have RT := Lib.hid (fun (i : Nat) (hi : i < L.length) => (show (L.getD i en0).b.right = true from by
    rw [List.getD_eq_getElem?_getD, List.getElem?_eq_getElem hi, Option.getD_some]
    exact hL _ (List.getElem_mem hi)))
  have HL := Lib.hid hl
  have x0 := h.blk.cell 0
  clear h hL hl
  go_enter Try.func59, Try.ntmps59
  go_wp2_with fail
  clear x0
  go_loopw [4, 5, 6, 17] (fun fv sv wv i wr => ∃ (p s t : Nat) (x : Int) (W : World), W = wr ∧ p ≤ L.length ∧ s < t ∧ t < L.length ∧ i = .int .i64 p ∧ fv = .int .i64 s ∧ sv = .int .i64 t ∧ wv = .int .i64 x ∧ Below w.heap.size w wr) (fun _ _ _ i _ => L.length - (intOf i).toNat)
  case atStart => exact ⟨0, 0, 1, _, _, rfl, by omega, by omega, by omega, rfl, rfl, rfl, rfl, Below.refl _ _⟩
  case round =>
  obtain ⟨p, s, t, x, w5, rfl, hp, hst, ht, rfl, rfl, rfl, rfl, hb⟩ := hrel
  have HT := Lib.hid (And.intro hst ht)
  by_cases hpl : p < L.length
  · have re := RT.out _ hpl
    have n5 := NA.out.below hb
    obtain ⟨b0, o0, hA0, e0, e1, e2, e3, e4, e5⟩ := lay6 n5.lay hpl
    have EE := Lib.hid (show ∃ e, e = L.getD p en0 from ⟨_, rfl⟩)
    generalize L.getD p en0 = e at *
    obtain ⟨P, hP⟩ : ∃ P, e.ptr = .pointer P := ⟨_, rfl⟩
    rw [hP] at e4
    subst hA0
    obtain ⟨wE, hwE⟩ : ∃ wE, w5.alloc (.cells #[.int .i64 e.b.x, .int .i64 e.b.y, .int .i64 e.b.w, .int .i64 e.b.h, .pointer P, .int .i64 e.v] 79) = wE := ⟨_, rfl⟩
    have ME : Below w5.heap.size w5 wE := by rw [← hwE]; exact made w5 _
    have EB := Lib.hid (show Blk wE w5.heap.size 79 #[.int .i64 e.b.x, .int .i64 e.b.y, .int .i64 e.b.w, .int .i64 e.b.h, .pointer P, .int .i64 e.v] from by rw [← hwE]; exact Blk.new _ _ _)
    have BE := Lib.hid (show Below w.heap.size w wE from up hb ME hb.size)
    have nE := Lib.hid (n5.below ME)
    have dp : decide (p < L.length) = true := decide_eq_true hpl
    have HP := Lib.hid hpl
    have i0 : (0 : Int) ≤ (p : Int) := Int.natCast_nonneg _
    have HWE := Lib.hid hwE
    have WK := Lib.hid (show IntKind.i64.wrap ((p : Int) + 1) = (p : Int) + 1 from IntWalk.i64_in _ (by have := HL.out; omega))
    have RE := Lib.hid re
    have d2 : decide ((p : Int) ≤ (c : Int)) = true := decide_eq_true (by have := nE.out.cap; omega)
    have d3 : (p : Int) ≤ (c : Int) := by have := nE.out.cap; omega
    clear hb hp hP hwE ME n5 re EE
    go_upto_region 5 with fail
    have hwE := HWE.out
    simp only [hwE]
    clear hwE HWE e0 e1 e2 e3 e4 e5
    have x0 := nE.out.blk.cell 0
    go_wp2_with fail
    clear x0
    generalize hg8 : w5.heap.size = g8 at *
    have EV := Lib.hid (show e = L.getD p en0 → True from fun _ => trivial)
    go_loopw [4, 5, 6, 29] (fun fv sv wv j wr => ∃ (m s t : Nat) (x : Int) (W : World), W = wr ∧ m ≤ p ∧ s < t ∧ t < L.length ∧ j = .int .i64 m ∧ fv = .int .i64 s ∧ sv = .int .i64 t ∧ wv = .int .i64 x ∧ Below wE.heap.size wE wr) (fun _ _ _ j _ => p - (intOf j).toNat)
    case atStart => exact ⟨0, s, t, x, _, rfl, by omega, HT.out.1, HT.out.2, rfl, rfl, rfl, rfl, Below.refl _ _⟩
    case round =>
    obtain ⟨m, s2, t2, x2, w7, rfl, hm, hst2, ht2, rfl, rfl, rfl, rfl, hb7⟩ := hrel
    have HT2 := Lib.hid (And.intro hst2 ht2)
    by_cases hmp : m < p
    · have rf := RT.out m (by have := HP.out; omega)
      have n7 := nE.out.below hb7
      obtain ⟨b0', o0', eqA, e0, e1, e2, e3, e4, e5⟩ := lay6 n7.lay (i := m) (by have := HP.out; omega)
      injection eqA with eqA
      injection eqA with eq1 eq2
      subst eq1 eq2
      generalize L.getD m en0 = f at *
      obtain ⟨P2, hP2⟩ : ∃ P, f.ptr = .pointer P := ⟨_, rfl⟩
      rw [hP2] at e4
      obtain ⟨wF, hwF⟩ : ∃ wF, w7.alloc (.cells #[.int .i64 f.b.x, .int .i64 f.b.y, .int .i64 f.b.w, .int .i64 f.b.h, .pointer P2, .int .i64 f.v] 79) = wF := ⟨_, rfl⟩
      have MF : Below w7.heap.size w7 wF := by rw [← hwF]; exact made w7 _
      have FB : Blk wF w7.heap.size 79 #[.int .i64 f.b.x, .int .i64 f.b.y, .int .i64 f.b.w, .int .i64 f.b.h, .pointer P2, .int .i64 f.v] := by rw [← hwF]; exact Blk.new _ _ _
      have BF := Lib.hid (show Below wE.heap.size wE wF from up hb7 MF hb7.size)
      have eb := (EB.out.below hb7 EB.out.lt).below MF (Nat.lt_of_lt_of_le EB.out.lt hb7.size)
      have SS := Lib.hid (fun W (hW : Below wF.heap.size wF W) => (show (fun ws => ws.cell? ⟨g8, 0, none⟩ = some (.int .i64 e.b.x) ∧ ws.cell? ⟨g8, 1, none⟩ = some (.int .i64 e.b.y) ∧ ws.cell? ⟨g8, 2, none⟩ = some (.int .i64 e.b.w) ∧ ws.cell? ⟨g8, 3, none⟩ = some (.int .i64 e.b.h) ∧ ws.cell? ⟨w7.heap.size, 0, none⟩ = some (.int .i64 f.b.x) ∧ ws.cell? ⟨w7.heap.size, 1, none⟩ = some (.int .i64 f.b.y) ∧ ws.cell? ⟨w7.heap.size, 2, none⟩ = some (.int .i64 f.b.w) ∧ ws.cell? ⟨w7.heap.size, 3, none⟩ = some (.int .i64 f.b.h)) W from
        ⟨(eb.below hW eb.lt).cell 0, (eb.below hW eb.lt).cell 1, (eb.below hW eb.lt).cell 2, (eb.below hW eb.lt).cell 3, (FB.below hW FB.lt).cell 0, (FB.below hW FB.lt).cell 1, (FB.below hW FB.lt).cell 2, (FB.below hW FB.lt).cell 3⟩))
      have JN := Lib.hid (fun W => join_any e.b f.b W)
      have jr := (jo_right RE.out rf).1
      have A1 := Lib.hid (fun W => area_any (jo e.b f.b) W jr)
      have A2 := Lib.hid (fun W => area_any e.b W RE.out)
      have A3 := Lib.hid (fun W => area_any f.b W rf)
      have l1 := ar_le jr
      have l2 := ar_le RE.out
      have l3 := ar_le rf
      generalize ar (jo e.b f.b) = X at *
      generalize ar e.b = Y at *
      generalize ar f.b = Z at *
      have wm1 : Hid (IntKind.i64.wrap ((m : Int) + 1) = (m : Int) + 1) := Lib.hid (IntWalk.i64_in _ (by have := HL.out; have := HP.out; omega))
      have K1 := Lib.hid (show IntKind.i64.wrap (X - Y) = X - Y from IntWalk.i64_in _ (by omega))
      have K2 := Lib.hid (show IntKind.i64.wrap (X - Y - Z) = X - Y - Z from IntWalk.i64_in _ (by omega))
      have dm : decide (m < p) = true := decide_eq_true hmp
      have HM := Lib.hid hmp
      have j0 : (0 : Int) ≤ (m : Int) := Int.natCast_nonneg _
      have HWF := Lib.hid hwF
      have B0 := Lib.hid (show Below wF.heap.size wF wF.drew from base.below_drewN (Below.refl _ wF) 1)
      clear hb7 hm hP2 hwF MF FB eb n7 rf jr l1 l2 l3 hst2 ht2
      go_upto_region 8 with fail
      have hwF := HWF.out
      simp only [hwF]
      clear hwF HWF e0 e1 e2 e3 e4 e5
      have k1 := K1.out
      have k2 := K2.out
      refine wp_region_held_drew (S := (fun ws => ws.cell? ⟨g8, 0, none⟩ = some (.int .i64 e.b.x) ∧ ws.cell? ⟨g8, 1, none⟩ = some (.int .i64 e.b.y) ∧ ws.cell? ⟨g8, 2, none⟩ = some (.int .i64 e.b.w) ∧ ws.cell? ⟨g8, 3, none⟩ = some (.int .i64 e.b.h) ∧ ws.cell? ⟨w7.heap.size, 0, none⟩ = some (.int .i64 f.b.x) ∧ ws.cell? ⟨w7.heap.size, 1, none⟩ = some (.int .i64 f.b.y) ∧ ws.cell? ⟨w7.heap.size, 2, none⟩ = some (.int .i64 f.b.w) ∧ ws.cell? ⟨w7.heap.size, 3, none⟩ = some (.int .i64 f.b.h))) (by kernel_rfl) (SS.out _ B0.out) (fun hHeld => ?_)
      refine wpAnyH_take (i := 0) (v := ?_) rfl (by kernel_rfl) (by kernel_rfl) (by kernel_rfl) (fun _ _ _ h => h) (Or.inl ⟨by rfl, ?_⟩) (by assumption) ?_
      rotate_left
      · (intro w hSw; (try dsimp only at hSw); first | (go_simp; done) | (go_simp; with_reducible rfl))
      simp only [Act.put, List.getElem_toArray, List.getElem_cons_zero, List.getElem_cons_succ, List.setIfInBounds_toArray, List.set_cons_zero, List.set_cons_succ]
      refine wpAnyH_take (i := 1) (v := ?_) rfl (by kernel_rfl) (by kernel_rfl) (by kernel_rfl) (fun _ _ _ h => h) (Or.inl ⟨by rfl, ?_⟩) (by assumption) ?_
      rotate_left
      · (intro w hSw; (try dsimp only at hSw); first | (go_simp; done) | (go_simp; with_reducible rfl))
      simp only [Act.put, List.getElem_toArray, List.getElem_cons_zero, List.getElem_cons_succ, List.setIfInBounds_toArray, List.set_cons_zero, List.set_cons_succ]
      refine wpAnyH_take (i := 2) (v := ?_) rfl (by kernel_rfl) (by kernel_rfl) (by kernel_rfl) (fun _ _ _ h => h) (Or.inl ⟨by rfl, ?_⟩) (by assumption) ?_
      rotate_left
      · (intro w hSw; (try dsimp only at hSw); first | (go_simp; done) | (go_simp; with_reducible rfl))
      simp only [Act.put, List.getElem_toArray, List.getElem_cons_zero, List.getElem_cons_succ, List.setIfInBounds_toArray, List.set_cons_zero, List.set_cons_succ]
      refine wpAnyH_take (i := 3) (v := ?_) rfl (by kernel_rfl) (by kernel_rfl) (by kernel_rfl) (fun _ _ _ h => h) (Or.inl ⟨by rfl, ?_⟩) (by assumption) ?_
      rotate_left
      · (intro w hSw; (try dsimp only at hSw); first | (go_simp; done) | (go_simp; with_reducible rfl))
      simp only [Act.put, List.getElem_toArray, List.getElem_cons_zero, List.getElem_cons_succ, List.setIfInBounds_toArray, List.set_cons_zero, List.set_cons_succ]
      refine wpAnyH_take (i := 6) (v := ?_) rfl (by kernel_rfl) (by kernel_rfl) (by kernel_rfl) (fun _ _ _ h => h) (Or.inl ⟨by rfl, ?_⟩) (by assumption) ?_
      rotate_left
      · (intro w hSw; (try dsimp only at hSw); first | (go_simp; done) | (go_simp; with_reducible rfl))
      simp only [Act.put, List.getElem_toArray, List.getElem_cons_zero, List.getElem_cons_succ, List.setIfInBounds_toArray, List.set_cons_zero, List.set_cons_succ]
      refine wpAnyH_take (i := 7) (v := ?_) rfl (by kernel_rfl) (by kernel_rfl) (by kernel_rfl) (fun _ _ _ h => h) (Or.inl ⟨by rfl, ?_⟩) (by assumption) ?_
      rotate_left
      · (intro w hSw; (try dsimp only at hSw); first | (go_simp; done) | (go_simp; with_reducible rfl))
      simp only [Act.put, List.getElem_toArray, List.getElem_cons_zero, List.getElem_cons_succ, List.setIfInBounds_toArray, List.set_cons_zero, List.set_cons_succ]
      refine wpAnyH_take (i := 10) (v := ?_) rfl (by kernel_rfl) (by kernel_rfl) (by kernel_rfl) (fun _ _ _ h => h) (Or.inl ⟨by rfl, ?_⟩) (by assumption) ?_
      rotate_left
      · (intro w hSw; (try dsimp only at hSw); first | (go_simp; done) | (go_simp; with_reducible rfl))
      simp only [Act.put, List.getElem_toArray, List.getElem_cons_zero, List.getElem_cons_succ, List.setIfInBounds_toArray, List.set_cons_zero, List.set_cons_succ]
      refine wpAnyH_take (i := 11) (v := ?_) rfl (by kernel_rfl) (by kernel_rfl) (by kernel_rfl) (fun _ _ _ h => h) (Or.inl ⟨by rfl, ?_⟩) (by assumption) ?_
      rotate_left
      · (intro w hSw; (try dsimp only at hSw); first | (go_simp; done) | (go_simp; with_reducible rfl))
      simp only [Act.put, List.getElem_toArray, List.getElem_cons_zero, List.getElem_cons_succ, List.setIfInBounds_toArray, List.set_cons_zero, List.set_cons_succ]
      refine wpAnyH_ready (rs := [4]) (by kernel_rfl) (by simp) ?_
      refine AllReadyH.cons rfl (fun K hK => ?_) AllReadyH.nil
      go_simp
      refine (JN.out _).mono ?_
      rintro e' w8 ⟨rfl, hb8⟩
      have B8 := Lib.hid (B0.out.trans (hb8.mono B0.out.size))
      refine hK.out _ _ (SS.out _ B8.out) (fun hHeld2 => ?_)
      clear hK K hHeld hb8 JN
      refine wpAnyH_ready (rs := [5]) (by kernel_rfl) (by simp) ?_
      refine AllReadyH.cons rfl (fun K hK => ?_) AllReadyH.nil
      go_simp
      refine (A1.out _).mono ?_
      rintro e' w9 ⟨rfl, hb9⟩
      have B9 := Lib.hid (B8.out.trans (hb9.mono B8.out.size))
      refine hK.out _ _ (SS.out _ B9.out) (fun hHeld => ?_)
      clear hK K hHeld2 hb9 A1
      refine wpAnyH_ready (rs := [8]) (by kernel_rfl) (by simp) ?_
      refine AllReadyH.cons rfl (fun K hK => ?_) AllReadyH.nil
      go_simp
      refine (A2.out _).mono ?_
      rintro e' wa ⟨rfl, hba⟩
      have Ba := Lib.hid (B9.out.trans (hba.mono B9.out.size))
      refine hK.out _ _ (SS.out _ Ba.out) (fun hHeld2 => ?_)
      clear hK K hHeld hba A2
      refine wpAnyH_take (i := 9) (v := ?_) rfl (by kernel_rfl) (by kernel_rfl) (by kernel_rfl) (fun _ _ _ h => h) (Or.inl ⟨by rfl, ?_⟩) (by assumption) ?_
      rotate_left
      · (intro w hSw; (try dsimp only at hSw); first | (go_simp; done) | (go_simp; with_reducible rfl))
      simp only [Act.put, List.getElem_toArray, List.getElem_cons_zero, List.getElem_cons_succ, List.setIfInBounds_toArray, List.set_cons_zero, List.set_cons_succ]
      refine wpAnyH_ready (rs := [12]) (by kernel_rfl) (by simp) ?_
      refine AllReadyH.cons rfl (fun K hK => ?_) AllReadyH.nil
      go_simp
      refine (A3.out _).mono ?_
      rintro e' wb ⟨rfl, hbb⟩
      have Bb := Lib.hid (Ba.out.trans (hbb.mono Ba.out.size))
      refine hK.out _ _ (SS.out _ Bb.out) (fun hHeld => ?_)
      clear hK K hHeld2 hbb A3
      refine wpAnyH_take (i := 13) (v := ?_) rfl (by kernel_rfl) (by kernel_rfl) (by kernel_rfl) (fun _ _ _ h => h) (Or.inl ⟨by rfl, ?_⟩) (by assumption) ?_
      rotate_left
      · (intro w hSw; (try dsimp only at hSw); first | (go_simp; done) | (go_simp; with_reducible rfl))
      simp only [Act.put, List.getElem_toArray, List.getElem_cons_zero, List.getElem_cons_succ, List.setIfInBounds_toArray, List.set_cons_zero, List.set_cons_succ]
      refine wpAnyH_take (i := 14) (v := ?_) rfl (by kernel_rfl) (by kernel_rfl) (by kernel_rfl) (fun _ _ _ h => h) (Or.inl ⟨by rfl, ?_⟩) (by assumption) ?_
      rotate_left
      · (intro w hSw; (try dsimp only at hSw); first | (go_simp; done) | (go_simp; with_reducible rfl))
      simp only [Act.put, List.getElem_toArray, List.getElem_cons_zero, List.getElem_cons_succ, List.setIfInBounds_toArray, List.set_cons_zero, List.set_cons_succ]
      refine wpAnyH_done (by kernel_rfl) ?_ _
      clear hHeld k1 k2
      have F := Lib.hid (up BF.out Bb.out BF.out.size)
      generalize X - Y - Z = D at *
      have wm := wm1.out
      by_cases hp1 : p = 1
      · have q1 : ((p : Int) == 1) = true := by rw [hp1]; rfl
        have q2 : decide ((p : Int) = 1) = true := decide_eq_true (by rw [hp1]; rfl)
        have q5 : decide (p = 1) = true := decide_eq_true hp1
        have q6 : (p = 1) = True := eq_true hp1
        have hun : undef = Value.tuple #[] := rfl
        clear hun hp1 i0 j0 d3
        go_wp2_with fail
        clear wm
        exact ⟨⟨m + 1, m, p, D, _, rfl, by have := HM.out; omega, HM.out, HP.out, by go_num, rfl, rfl, rfl, F.out⟩, by have := HM.out; simp [intOf]; omega⟩
      · have q1 : ((p : Int) == 1) = false := by rw [beq_eq_false_iff_ne]; clear wm; omega
        have q2 : decide ((p : Int) = 1) = false := decide_eq_false (by clear wm; omega)
        have q5 : decide (p = 1) = false := decide_eq_false hp1
        have q6 : (p = 1) = False := eq_false hp1
        by_cases hD : x2 < D
        · have q3 : decide (x2 < D) = true := decide_eq_true hD
          clear hD hp1 i0 j0 d3
          go_wp2_with fail
          clear wm
          exact ⟨⟨m + 1, m, p, D, _, rfl, by have := HM.out; omega, HM.out, HP.out, by go_num, rfl, rfl, rfl, F.out⟩, by have := HM.out; simp [intOf]; omega⟩
        · have q3 : decide (x2 < D) = false := decide_eq_false hD
          clear hD hp1 i0 j0 d3
          go_wp2_with fail
          clear wm
          exact ⟨⟨m + 1, s2, t2, x2, _, rfl, by have := HM.out; omega, HT2.out.1, HT2.out.2, by go_num, rfl, rfl, rfl, F.out⟩, by have := HM.out; simp [intOf]; omega⟩
    · have dm : decide (m < p) = false := decide_eq_false hmp
      have F := Lib.hid (up BE.out hb7 BE.out.size)
      have wk := WK.out
      clear hb7 hm hmp i0 d3 hst2 ht2
      go_wp2_with fail
      clear wk
      exact ⟨⟨p + 1, s2, t2, x2, _, rfl, by have := HP.out; omega, HT2.out.1, HT2.out.2, by go_num, rfl, rfl, rfl, F.out⟩, by have := HP.out; simp [intOf]; omega⟩
  · have dp : decide (p < L.length) = false := decide_eq_false hpl
    have F := Lib.hid hb
    clear hb hp hpl
    go_wp2_with fail
    exact bodyPost_ret (v := .tuple #[.int .i64 s, .int .i64 t]) (by simp [results, Try.results59, go_sem]) rfl ⟨⟨s, t, rfl, HT.out.1, HT.out.2⟩, F.out⟩
end Go.Proofs.Ytndhdpjgnepfnaa.tr
