/-
  R-trees: a thing is taken away from below a node.
-/
import Derived.Test.YtndhdpjgnepfnaaTrW
namespace Go.Proofs.Ytndhdpjgnepfnaa.tr
open Go.RowKit
open base (ret_bool ret_int made up Blk Only)
open rk (Lay)
open rect
set_option linter.unusedVariables false
set_option linter.unusedSimpArgs false
attribute [local go_sem] Oper.semAt_some

set_option maxRecDepth 100000 in
set_option maxHeartbeats 8000000 in
theorem rem_succ (h : Nat) (hh : h ≤ 1000) (IH : RemOK h) : RemOK (h + 1) := by
  intro g v X r val lo vl O w hn h4 hs hO hlo hvl
  obtain ⟨A, c, rfl, hna⟩ := hn.nat
  generalize hH1 : ((h + 1 : Nat) : Int) = H1
  obtain ⟨w1, hw1⟩ : ∃ w1, w.alloc (.cells #[.int .i64 r.x, .int .i64 r.y, .int .i64 r.w, .int .i64 r.h] 28) = w1 := ⟨_, rfl⟩
  have M1 := Lib.hid (show Below w.heap.size w w1 from by rw [← hw1]; exact made w _)
  have RB := Lib.hid (show Blk w1 w.heap.size 28 #[.int .i64 r.x, .int .i64 r.y, .int .i64 r.w, .int .i64 r.h] from by rw [← hw1]; exact Blk.new _ _ _)
  have HN := Lib.hid (hn.below M1.out)
  have HS := Lib.hid (hs.below M1.out)
  have HLO := Lib.hid (And.intro hlo hvl)
  have H4 := Lib.hid h4
  have HO := Lib.hid hO
  have HLS := Lib.hid hs.lt
  have HFT := Lib.hid hn.lt
  have HW1 := Lib.hid hw1
  have c0 := HN.out.blk.cell 0
  clear hn h4 hs hO hlo hvl hna hw1
  go_enter Try.func44, Try.ntmps44
  go_upto_region 1 with fail
  have hw1 := HW1.out
  simp only [hw1]
  clear hw1 HW1
  go_wp2_with fail
  generalize hrb : w.heap.size = rb at *
  have HRB := Lib.hid hrb
  clear hrb c0
  go_loopw [20] (fun i wr => ∃ (p : Nat) (W : World), W = wr ∧ p ≤ X.length ∧ i = .int .i64 p ∧ Below w1.heap.size w1 wr ∧ ∀ (j : Nat) (hj : j < X.length), j < p → (r, val) ∉ X[j].S) (fun i _ => X.length - (intOf i).toNat)
  case atStart => exact ⟨0, _, rfl, by omega, rfl, Below.refl _ _, fun j hj h => absurd h (by omega)⟩
  case round =>
  obtain ⟨p, w5, rfl, hp, rfl, hb, hno⟩ := hrel
  have BE := Lib.hid hb
  have NO := Lib.hid hno
  have UN := Lib.hid (show Below w.heap.size w w1 from by rw [HRB.out]; exact M1.out)
  by_cases hpl : p < X.length
  · have N5 := Lib.hid (HN.out.below hb)
    obtain ⟨gr, c', cs, z0, -⟩ := N5.out.own.full (by rw [ens_len]; omega)
    injection z0 with z0 z1 z2
    subst z0
    clear z1 z2 cs c'
    have r6 := row6 (own_lay N5.out.own).1 (k := p) (by rw [ens_len]; exact hpl)
    rw [ens_get hpl] at r6
    have EN := Lib.hid (N5.out.ent X[p] (List.getElem_mem hpl))
    obtain ⟨e, he⟩ : ∃ e, X[p].e = e := ⟨_, rfl⟩
    have HE := Lib.hid he
    rw [he] at r6
    obtain ⟨gk, vk, Xk, z1, z2, z3, z4, z5, z6, z7, z8⟩ := EN.out.kid
    have z1' := z1
    rw [he] at z1'
    have hP : e.ptr = .pointer (some ⟨gk, 0, none⟩) := by unfold En.ptr; rw [z1']; rfl
    have KX := Lib.hid (And.intro z1 (And.intro z2 (And.intro z6 (And.intro z7 (And.intro z3 z4)))))
    have KN := Lib.hid z8
    clear z1 z2 z3 z4 z5 z6 z7 z8 z1'
    obtain ⟨P, hPP⟩ : ∃ P, P = some (⟨gk, 0, none⟩ : Addr) := ⟨_, rfl⟩
    rw [← hPP] at hP
    have HPP := Lib.hid hPP
    clear hPP
    rw [hP] at r6
    obtain ⟨e0, e1, e2, e3, e4, e5⟩ := r6
    obtain ⟨wE, hwE⟩ : ∃ wE, w5.alloc (.cells #[.int .i64 e.b.x, .int .i64 e.b.y, .int .i64 e.b.w, .int .i64 e.b.h, .pointer P, .int .i64 e.v] 79) = wE := ⟨_, rfl⟩
    have ME := Lib.hid (show Below w5.heap.size w5 wE from by rw [← hwE]; exact made w5 _)
    have EB := Lib.hid (show Blk wE w5.heap.size 79 #[.int .i64 e.b.x, .int .i64 e.b.y, .int .i64 e.b.w, .int .i64 e.b.h, .pointer P, .int .i64 e.v] from by rw [← hwE]; exact Blk.new _ _ _)
    have RE := Lib.hid ((RB.out.below hb RB.out.lt).below ME.out (Nat.lt_of_lt_of_le RB.out.lt hb.size))
    have BF := Lib.hid (up BE.out ME.out BE.out.size)
    have dp : decide (p < X.length) = true := decide_eq_true hpl
    have wp1 : IntKind.i64.wrap ((p : Int) + 1) = (p : Int) + 1 := IntWalk.i64_in _ (by have := H4.out; omega)
    have i0 : (0 : Int) ≤ (p : Int) := Int.natCast_nonneg _
    have HWE := Lib.hid hwE
    clear hb hp hno hwE hP
    go_upto_region 4 with fail
    have hwE := HWE.out
    simp only [hwE]
    clear hwE HWE e0 e1 e2 e3 e4 e5
    obtain ⟨x0, x1, x2, x3⟩ := RE.out.four
    have y0 := EB.out.cell 0
    have y1 := EB.out.cell 1
    have y2 := EB.out.cell 2
    have y3 := EB.out.cell 3
    have y4 := EB.out.cell 4
    have q0 : (H1 == 0) = false := by rw [beq_eq_false_iff_ne]; omega
    have q0b : decide (H1 = 0) = false := decide_eq_false (by omega)
    have wk : IntKind.i64.wrap (H1 - 1) = (h : Int) := by rw [IntWalk.i64_in _ (by omega)]; omega
    have IN := Lib.hid (in_any r e.b wE)
    have NX := Lib.hid (fun (hne : (r, val) ∉ X[p].S) => (show ∀ (j : Nat) (hj : j < X.length), j < p + 1 → (r, val) ∉ X[j].S from fun j hj hjp => by
      by_cases hjp2 : j = p
      · subst hjp2
        exact hne
      · exact NO.out j hj (by omega)))
    have TH := Lib.hid (fun (hm : (r, val) ∈ X[p].S) => (show r.right = true ∧ Within r e.b from by
      have := EN.out.thing hm
      rw [he] at this
      exact this))
    have EG := Lib.hid (show e.b.right = true from by have := EN.out.good.bright; rw [he] at this; exact this)
    clear he EN HE hH1
    go_wp2_with fail
    refine IN.out.mono ?_
    rintro e7 w8 ⟨⟨b, rfl, hbin⟩, hb8⟩
    have B8 := Lib.hid (up BF.out hb8 BF.out.size)
    have E8 := Lib.hid (EB.out.below hb8 EB.out.lt)
    have R8 := Lib.hid (RE.out.below hb8 RE.out.lt)
    have Z8 := Lib.hid (show w5.heap.size < w8.heap.size ∧ w1.heap.size ≤ w5.heap.size ∧ w.heap.size ≤ w1.heap.size from ⟨Nat.lt_of_lt_of_le EB.out.lt hb8.size, BE.out.size, UN.out.size⟩)
    clear x0 x1 x2 x3 y0 y1 y2 y3 y4 IN hb8
    cases b
    · have NY := Lib.hid (NX.out (fun hm => by
        have := TH.out hm
        have := hbin this.1 EG.out this.2
        cases this))
      clear hbin NX TH
      go_wp2_with fail
      clear wp1
      exact ⟨⟨p + 1, _, rfl, by omega, by go_num, B8.out, NY.out⟩, by simp [intOf]; omega⟩
    · have N8 := Lib.hid (HN.out.below B8.out)
      have KN8 := Lib.hid (show NdOf (Ent h) w8 gk vk Xk from KN.out.keeps (fun k hk => B8.out.block k (by
        have := HFT.out k (.inr (.inr ⟨X[p], List.getElem_mem hpl, by rw [KX.out.2.2.2.1]; exact hk⟩))
        have := Z8.out
        have := HRB.out
        omega) |>.trans (BE.out.block k (by
        have := HFT.out k (.inr (.inr ⟨X[p], List.getElem_mem hpl, by rw [KX.out.2.2.2.1]; exact hk⟩))
        have := Z8.out
        have := HRB.out
        omega)).symm))
      have S8 := Lib.hid (HS.out.below B8.out)
      have ksub : ∀ k, foot gk vk Xk k → foot g (.slice (some ⟨gr, 0, none⟩) X.length c) X k := fun k hk => .inr (.inr ⟨X[p], List.getElem_mem hpl, by rw [KX.out.2.2.2.1]; exact hk⟩)
      have RM := Lib.hid (IH gk vk Xk r val lo vl O w8 KN8.out (by have := KX.out; omega) S8.out HO.out (fun q => HLO.out.1 (ksub lo q)) (fun k e q => HLO.out.2 k e (ksub k q)))
      have KS := Lib.hid ksub
      obtain ⟨x0, x1, x2, x3⟩ := R8.out.four
      have y4 := E8.out.cell 4
      rw [HPP.out] at y4
      clear hbin TH ksub
      go_wp2_with fail
      refine RM.out.mono ?_
      rintro e9 w9 hrm
      rcases hrm with ⟨rfl, hb9, hno9⟩ | ⟨rfl, v1, X1, vl1, Os, hr⟩
      · have B9 := Lib.hid (up B8.out hb9 B8.out.size)
        have NY := Lib.hid (NX.out (by rw [KX.out.2.2.1]; exact hno9))
        clear hb9 hno9 NX RM x0 x1 x2 x3 y4
        go_wp2_with fail
        clear wp1
        exact ⟨⟨p + 1, _, rfl, by omega, by go_num, B9.out, NY.out⟩, by simp [intOf]; omega⟩
      · have HR := Lib.hid hr
        obtain ⟨A1, c1, rfl, n1⟩ := hr.nd.nat
        have EF : ¬ (foot gk vk Xk w5.heap.size ∨ w5.heap.size = lo ∨ vl.ownBlock = some w5.heap.size) := fun q => by
          have zz := Z8.out
          have zy := HRB.out
          rcases q with q | q | q
          · have := HFT.out _ (KS.out _ q)
            omega
          · have := HLS.out.1
            omega
          · have := HLS.out.2 _ q
            omega
        have E9 := Lib.hid (E8.out.only hr.only EF)
        have gF : ¬ (foot gk vk Xk g ∨ g = lo ∨ vl.ownBlock = some g) := fun q => by
          rcases q with q | q | q
          · exact (beside (Y := []) N8.out hpl KX.out.2.2.2.1 q).1 rfl
          · exact HLO.out.1 (.inl q.symm)
          · exact HLO.out.2 g q (.inl rfl)
        have grF : ∀ k, (Value.slice (some ⟨gr, 0, none⟩) X.length c).ownBlock = some k → ¬ (foot gk vk Xk k ∨ k = lo ∨ vl.ownBlock = some k) := fun k e q => by
          rcases q with q | q | q
          · exact (N8.out.ap1 X[p] (List.getElem_mem hpl)).2 k e (by rw [KX.out.2.2.2.1]; exact q)
          · exact HLO.out.1 (.inr (.inl (by rw [← q]; exact e)))
          · exact HLO.out.2 k q (.inr (.inl e))
        have G9 := Lib.hid (N8.out.blk.only hr.only gF)
        have O9 := Lib.hid (N8.out.own.only hr.only grF)
        have K9 := Lib.hid n1
        have ngr := Lib.hid (show gr ≠ g ∧ w5.heap.size ≠ gr ∧ w5.heap.size ≠ g from ⟨fun e => N8.out.ap0 (by rw [← e]; rfl), fun e => by
          have := HFT.out gr (.inr (.inl rfl))
          have := Z8.out
          have := HRB.out
          omega, fun e => by
          have := HFT.out g (.inl rfl)
          have := Z8.out
          have := HRB.out
          omega⟩)
        have y4 := E9.out.cell 4
        rw [HPP.out] at y4
        have c0 : w9.cell? ⟨gk, 0, none⟩ = some (.slice A1 X1.length c1) := by
          have := n1.blk.cell 0
          rw [ens_len] at this
          exact this
        have UN8 := Lib.hid (up UN.out B8.out UN.out.size)
        by_cases l2 : 2 ≤ X1.length
        · have d2 : decide ((X1.length : Int) ≥ 2) = true := decide_eq_true (by omega)
          have d2b : (2 ≤ X1.length) = True := eq_true l2
          have RK := Lib.hid (fun wz (hz : Below w9.heap.size w9 wz) => rem_kid N8.out hpl KX.out.1 KX.out.2.1 KX.out.2.2.1 KX.out.2.2.2.1 HLO.out.1 HLO.out.2 HR.out l2 (by have := HR.out.less; have := KX.out; omega) hz)
          have BX := Lib.hid (fun W (hW : Below w9.heap.size w9 W) => nbox_any gk c1 A1 (ens X1) W (K9.out.below hW) (by rw [ens_len]; have := HR.out.less; have := KX.out; omega))
          rw [HR.out.nd.box] at BX
          generalize bb ((all X1).map Prod.fst) = bx at *
          have FC := Lib.hid (fun (W : World) (hW : Below w9.heap.size w9 W) => (show W.cell? ⟨g, 0, none⟩ = some (.slice (some ⟨gr, 0, none⟩) X.length c) ∧ W.cell? ⟨w5.heap.size, 4, none⟩ = some (.pointer (some ⟨gk, 0, none⟩)) from ⟨(G9.out.below hW G9.out.lt).cell 0, by
            have := (E9.out.below hW E9.out.lt).cell 4
            rw [HPP.out] at this
            exact this⟩))
          clear hr n1 EF gF grF NX RM x0 x1 x2 x3 wp1 i0 dp
          go_wp2_with fail
          clear y4 c0 d2 d2b
          refine wp_region_held_drew (S := (fun ws => ws.cell? ⟨g, 0, none⟩ = some (.slice (some ⟨gr, 0, none⟩) X.length c) ∧ ws.cell? ⟨w5.heap.size, 4, none⟩ = some (.pointer (some ⟨gk, 0, none⟩)))) (by kernel_rfl) (FC.out _ (base.below_drewN (Below.refl _ w9) 1)) (fun hHeld => ?_)
          refine wpAnyH_take (i := 0) (v := ?_) rfl (by kernel_rfl) (by kernel_rfl) (by kernel_rfl) (fun _ _ _ h => h) (Or.inl ⟨by rfl, ?_⟩) (by assumption) ?_
          rotate_left
          · (intro w hSw; (try dsimp only at hSw); first | (go_simp; done) | (go_simp; with_reducible rfl))
          simp only [Act.put, List.getElem_toArray, List.getElem_cons_zero, List.getElem_cons_succ, List.setIfInBounds_toArray, List.set_cons_zero, List.set_cons_succ]
          refine wpAnyH_take (i := 1) (v := ?_) rfl (by kernel_rfl) (by kernel_rfl) (by kernel_rfl) (fun _ _ _ h => h) (Or.inl ⟨by rfl, ?_⟩) (by assumption) ?_
          rotate_left
          · (intro w hSw; (try dsimp only at hSw); first | (go_simp; done) | (go_simp; with_reducible rfl))
          simp only [Act.put, List.getElem_toArray, List.getElem_cons_zero, List.getElem_cons_succ, List.setIfInBounds_toArray, List.set_cons_zero, List.set_cons_succ]
          refine wpAnyH_take (i := 2) (v := ?_) rfl (by kernel_rfl) (by kernel_rfl) (by kernel_rfl) (fun _ _ _ h => h) (Or.inl ⟨by rfl, ?_⟩) (by assumption) ?_
          rotate_left
          · (intro w hSw; (try dsimp only at hSw); first | (go_simp; done) | (go_simp; with_reducible rfl))
          simp only [Act.put, List.getElem_toArray, List.getElem_cons_zero, List.getElem_cons_succ, List.setIfInBounds_toArray, List.set_cons_zero, List.set_cons_succ]
          refine wpAnyH_take (i := 3) (v := ?_) rfl (by kernel_rfl) (by kernel_rfl) (by kernel_rfl) (fun _ _ _ h => h) (Or.inl ⟨by rfl, ?_⟩) (by assumption) ?_
          rotate_left
          · (intro w hSw; (try dsimp only at hSw); first | (go_simp; done) | (go_simp; with_reducible rfl))
          simp only [Act.put, List.getElem_toArray, List.getElem_cons_zero, List.getElem_cons_succ, List.setIfInBounds_toArray, List.set_cons_zero, List.set_cons_succ]
          refine wpAnyH_take (i := 4) (v := ?_) rfl (by kernel_rfl) (by kernel_rfl) (by kernel_rfl) (fun _ _ _ h => h) (Or.inl ⟨by rfl, ?_⟩) (by assumption) ?_
          rotate_left
          · (intro w hSw; (try dsimp only at hSw); first | (go_simp; done) | (go_simp; with_reducible rfl))
          simp only [Act.put, List.getElem_toArray, List.getElem_cons_zero, List.getElem_cons_succ, List.setIfInBounds_toArray, List.set_cons_zero, List.set_cons_succ]
          refine wpAnyH_take (i := 5) (v := ?_) rfl (by kernel_rfl) (by kernel_rfl) (by kernel_rfl) (fun _ _ _ h => h) (Or.inl ⟨by rfl, ?_⟩) (by assumption) ?_
          rotate_left
          · (intro w hSw; (try dsimp only at hSw); first | (go_simp; done) | (go_simp; with_reducible rfl))
          simp only [Act.put, List.getElem_toArray, List.getElem_cons_zero, List.getElem_cons_succ, List.setIfInBounds_toArray, List.set_cons_zero, List.set_cons_succ]
          refine wpAnyH_take (i := 6) (v := ?_) rfl (by kernel_rfl) (by kernel_rfl) (by kernel_rfl) (fun _ _ _ h => h) (Or.inl ⟨by rfl, ?_⟩) (by assumption) ?_
          rotate_left
          · (intro w hSw; (try dsimp only at hSw); first | (go_simp; done) | (go_simp; with_reducible rfl))
          simp only [Act.put, List.getElem_toArray, List.getElem_cons_zero, List.getElem_cons_succ, List.setIfInBounds_toArray, List.set_cons_zero, List.set_cons_succ]
          refine wpAnyH_ready (rs := [7]) (by kernel_rfl) (by simp) ?_
          refine AllReadyH.cons rfl (fun K hK => ?_) AllReadyH.nil
          go_simp
          refine (BX.out _ (base.below_drewN (Below.refl _ w9) 1)).mono ?_
          rintro ea wa ⟨rfl, hba⟩
          have BA := Lib.hid (show Below w9.heap.size w9 wa from (base.below_drewN (Below.refl w9.heap.size w9) 1).trans hba)
          refine hK.out _ _ (FC.out _ BA.out) (fun hHeld2 => ?_)
          clear hK K hHeld hba BX
          have dp : (p : Int) < (X.length : Int) := by omega
          have i0 : (0 : Int) ≤ (p : Int) := Int.natCast_nonneg _
          refine wpAnyH_take (i := 8) (v := ?_) rfl (by kernel_rfl) (by kernel_rfl) (by kernel_rfl) (fun _ _ _ h => h) (Or.inl ⟨by rfl, ?_⟩) (by assumption) ?_
          rotate_left
          · (intro w hSw; (try dsimp only at hSw); first | (go_simp; done) | (go_simp; with_reducible rfl))
          simp only [Act.put, List.getElem_toArray, List.getElem_cons_zero, List.getElem_cons_succ, List.setIfInBounds_toArray, List.set_cons_zero, List.set_cons_succ]
          refine wpAnyH_take (i := 9) (v := ?_) rfl (by kernel_rfl) (by kernel_rfl) (by kernel_rfl) (fun _ _ _ h => h) (Or.inl ⟨by rfl, ?_⟩) (by assumption) ?_
          rotate_left
          · (intro w hSw; (try dsimp only at hSw); first | (go_simp; done) | (go_simp; with_reducible rfl))
          simp only [Act.put, List.getElem_toArray, List.getElem_cons_zero, List.getElem_cons_succ, List.setIfInBounds_toArray, List.set_cons_zero, List.set_cons_succ]
          have G8 := Lib.hid (O9.out.below BA.out)
          have q6 := row6 (own_lay G8.out).1 (k := p) (by rw [ens_len]; exact hpl)
          obtain ⟨q60, q61, q62, q63, -, -⟩ := q6
          have FZ : ∀ j, wa.frozen? ⟨gr, j, none⟩ = false := fun j => by
            obtain ⟨_, _, cs, hb⟩ := G8.out.lt' gr rfl
            exact hb.free j
          have f0 := FZ (p * 6)
          have f1 := FZ (p * 6 + 1)
          have f2 := FZ (p * 6 + 2)
          have f3 := FZ (p * 6 + 3)
          refine wpAnyH_ready (rs := [10]) (by kernel_rfl) (by simp) ?_
          refine AllReadyH.cons rfl (fun K hK => ?_) AllReadyH.nil
          go_simp
          have EP : ((((wa.setCell ⟨gr, p * 6, none⟩ (.int .i64 bx.x)).setCell ⟨gr, p * 6 + 1, none⟩ (.int .i64 bx.y)).setCell ⟨gr, p * 6 + 2, none⟩ (.int .i64 bx.w)).setCell ⟨gr, p * 6 + 3, none⟩ (.int .i64 bx.h)) = put4 wa gr p bx := rfl
          rw [EP]
          have P9 := Lib.hid (put4_only wa gr p bx)
          have c9 := ((G9.out.below BA.out G9.out.lt).only P9.out (fun q => ngr.out.1 q.symm)).cell 0
          have y9 := ((E9.out.below BA.out E9.out.lt).only P9.out ngr.out.2.1).cell 4
          rw [HPP.out] at y9
          refine hK.out _ _ ⟨c9, y9⟩ (fun hHeld => ?_)
          clear hK K hHeld2 FZ f0 f1 f2 f3 q60 q61 q62 q63 EP c9 y9
          refine wpAnyH_done (by kernel_rfl) ?_ _
          clear hHeld
          have FIN := Lib.hid (Rem.under UN8.out (RK.out wa BA.out))
          clear RK P9
          generalize put4 wa gr p bx = wb at *
          go_wp2_with fail
          go_ret
          exact .inr ⟨rfl, _, _, _, _, FIN.out⟩
        · have l1 : X1.length = 1 := by have := hr.more; have := KX.out; omega
          have d2 : decide ((X1.length : Int) ≥ 2) = false := decide_eq_false (by omega)
          have d2b : (2 ≤ X1.length) = False := eq_false l2
          obtain ⟨y, hy⟩ : ∃ y, X1 = [y] := List.length_eq_one_iff.1 l1
          subst hy
          have HVF := Lib.hid (And.intro EF (And.intro gF grF))
          have SO := Lib.hid (own_lay (hr.nd.own)).1
          clear hr n1 EF gF grF NX RM x0 x1 x2 x3 wp1 i0 dp l1 l2
          clear c0 d2 d2b
          have c0 : w9.cell? ⟨gk, 0, none⟩ = some (.slice A1 1 c1) := K9.out.blk.cell 0
          obtain ⟨Q, hQ⟩ : ∃ Q, y.e.ptr = .pointer Q := ⟨_, rfl⟩
          have HQ := Lib.hid hQ
          obtain ⟨ga, ca, csa, zz0, -⟩ := HR.out.nd.own.full (by simp [ens])
          injection zz0 with zz0 zz1 zz2
          subst zz0
          clear zz1 zz2 csa ca
          have YR := Lib.hid (fun (W : World) (hW : Below w9.heap.size w9 W) => (show W.cell? ⟨ga, 0, none⟩ = some (.int .i64 y.e.b.x) ∧ W.cell? ⟨ga, 1, none⟩ = some (.int .i64 y.e.b.y) ∧ W.cell? ⟨ga, 2, none⟩ = some (.int .i64 y.e.b.w) ∧ W.cell? ⟨ga, 3, none⟩ = some (.int .i64 y.e.b.h) ∧ W.cell? ⟨ga, 4, none⟩ = some (.pointer Q) ∧ W.cell? ⟨ga, 5, none⟩ = some (.int .i64 y.e.v) from by
            have := row6 (SO.out.below hW) (k := 0) (by simp [ens])
            simp only [Nat.zero_mul, Nat.zero_add] at this
            rw [← hQ]
            exact this))
          clear hQ
          have OSL := Lib.hid (And.intro HR.out.few hh)
          have NVL := Lib.hid (show ∀ k, vl1.ownBlock = some k → ¬ foot g (.slice (some ⟨gr, 0, none⟩) X.length c) X k from fun k e q => by
            rcases HR.out.own k e with q' | q'
            · exact HLO.out.2 k q' q
            · have := N8.out.lt k q
              omega)
          go_wp2_with fail
          clear c0 y4
          go_loopw [93] (fun i wr => ∃ (q : Nat) (W : World), W = wr ∧ i = .int .i64 q ∧ ((q = 0 ∧ Below w9.heap.size w9 wr) ∨ (q = 1 ∧ ∃ vl2, LS wr lo vl2 (O ++ orphs Os ++ [(y.e, h)]) ∧ Only (fun k => k = lo ∨ vl1.ownBlock = some k) w9 wr ∧ ∀ k, vl2.ownBlock = some k → vl1.ownBlock = some k ∨ w9.heap.size ≤ k))) (fun i _ => 1 - (intOf i).toNat)
          case atStart => exact ⟨0, _, rfl, rfl, .inl ⟨rfl, Below.refl _ _⟩⟩
          case round =>
          obtain ⟨q, wa, rfl, rfl, hq⟩ := hrel
          rcases hq with ⟨rfl, hba⟩ | ⟨rfl, vl2, hls, ho2, hv2⟩
          · have BA := Lib.hid hba
            have LA := Lib.hid (HR.out.ls.below hba)
            obtain ⟨e0, e1, e2, e3, e4, e5⟩ := YR.out wa hba
            obtain ⟨wE2, hwE⟩ : ∃ wE2, wa.alloc (.cells #[.int .i64 y.e.b.x, .int .i64 y.e.b.y, .int .i64 y.e.b.w, .int .i64 y.e.b.h, .pointer Q, .int .i64 y.e.v] 79) = wE2 := ⟨_, rfl⟩
            have ME2 := Lib.hid (show Below wa.heap.size wa wE2 from by rw [← hwE]; exact made wa _)
            have YB := Lib.hid (show Blk wE2 wa.heap.size 79 #[.int .i64 y.e.b.x, .int .i64 y.e.b.y, .int .i64 y.e.b.w, .int .i64 y.e.b.h, .pointer Q, .int .i64 y.e.v] from by rw [← hwE]; exact Blk.new _ _ _)
            have HWE := Lib.hid hwE
            clear hba hwE
            go_upto_region 14 with fail
            have hwE := HWE.out
            simp only [hwE]
            clear hwE HWE e0 e1 e2 e3 e4 e5
            have LE := Lib.hid (LA.out.below ME2.out)
            refine wp_region_held_drew (S := (fun ws => ws.cell? ⟨wa.heap.size, 0, none⟩ = some (.int .i64 y.e.b.x) ∧ ws.cell? ⟨wa.heap.size, 1, none⟩ = some (.int .i64 y.e.b.y) ∧ ws.cell? ⟨wa.heap.size, 2, none⟩ = some (.int .i64 y.e.b.w) ∧ ws.cell? ⟨wa.heap.size, 3, none⟩ = some (.int .i64 y.e.b.h) ∧ ws.cell? ⟨wa.heap.size, 4, none⟩ = some (.pointer Q) ∧ ws.cell? ⟨wa.heap.size, 5, none⟩ = some (.int .i64 y.e.v))) (by kernel_rfl) (blk6 YB.out) (fun hHeld => ?_)
            refine wpAnyH_take (i := 0) (v := ?_) rfl (by kernel_rfl) (by kernel_rfl) (by kernel_rfl) (fun _ _ _ h => h) (Or.inl ⟨by rfl, ?_⟩) (by assumption) ?_
            rotate_left
            · (intro w hSw; (try dsimp only at hSw); first | (go_simp; done) | (go_simp; with_reducible rfl))
            simp only [Act.put, List.getElem_toArray, List.getElem_cons_zero, List.getElem_cons_succ, List.setIfInBounds_toArray, List.set_cons_zero, List.set_cons_succ]
            refine wpAnyH_take (i := 1) (v := ?_) rfl (by kernel_rfl) (by kernel_rfl) (by kernel_rfl) (fun _ _ _ h => h) (Or.inl ⟨by rfl, ?_⟩) (by assumption) ?_
            rotate_left
            · (intro w hSw; (try dsimp only at hSw); first | (go_simp; done) | (go_simp; with_reducible rfl))
            simp only [Act.put, List.getElem_toArray, List.getElem_cons_zero, List.getElem_cons_succ, List.setIfInBounds_toArray, List.set_cons_zero, List.set_cons_succ]
            refine wpAnyH_take (i := 2) (v := ?_) rfl (by kernel_rfl) (by kernel_rfl) (by kernel_rfl) (fun _ _ _ h => h) (Or.inl ⟨by rfl, ?_⟩) (by assumption) ?_
            rotate_left
            · (intro w hSw; (try dsimp only at hSw); first | (go_simp; done) | (go_simp; with_reducible rfl))
            simp only [Act.put, List.getElem_toArray, List.getElem_cons_zero, List.getElem_cons_succ, List.setIfInBounds_toArray, List.set_cons_zero, List.set_cons_succ]
            refine wpAnyH_take (i := 4) (v := ?_) rfl (by kernel_rfl) (by kernel_rfl) (by kernel_rfl) (fun _ _ _ h => h) (Or.inl ⟨by rfl, ?_⟩) (by assumption) ?_
            rotate_left
            · (intro w hSw; (try dsimp only at hSw); first | (go_simp; done) | (go_simp; with_reducible rfl))
            simp only [Act.put, List.getElem_toArray, List.getElem_cons_zero, List.getElem_cons_succ, List.setIfInBounds_toArray, List.set_cons_zero, List.set_cons_succ]
            refine wpAnyH_take (i := 5) (v := ?_) rfl (by kernel_rfl) (by kernel_rfl) (by kernel_rfl) (fun _ _ _ h => h) (Or.inl ⟨by rfl, ?_⟩) (by assumption) ?_
            rotate_left
            · (intro w hSw; (try dsimp only at hSw); first | (go_simp; done) | (go_simp; with_reducible rfl))
            simp only [Act.put, List.getElem_toArray, List.getElem_cons_zero, List.getElem_cons_succ, List.setIfInBounds_toArray, List.set_cons_zero, List.set_cons_succ]
            refine wpAnyH_take (i := 6) (v := ?_) rfl (by kernel_rfl) (by kernel_rfl) (by kernel_rfl) (fun _ _ _ h => h) (Or.inl ⟨by rfl, ?_⟩) (by assumption) ?_
            rotate_left
            · (intro w hSw; (try dsimp only at hSw); first | (go_simp; done) | (go_simp; with_reducible rfl))
            simp only [Act.put, List.getElem_toArray, List.getElem_cons_zero, List.getElem_cons_succ, List.setIfInBounds_toArray, List.set_cons_zero, List.set_cons_succ]
            refine wpAnyH_take (i := 7) (v := ?_) rfl (by kernel_rfl) (by kernel_rfl) (by kernel_rfl) (fun _ _ _ h => h) (Or.inl ⟨by rfl, ?_⟩) (by assumption) ?_
            rotate_left
            · (intro w hSw; (try dsimp only at hSw); first | (go_simp; done) | (go_simp; with_reducible rfl))
            simp only [Act.put, List.getElem_toArray, List.getElem_cons_zero, List.getElem_cons_succ, List.setIfInBounds_toArray, List.set_cons_zero, List.set_cons_succ]
            have cx := LE.out.blk.cell 0
            refine wpAnyH_ready (rs := [3, 8]) (by kernel_rfl) (by simp) ?_
            refine AllReadyH.cons rfl (fun K hK => ?_) (AllReadyH.cons rfl (fun K hK => ?_) AllReadyH.nil)
            · go_simp
              refine hK.out _ _ (blk6 YB.out) (fun hHeld2 => ?_)
              clear hK K hHeld
              refine wpAnyH_ready (rs := [8]) (by kernel_rfl) (by simp) ?_
              refine AllReadyH.cons rfl (fun K hK => ?_) AllReadyH.nil
              go_simp
              obtain ⟨wF, hwF⟩ : ∃ wF, (wE2.alloc (.cells #[.int .i64 y.e.b.x, .int .i64 y.e.b.y, .int .i64 y.e.b.w, .int .i64 y.e.b.h, .pointer Q, .int .i64 y.e.v, .int .i64 h] 84)).drew = wF := ⟨_, rfl⟩
              have KF := Lib.hid (show Blk wF wE2.heap.size 84 (E7.enc (y.e, h)).toArray from by
                rw [← hwF, enc7 HQ.out]
                exact Blk.new wE2 _ _)
              have MF := Lib.hid (show Below wE2.heap.size wE2 wF from by rw [← hwF]; exact (made wE2 _).drew)
              have LF := Lib.hid (LE.out.below MF.out)
              have YF := Lib.hid (YB.out.below MF.out YB.out.lt)
              rw [hwF]
              refine hK.out _ _ (blk6 YF.out) (fun hHeld => ?_)
              clear hK K hHeld2 hwF cx
              have hHeld2 := hHeld
              clear hHeld
              obtain ⟨v7, wG, hr, own8, gr8⟩ := rk.app_run T7 (c := 1) LF.out.own (Lay.lit (E := E7) wF (y.e, h) _ _ KF.out) (fun e => by simp at e) (by
                have h1 := HO.out
                have h2 := OSL.out
                simp [orphs]
                omega) (Nat.zero_le _)
              obtain ⟨pu1, pu2, pu3, pu4⟩ := LF.out.push own8 gr8
              have k1 := pu1.cell 0
              have f1 := pu1.free 0
              have yn1 : ¬ (some wa.heap.size = vl1.ownBlock) := fun q => by
                have := LA.out.lt.2 _ q.symm
                omega
              have yn2 : wa.heap.size ≠ lo := fun q => by
                have := LA.out.lt.1
                omega
              have YG := (gr8.grown.block wa.heap.size YF.out.lt yn1).trans YF.out
              have S8 := blk6 YG
              have S9 := Lib.hid (blk6 (base.Blk.far YG (p := ⟨lo, 0, none⟩) yn2 v7))
              have PU2 := Lib.hid pu2
              have PU3 := Lib.hid (show Only (fun k => k = lo ∨ vl1.ownBlock = some k) w9 (wG.setCell ⟨lo, 0, none⟩ v7) from
                ((Only.refl (fun k => k = lo ∨ vl1.ownBlock = some k) w9).below (up BA.out (up ME2.out MF.out ME2.out.size) BA.out.size) (fun k hk hk2 => absurd hk (by omega))).trans pu3 (fun _ _ q => q))
              have PU4 := Lib.hid (show ∀ k, v7.ownBlock = some k → vl1.ownBlock = some k ∨ w9.heap.size ≤ k from fun k e => (pu4 k e).imp id (fun q => by have := BA.out.size; have := ME2.out.size; have := MF.out.size; omega))
              obtain ⟨A7, n7, c7, rfl⟩ : ∃ A n c, v7 = .slice A n c := by
                obtain ⟨A, c, e, -⟩ := own8.open_
                exact ⟨A, _, c, e⟩
              clear own8 gr8 pu1 pu2 pu3 pu4 YG yn1 yn2
              refine wpAnyH_ready (rs := [9]) (by kernel_rfl) (by simp) ?_
              refine AllReadyH.cons rfl (fun K hK => ?_) AllReadyH.nil
              refine op_app (.tmp 100) (.tmp 105) rfl rfl rfl rfl hr ?_
              refine hK.out _ _ S8 (fun hHeld => ?_)
              clear hK K hr S8 hHeld2
              refine wpAnyH_take (i := 10) (v := ?_) rfl (by kernel_rfl) (by kernel_rfl) (by kernel_rfl) (fun _ _ _ h => h) (Or.inl ⟨by rfl, ?_⟩) (by assumption) ?_
              rotate_left
              · (intro w hSw; (try dsimp only at hSw); first | (go_simp; done) | (go_simp; with_reducible rfl))
              simp only [Act.put, List.getElem_toArray, List.getElem_cons_zero, List.getElem_cons_succ, List.setIfInBounds_toArray, List.set_cons_zero, List.set_cons_succ]
              refine wpAnyH_ready (rs := [11]) (by kernel_rfl) (by simp) ?_
              refine AllReadyH.cons rfl (fun K hK => ?_) AllReadyH.nil
              go_simp
              refine hK.out _ _ S9.out (fun hHeld2 => ?_)
              clear hK K hHeld k1 f1 S9
              refine wpAnyH_done (by kernel_rfl) ?_ _
              clear hHeld2
              generalize wG.setCell ⟨lo, 0, none⟩ (.slice A7 n7 c7) = wH at *
              go_wp2_with fail
              exact ⟨⟨1, _, rfl, rfl, .inr ⟨rfl, _, PU2.out, PU3.out, PU4.out⟩⟩, by simp [intOf]⟩
            · go_simp
              obtain ⟨wF, hwF⟩ : ∃ wF, (wE2.alloc (.cells #[.int .i64 y.e.b.x, .int .i64 y.e.b.y, .int .i64 y.e.b.w, .int .i64 y.e.b.h, .pointer Q, .int .i64 y.e.v, .int .i64 h] 84)).drew = wF := ⟨_, rfl⟩
              have KF := Lib.hid (show Blk wF wE2.heap.size 84 (E7.enc (y.e, h)).toArray from by
                rw [← hwF, enc7 HQ.out]
                exact Blk.new wE2 _ _)
              have MF := Lib.hid (show Below wE2.heap.size wE2 wF from by rw [← hwF]; exact (made wE2 _).drew)
              have LF := Lib.hid (LE.out.below MF.out)
              have YF := Lib.hid (YB.out.below MF.out YB.out.lt)
              rw [hwF]
              have cy := LF.out.blk.cell 0
              refine hK.out _ _ (blk6 YF.out) (fun hHeld2 => ?_)
              clear hK K hHeld cx hwF
              refine wpAnyH_ready (rs := [3]) (by kernel_rfl) (by simp) ?_
              refine AllReadyH.cons rfl (fun K hK => ?_) AllReadyH.nil
              go_simp
              refine hK.out _ _ (blk6 YF.out) (fun hHeld => ?_)
              clear hK K hHeld2 cy
              have hHeld2 := hHeld
              clear hHeld
              obtain ⟨v7, wG, hr, own8, gr8⟩ := rk.app_run T7 (c := 1) LF.out.own (Lay.lit (E := E7) wF (y.e, h) _ _ KF.out) (fun e => by simp at e) (by
                have h1 := HO.out
                have h2 := OSL.out
                simp [orphs]
                omega) (Nat.zero_le _)
              obtain ⟨pu1, pu2, pu3, pu4⟩ := LF.out.push own8 gr8
              have k1 := pu1.cell 0
              have f1 := pu1.free 0
              have yn1 : ¬ (some wa.heap.size = vl1.ownBlock) := fun q => by
                have := LA.out.lt.2 _ q.symm
                omega
              have yn2 : wa.heap.size ≠ lo := fun q => by
                have := LA.out.lt.1
                omega
              have YG := (gr8.grown.block wa.heap.size YF.out.lt yn1).trans YF.out
              have S8 := blk6 YG
              have S9 := Lib.hid (blk6 (base.Blk.far YG (p := ⟨lo, 0, none⟩) yn2 v7))
              have PU2 := Lib.hid pu2
              have PU3 := Lib.hid (show Only (fun k => k = lo ∨ vl1.ownBlock = some k) w9 (wG.setCell ⟨lo, 0, none⟩ v7) from
                ((Only.refl (fun k => k = lo ∨ vl1.ownBlock = some k) w9).below (up BA.out (up ME2.out MF.out ME2.out.size) BA.out.size) (fun k hk hk2 => absurd hk (by omega))).trans pu3 (fun _ _ q => q))
              have PU4 := Lib.hid (show ∀ k, v7.ownBlock = some k → vl1.ownBlock = some k ∨ w9.heap.size ≤ k from fun k e => (pu4 k e).imp id (fun q => by have := BA.out.size; have := ME2.out.size; have := MF.out.size; omega))
              obtain ⟨A7, n7, c7, rfl⟩ : ∃ A n c, v7 = .slice A n c := by
                obtain ⟨A, c, e, -⟩ := own8.open_
                exact ⟨A, _, c, e⟩
              clear own8 gr8 pu1 pu2 pu3 pu4 YG yn1 yn2
              refine wpAnyH_ready (rs := [9]) (by kernel_rfl) (by simp) ?_
              refine AllReadyH.cons rfl (fun K hK => ?_) AllReadyH.nil
              refine op_app (.tmp 100) (.tmp 105) rfl rfl rfl rfl hr ?_
              refine hK.out _ _ S8 (fun hHeld => ?_)
              clear hK K hr S8 hHeld2
              refine wpAnyH_take (i := 10) (v := ?_) rfl (by kernel_rfl) (by kernel_rfl) (by kernel_rfl) (fun _ _ _ h => h) (Or.inl ⟨by rfl, ?_⟩) (by assumption) ?_
              rotate_left
              · (intro w hSw; (try dsimp only at hSw); first | (go_simp; done) | (go_simp; with_reducible rfl))
              simp only [Act.put, List.getElem_toArray, List.getElem_cons_zero, List.getElem_cons_succ, List.setIfInBounds_toArray, List.set_cons_zero, List.set_cons_succ]
              refine wpAnyH_ready (rs := [11]) (by kernel_rfl) (by simp) ?_
              refine AllReadyH.cons rfl (fun K hK => ?_) AllReadyH.nil
              go_simp
              refine hK.out _ _ S9.out (fun hHeld2 => ?_)
              clear hK K hHeld k1 f1 S9
              refine wpAnyH_done (by kernel_rfl) ?_ _
              clear hHeld2
              generalize wG.setCell ⟨lo, 0, none⟩ (.slice A7 n7 c7) = wH at *
              go_wp2_with fail
              exact ⟨⟨1, _, rfl, rfl, .inr ⟨rfl, _, PU2.out, PU3.out, PU4.out⟩⟩, by simp [intOf]⟩
          · have G9b := Lib.hid ((G9.out.only ho2 (fun q => q.elim (fun q => HLO.out.1 (.inl q.symm)) (fun q => NVL.out g q (.inl rfl)))))
            have OW9 := Lib.hid (O9.out.only ho2 (fun k e q => q.elim (fun q => HLO.out.1 (.inr (.inl (by rw [← q]; exact e)))) (fun q => NVL.out k q (.inr (.inl e)))))
            have HL2 := Lib.hid hls
            have HO2 := Lib.hid ho2
            have HV2 := Lib.hid hv2
            have c0 := G9b.out.cell 0
            have f0 := G9b.out.free 0
            have wp2 : IntKind.i64.wrap ((p : Int) + 1) = (p : Int) + 1 := IntWalk.i64_in _ (by have := H4.out; omega)
            have DE := Lib.hid (del2 0 gr c p (ens X) wa (by rw [ens_len]; exact OW9.out) (by rw [ens_len]; exact hpl) (by rw [ens_len]; have := H4.out; omega))
            rw [ens_len] at DE
            clear hls ho2 hv2
            go_wp2_with fail
            refine DE.out.mono ?_
            rintro eb wb ⟨rfl, hod, hdo⟩
            obtain ⟨B10, RLOST⟩ := rem_lost N8.out hpl KX.out.2.2.1 KX.out.2.2.2.1 HLO.out.1 HLO.out.2 HR.out HL2.out HO2.out HV2.out hod hdo
            have c1 := B10.cell 0
            have f1 := B10.free 0
            have FIN := Lib.hid (Rem.under UN8.out RLOST)
            clear RLOST B10 hod hdo DE c0 f0 wp2
            go_wp2_with fail
            go_ret
            exact .inr ⟨rfl, _, _, _, _, FIN.out⟩
  · obtain rfl : p = X.length := by omega
    have dp : decide (X.length < X.length) = false := decide_eq_false (by omega)
    have FA := Lib.hid (not_all (t := (r, val)) (fun j hj => NO.out j hj hj))
    have FB := Lib.hid (up UN.out BE.out UN.out.size)
    clear hb hp hno hpl
    go_wp2_with fail
    go_ret
    exact .inl ⟨rfl, FB.out, FA.out⟩
theorem rem_any : ∀ (h : Nat), h ≤ 1000 → RemOK h
  | 0, _ => rem_zero
  | h + 1, q => rem_succ h (by omega) (rem_any h (by omega))
end Go.Proofs.Ytndhdpjgnepfnaa.tr
