/-
  The queue and the document's list: Pop.
-/
import Derived.Test.YtmfhellpdpfoaaaQuP
import Derived.LoopTactic
namespace Go.Proofs.Ytmfhellpdpfoaaa.qu
open Go.RowKit
open base (ret_bool ret_int made up Blk Only)
open rk mk
set_option linter.unusedVariables false
set_option linter.unusedSimpArgs false
variable {w w' : World} {q sb B : Nat} {vl : Value} {L M : List It} {ad : Int} {F F' : Nat → Prop}

set_option maxRecDepth 100000 in
set_option maxHeartbeats 8000000 in
theorem step_4 {A : Option Addr} {c : Nat} (P : Pair F w q sb (.slice A M.length c) M ad B) (had : ad ≤ 98000) (n t : Int) (s : ByteArray) (hn : (Lit.int .i64 n).wf = true) :
    Calls Try.prog 10 #[.pointer (some ⟨sb, 0, none⟩), .pointer (some ⟨q, 0, none⟩), .agg #[.int .i64 4, .int .i64 n, .int .i64 t, .string s]] w (StepQ q sb B ad w) := by
  cases M with
  | nil =>
    have OB := Lib.hid (Blk.new w 31 #[.int .i64 4, .int .i64 n, .int .i64 t, .string s])
    have M1 := Lib.hid (made w (.cells #[.int .i64 4, .int .i64 n, .int .i64 t, .string s] 31))
    have P1 := Lib.hid (P.below M1.out)
    have BW := Lib.hid P.size
    have hml : ([] : List It).length ≤ 99000 := by have := P.len; omega
    have PL := Lib.hid P.len
    clear P
    go_enter Try.func10, Try.ntmps10
    go_upto_region 1 with fail
    generalize w.alloc (.cells #[.int .i64 4, .int .i64 n, .int .i64 t, .string s] 31) = w1 at *
    have P2 := Lib.hid (show Pair F w1.drew q sb _ [] ad B from P1.out.below (Below.refl _ _).drew)
    have OB2 := Lib.hid (show Blk w1.drew w.heap.size _ _ from OB.out.drewN 1)
    have M2 := Lib.hid (show Below w.heap.size w w1.drew from M1.out.drew)
    clear P1 OB M1
    refine wp_region_held_drew (S := fun ws => ws.cell? ⟨sb, 0, none⟩ = some (.slice A ([] : List It).length c) ∧ ws.cell? ⟨w.heap.size, 1, none⟩ = some (.int .i64 n)) (by kernel_rfl) ⟨P2.out.st.blk.cell 0, OB2.out.cell 1⟩ (fun hHeld => ?_)
    generalize w1.drew = W at *
    have LA := Lib.hid (layO P2.out.st.row)
    have FD := Lib.hid (find_any A c [] n W LA.out (by omega))
    have BM := Lib.hid (show Bf B w W from Bf.new M2.out BW.out)
    refine wpAnyH_take (i := 0) (v := ?_) rfl (by kernel_rfl) (by kernel_rfl) (by kernel_rfl) (fun _ _ _ h => h) (Or.inl ⟨by rfl, ?_⟩) (by assumption) ?_
    rotate_left
    · (intro w hSw; (try dsimp only at hSw); first | (go_simp; done) | (go_simp; with_reducible rfl))
    simp only [Act.put, List.getElem_toArray, List.getElem_cons_zero, List.getElem_cons_succ, List.setIfInBounds_toArray, List.set_cons_zero, List.set_cons_succ]
    refine wpAnyH_take (i := 1) (v := ?_) rfl (by kernel_rfl) (by kernel_rfl) (by kernel_rfl) (fun _ _ _ h => h) (Or.inl ⟨by rfl, ?_⟩) (by assumption) ?_
    rotate_left
    · (intro w hSw; (try dsimp only at hSw); first | (go_simp; done) | (go_simp; with_reducible rfl))
    simp only [Act.put, List.getElem_toArray, List.getElem_cons_zero, List.getElem_cons_succ, List.setIfInBounds_toArray, List.set_cons_zero, List.set_cons_succ]
    refine wpAnyH_take (i := 2) (v := ?_) rfl (by kernel_rfl) (by kernel_rfl) (by kernel_rfl) (fun _ _ _ h => h) (Or.inl ⟨by rfl, ?_⟩) (by assumption) ?_
    rotate_left
    · (intro w hSw; (try dsimp only at hSw); first | (go_simp; done) | (go_simp; with_reducible rfl))
    simp only [Act.put, List.getElem_toArray, List.getElem_cons_zero, List.getElem_cons_succ, List.setIfInBounds_toArray, List.set_cons_zero, List.set_cons_succ]
    refine wpAnyH_take (i := 3) (v := ?_) rfl (by kernel_rfl) (by kernel_rfl) (by kernel_rfl) (fun _ _ _ h => h) (Or.inl ⟨by rfl, ?_⟩) (by assumption) ?_
    rotate_left
    · (intro w hSw; (try dsimp only at hSw); first | (go_simp; done) | (go_simp; with_reducible rfl))
    simp only [Act.put, List.getElem_toArray, List.getElem_cons_zero, List.getElem_cons_succ, List.setIfInBounds_toArray, List.set_cons_zero, List.set_cons_succ]
    refine wpAnyH_take (i := 4) (v := ?_) rfl (by kernel_rfl) (by kernel_rfl) (by kernel_rfl) (fun _ _ _ h => h) (Or.inl ⟨by rfl, ?_⟩) (by assumption) ?_
    rotate_left
    · (intro w hSw; (try dsimp only at hSw); first | (go_simp; done) | (go_simp; with_reducible rfl))
    simp only [Act.put, List.getElem_toArray, List.getElem_cons_zero, List.getElem_cons_succ, List.setIfInBounds_toArray, List.set_cons_zero, List.set_cons_succ]
    refine wpAnyH_take (i := 5) (v := ?_) rfl (by kernel_rfl) (by kernel_rfl) (by kernel_rfl) (fun _ _ _ h => h) (Or.inl ⟨by rfl, ?_⟩) (by assumption) ?_
    rotate_left
    · (intro w hSw; (try dsimp only at hSw); first | (go_simp; done) | (go_simp; with_reducible rfl))
    simp only [Act.put, List.getElem_toArray, List.getElem_cons_zero, List.getElem_cons_succ, List.setIfInBounds_toArray, List.set_cons_zero, List.set_cons_succ]
    refine wpAnyH_ready (rs := [6]) (by kernel_rfl) (by simp) ?_
    refine AllReadyH.cons rfl (fun K hK => ?_) AllReadyH.nil
    go_simp
    refine FD.out.mono ?_
    rintro e w2 ⟨v, rfl, r, rfl, hr, rfl⟩
    have FI := Lib.hid hr
    refine hK.out _ _ ⟨P2.out.st.blk.cell 0, OB2.out.cell 1⟩ (fun hHeld2 => ?_)
    clear hK K hHeld hr FD
    refine wpAnyH_take (i := 7) (v := ?_) rfl (by kernel_rfl) (by kernel_rfl) (by kernel_rfl) (fun _ _ _ h => h) (Or.inl ⟨by rfl, ?_⟩) (by assumption) ?_
    rotate_left
    · (intro w hSw; (try dsimp only at hSw); first | (go_simp; done) | (go_simp; with_reducible rfl))
    simp only [Act.put, List.getElem_toArray, List.getElem_cons_zero, List.getElem_cons_succ, List.setIfInBounds_toArray, List.set_cons_zero, List.set_cons_succ]
    refine wpAnyH_done (by kernel_rfl) ?_ _
    clear hHeld2
    have o0 := OB2.out.cell 0
    have o1 := OB2.out.cell 1
    have o2 := OB2.out.cell 2
    have o3 := OB2.out.cell 3
    have s0 := P2.out.st.blk.cell 0
    have s1 := P2.out.st.blk.cell 1
    have f0 := P2.out.st.blk.free 0
    have f1 := P2.out.st.blk.free 1
    have PO := Lib.hid (qpop_nil P2.out.qs t)
    have FIN := Lib.hid (show ∃ F' vl' M' ad', Pair F' W q sb vl' M' ad' B ∧ Bf B w W ∧ ad' ≤ ad + 1 from ⟨F, _, [], ad, P2.out, BM.out, by omega⟩)
    clear FI
    go_wp2_with fail
    refine PO.out.mono ?_
    rintro e w3 ⟨rfl, rfl⟩
    go_upto_region 21 with fail
    go_quiet (fail)
    go_wp2_with fail
    go_ret
    obtain ⟨F', vl', M', ad', p', b', a'⟩ := FIN.out
    exact ⟨rfl, F', vl', M', ad', p'.below (base.below_drewN (Below.refl _ _) _), Bf.drewN b' _, a'⟩
  | cons x M' =>
    have OB := Lib.hid (Blk.new w 31 #[.int .i64 4, .int .i64 n, .int .i64 t, .string s])
    have M1 := Lib.hid (made w (.cells #[.int .i64 4, .int .i64 n, .int .i64 t, .string s] 31))
    have P1 := Lib.hid (P.below M1.out)
    have BW := Lib.hid P.size
    have hml : (x :: M').length ≤ 99000 := by have := P.len; omega
    have PL := Lib.hid P.len
    clear P
    go_enter Try.func10, Try.ntmps10
    go_upto_region 1 with fail
    generalize w.alloc (.cells #[.int .i64 4, .int .i64 n, .int .i64 t, .string s] 31) = w1 at *
    have P2 := Lib.hid (show Pair F w1.drew q sb _ (x :: M') ad B from P1.out.below (Below.refl _ _).drew)
    have OB2 := Lib.hid (show Blk w1.drew w.heap.size _ _ from OB.out.drewN 1)
    have M2 := Lib.hid (show Below w.heap.size w w1.drew from M1.out.drew)
    clear P1 OB M1
    refine wp_region_held_drew (S := fun ws => ws.cell? ⟨sb, 0, none⟩ = some (.slice A (x :: M').length c) ∧ ws.cell? ⟨w.heap.size, 1, none⟩ = some (.int .i64 n)) (by kernel_rfl) ⟨P2.out.st.blk.cell 0, OB2.out.cell 1⟩ (fun hHeld => ?_)
    generalize w1.drew = W at *
    have LA := Lib.hid (layO P2.out.st.row)
    have FD := Lib.hid (find_any A c (x :: M') n W LA.out (by omega))
    have BM := Lib.hid (show Bf B w W from Bf.new M2.out BW.out)
    refine wpAnyH_take (i := 0) (v := ?_) rfl (by kernel_rfl) (by kernel_rfl) (by kernel_rfl) (fun _ _ _ h => h) (Or.inl ⟨by rfl, ?_⟩) (by assumption) ?_
    rotate_left
    · (intro w hSw; (try dsimp only at hSw); first | (go_simp; done) | (go_simp; with_reducible rfl))
    simp only [Act.put, List.getElem_toArray, List.getElem_cons_zero, List.getElem_cons_succ, List.setIfInBounds_toArray, List.set_cons_zero, List.set_cons_succ]
    refine wpAnyH_take (i := 1) (v := ?_) rfl (by kernel_rfl) (by kernel_rfl) (by kernel_rfl) (fun _ _ _ h => h) (Or.inl ⟨by rfl, ?_⟩) (by assumption) ?_
    rotate_left
    · (intro w hSw; (try dsimp only at hSw); first | (go_simp; done) | (go_simp; with_reducible rfl))
    simp only [Act.put, List.getElem_toArray, List.getElem_cons_zero, List.getElem_cons_succ, List.setIfInBounds_toArray, List.set_cons_zero, List.set_cons_succ]
    refine wpAnyH_take (i := 2) (v := ?_) rfl (by kernel_rfl) (by kernel_rfl) (by kernel_rfl) (fun _ _ _ h => h) (Or.inl ⟨by rfl, ?_⟩) (by assumption) ?_
    rotate_left
    · (intro w hSw; (try dsimp only at hSw); first | (go_simp; done) | (go_simp; with_reducible rfl))
    simp only [Act.put, List.getElem_toArray, List.getElem_cons_zero, List.getElem_cons_succ, List.setIfInBounds_toArray, List.set_cons_zero, List.set_cons_succ]
    refine wpAnyH_take (i := 3) (v := ?_) rfl (by kernel_rfl) (by kernel_rfl) (by kernel_rfl) (fun _ _ _ h => h) (Or.inl ⟨by rfl, ?_⟩) (by assumption) ?_
    rotate_left
    · (intro w hSw; (try dsimp only at hSw); first | (go_simp; done) | (go_simp; with_reducible rfl))
    simp only [Act.put, List.getElem_toArray, List.getElem_cons_zero, List.getElem_cons_succ, List.setIfInBounds_toArray, List.set_cons_zero, List.set_cons_succ]
    refine wpAnyH_take (i := 4) (v := ?_) rfl (by kernel_rfl) (by kernel_rfl) (by kernel_rfl) (fun _ _ _ h => h) (Or.inl ⟨by rfl, ?_⟩) (by assumption) ?_
    rotate_left
    · (intro w hSw; (try dsimp only at hSw); first | (go_simp; done) | (go_simp; with_reducible rfl))
    simp only [Act.put, List.getElem_toArray, List.getElem_cons_zero, List.getElem_cons_succ, List.setIfInBounds_toArray, List.set_cons_zero, List.set_cons_succ]
    refine wpAnyH_take (i := 5) (v := ?_) rfl (by kernel_rfl) (by kernel_rfl) (by kernel_rfl) (fun _ _ _ h => h) (Or.inl ⟨by rfl, ?_⟩) (by assumption) ?_
    rotate_left
    · (intro w hSw; (try dsimp only at hSw); first | (go_simp; done) | (go_simp; with_reducible rfl))
    simp only [Act.put, List.getElem_toArray, List.getElem_cons_zero, List.getElem_cons_succ, List.setIfInBounds_toArray, List.set_cons_zero, List.set_cons_succ]
    refine wpAnyH_ready (rs := [6]) (by kernel_rfl) (by simp) ?_
    refine AllReadyH.cons rfl (fun K hK => ?_) AllReadyH.nil
    go_simp
    refine FD.out.mono ?_
    rintro e w2 ⟨v, rfl, r, rfl, hr, rfl⟩
    have FI := Lib.hid hr
    refine hK.out _ _ ⟨P2.out.st.blk.cell 0, OB2.out.cell 1⟩ (fun hHeld2 => ?_)
    clear hK K hHeld hr FD
    refine wpAnyH_take (i := 7) (v := ?_) rfl (by kernel_rfl) (by kernel_rfl) (by kernel_rfl) (fun _ _ _ h => h) (Or.inl ⟨by rfl, ?_⟩) (by assumption) ?_
    rotate_left
    · (intro w hSw; (try dsimp only at hSw); first | (go_simp; done) | (go_simp; with_reducible rfl))
    simp only [Act.put, List.getElem_toArray, List.getElem_cons_zero, List.getElem_cons_succ, List.setIfInBounds_toArray, List.set_cons_zero, List.set_cons_succ]
    refine wpAnyH_done (by kernel_rfl) ?_ _
    clear hHeld2
    have o0 := OB2.out.cell 0
    have o1 := OB2.out.cell 1
    have o2 := OB2.out.cell 2
    have o3 := OB2.out.cell 3
    have s0 := P2.out.st.blk.cell 0
    have s1 := P2.out.st.blk.cell 1
    have f0 := P2.out.st.blk.free 0
    have f1 := P2.out.st.blk.free 1
    obtain ⟨bb, off, rfl, e0, e1, e2⟩ := layQ LA.out (k := 0) (by simp)
    rw [Nat.zero_mul] at e0 e1 e2
    rw [Nat.add_zero] at e0 e1 e2
    rw [show at_ (x :: M') 0 = x from rfl] at e0 e1 e2
    have tz : ((((x :: M').length : Nat) : Int) == 0) = false := by simp only [List.length_cons, beq_eq_false_iff_ne, ne_eq]; omega
    by_cases hnow : t < x.2.1
    · have PO := Lib.hid (qpop_no P2.out.qs hnow)
      have FIN := Lib.hid (show ∃ F' vl' M' ad', Pair F' W q sb vl' M' ad' B ∧ Bf B w W ∧ ad' ≤ ad + 1 from ⟨F, _, _, ad, P2.out, BM.out, by omega⟩)
      have td : decide (x.2.1 > t) = true := decide_eq_true hnow
      clear FI hnow
      generalize (x :: M').length = nl at *
      obtain ⟨x0, x1, x2⟩ := x
      dsimp only at *
      go_wp2_with fail
      refine PO.out.mono ?_
      rintro e w3 ⟨rfl, rfl⟩
      have tn : decide (0 < nl) = true := decide_eq_true (by simp at tz; omega)
      have tn1 : (nl = 0) = False := eq_false (by simp at tz; omega)
      have tn2 : ((nl : Int) ≤ 0) = False := eq_false (by simp at tz; omega)
      have tn3 : (0 < nl) = True := eq_true (by simp at tz; omega)
      go_upto_region 21 with fail
      go_quiet (fail)
      go_wp2_with fail
      go_ret
      obtain ⟨F', vl', M', ad', p', b', a'⟩ := FIN.out
      exact ⟨rfl, F', vl', M', ad', p'.below (base.below_drewN (Below.refl _ _) _), Bf.drewN b' _, a'⟩
    · have PO := Lib.hid (qpop P2.out.qs hnow (by simp at hml; omega) (by omega))
      have td : decide (x.2.1 > t) = false := decide_eq_false hnow
      clear FI hnow e0 e1 e2
      have hml2 : (x :: M').length ≤ 99000 := hml
      generalize hnl : (x :: M').length = nl at *
      have HNL := Lib.hid hnl
      clear hnl
      have tn : decide (0 < nl) = true := decide_eq_true (by simp at tz; omega)
      have tn1 : (nl = 0) = False := eq_false (by simp at tz; omega)
      have tn2 : ((nl : Int) ≤ 0) = False := eq_false (by simp at tz; omega)
      have tn3 : (0 < nl) = True := eq_true (by simp at tz; omega)
      go_wp2_with fail
      refine PO.out.mono ?_
      rintro e w3 ⟨rfl, F3, h3, m3⟩
      have H3 := Lib.hid h3
      have S3 := Lib.hid (P2.out.st.mv P2.out.qs m3)
      have D3 := Lib.hid (Mv.to m3 (Nat.le_trans BW.out BM.out.size) P2.out.lo)
      have DF := Lib.hid (show Bf B W w3 from ⟨D3.out.1, Fr.mv P2.out.qs m3⟩)
      have OB3 := Lib.hid (OB2.out.only m3.1 (fun h => by
        rcases P2.out.qs.ty h OB2.out with q | q <;> exact absurd q (by decide)))
      clear h3 m3 PO s0 s1 f0 f1 o0 o1 o2 o3
      have L3 := Lib.hid (layO (by rw [HNL.out]; exact S3.out.row))
      obtain ⟨bb', off', e, e0, e1, e2⟩ := layQ L3.out (k := 0) (by simp)
      injection e with e
      injection e with ea eb
      subst ea eb
      rw [Nat.zero_mul] at e0 e1 e2
      rw [Nat.add_zero] at e0 e1 e2
      rw [show at_ (x :: M') 0 = x from rfl] at e0 e1 e2
      have o2 := OB3.out.cell 2
      have s0 := S3.out.blk.cell 0
      go_upto_region 21 with fail
      go_quiet (fail)
      have e0' : (w3.drewN nq).cell? ⟨bb, off, none⟩ = some (.int .i64 x.1) := e0
      have e1' : (w3.drewN nq).cell? ⟨bb, off + 1, none⟩ = some (.int .i64 x.2.1) := e1
      have e2' : (w3.drewN nq).cell? ⟨bb, off + 2, none⟩ = some (.string x.2.2) := e2
      have s0' : (w3.drewN nq).cell? ⟨sb, 0, none⟩ = some (.slice (some ⟨bb, off, none⟩) nl c) := s0
      have S4 := Lib.hid (show St (w3.drewN nq) sb _ _ ad B from S3.out.keep (fun _ _ => rfl))
      have H4 := Lib.hid (show QS F3 (w3.drewN nq) q M' ad from H3.out.keep (fun _ _ => rfl))
      have B4 := Lib.hid (show Bf B w (w3.drewN nq) from (BM.out.trans DF.out).drewN _)
      clear e0 e1 e2 s0 o2 S3 H3 OB3 L3
      generalize w3.drewN nq = w4 at *
      have KX := Lib.hid (Blk.new w4 39 #[.int .i64 x.1, .int .i64 x.2.1, .string x.2.2])
      have MX := Lib.hid (made w4 (.cells #[.int .i64 x.1, .int .i64 x.2.1, .string x.2.2] 39))
      go_upto_region 24 with fail
      generalize w4.alloc (.cells #[.int .i64 x.1, .int .i64 x.2.1, .string x.2.2] 39) = w5 at *
      have S5 := Lib.hid (S4.out.below MX.out)
      have H5 := Lib.hid (H4.out.below MX.out)
      have B5 := Lib.hid (Bf.up B4.out MX.out (Nat.le_trans BW.out B4.out.size))
      have WO := Lib.hid (without_any (some ⟨bb, off, none⟩) c (x :: M') 0 w5 (layO (by rw [HNL.out]; exact S5.out.row)) (by rw [HNL.out]; omega) (by omega))
      rw [HNL.out] at WO
      clear e0' e1' e2' s0' S4 H4 B4 MX
      have s0 := S5.out.blk.cell 0
      have f0 := S5.out.blk.free 0
      go_wp2_with fail
      refine WO.out.mono ?_
      rintro e w6 ⟨v', rfl, ho, hb6⟩
      obtain ⟨nn, A', c', rfl⟩ : ∃ n A c, v' = .slice A n c := by obtain ⟨A, c, e, -⟩ := ho.open_; exact ⟨_, A, c, e⟩
      have S6 := Lib.hid (S5.out.below hb6)
      have H6 := Lib.hid (H5.out.below hb6)
      have B6 := Lib.hid (Bf.up B5.out hb6 (Nat.le_trans BW.out B5.out.size))
      have K6 := Lib.hid (KX.out.below hb6 KX.out.lt)
      obtain ⟨s7, o7⟩ := S6.out.put (ho.mono (Nat.le_trans BW.out B5.out.size))
      have S7 := Lib.hid s7
      have H7 := Lib.hid (H6.out.keep (fun k hk => o7.block k (H6.out.lt hk) (fun e => S6.out.apart H6.out (.inl e) hk)))
      have K7 := Lib.hid (K6.out.far (p := ⟨sb, 0, none⟩) (fun e => ty_ne K6.out S6.out.blk (by decide) e) (.slice A' nn c'))
      have B7 := Lib.hid (B6.out.trans ⟨o7.to_below (fun i hi h => by have := S6.out.low; omega) (Nat.le_trans BW.out B6.out.size), Fr.row S6.out (o7.mono (fun i _ h => .inl h))⟩)
      have LL := Lib.hid (show (M'.length : Int) ≤ ad by have := PL.out; have := HNL.out; simp only [List.length_cons] at this; omega)
      clear s0 f0 ho hb6 s7 o7 WO KX
      have s0 := S6.out.blk.cell 0
      have f0 := S6.out.blk.free 0
      go_upto_region 25 with fail
      generalize w6.setCell ⟨sb, 0, none⟩ (.slice A' nn c') = w7 at *
      clear s0 f0
      have k0 := K7.out.cell 0
      have k1 := K7.out.cell 1
      have k2 := K7.out.cell 2
      have q0 : (x.1 == x.1) = true := by simp
      have q1 : (x.2.1 == x.2.1) = true := by simp
      go_wp2_with fail
      go_ret
      exact ⟨ret_bool (by simp), F3, _, M', ad, ⟨H7.out, S7.out, D3.out.2, LL.out⟩, B7.out, by omega⟩
end Go.Proofs.Ytmfhellpdpfoaaa.qu
