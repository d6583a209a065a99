/-
  R-trees: one call of both.
-/
import Derived.Test.YtndhdpjgnepfnaaTrAJ
namespace Go.Proofs.Ytndhdpjgnepfnaa.tr
open Go.RowKit
open base (ret_bool ret_int made up Blk Only)
open rk (Lay)
open rect
set_option linter.unusedVariables false
set_option linter.unusedSimpArgs false
attribute [local go_sem] Oper.semAt_some

/-- one call -/
structure Op where
  k : Int
  v : Int
  a : Int
  r : Bx
def Op.ok (o : Op) : Prop := -9223372036854775808 ≤ o.r.x ∧ -9223372036854775808 ≤ o.a ∧ o.a ≤ 9223372036854775807
theorem Tr.perm {w : World} {t : Nat} {S S' : List Th} {F : Nat → Prop} (h : Tr w t S F) (hp : S.Perm S') : Tr w t S' F := by
  obtain ⟨h, root, v, X, a1, a2, a3, a4⟩ := h
  exact ⟨h, root, v, X, by rw [← hp.length_eq]; exact a1, a2, a3.trans hp, a4⟩
theorem own_lay5 {w : World} {B n c : Nat} {A : Option Addr} {L : List Th} (h : rk.Own E5 w B 48 (.slice A n c) L) : Lay E5 w A L ∧ n = L.length ∧ ∀ b off, A = some ⟨b, off, none⟩ → B ≤ b := by
  obtain ⟨A', c', e, h1, -⟩ := h.open_
  injection e with e1 e2 e3
  subst e1 e2
  refine ⟨h1, rfl, fun b off e => ?_⟩
  subst e
  exact (h.lt' b rfl).1
theorem Tr.high' {w : World} {t : Nat} {S : List Th} {F : Nat → Prop} (h : Tr w t S F) : ∀ k, F k → k < w.heap.size := h.lt
theorem own_empty5 (w : World) : rk.Own E5 (w.alloc (.cells #[] 48)) w.heap.size 48 (.slice (some ⟨w.heap.size, 0, none⟩) 0 0) [] :=
  ⟨rfl, .inr ⟨w.heap.size, 0, #[], rfl, Nat.le_refl _, Blk.new w 48 #[], Nat.le_refl _, Nat.zero_le _, rfl, rfl⟩⟩
/-- what a step leaves -/
def StepP (t : Nat) (S : List Th) (F : Nat → Prop) (w : World) (e : Ending) (w' : World) : Prop := ∃ S' A' c' F', e = .returned (.tuple #[.slice A' S'.length c', .bool true]) ∧ Tr w' t S' F' ∧ Lay E5 w' A' S' ∧ (∀ b off, A' = some ⟨b, off, none⟩ → ¬ F' b) ∧ Only F w w' ∧ (∀ k, F' k → F k ∨ w.heap.size ≤ k) ∧ S'.length ≤ S.length + 1 ∧ (S.Nodup → S'.Nodup)
theorem blk_put5 {w : World} {b : Nat} {t : TypeId} {a0 a1 a2 a3 a4 : Value} (h : Blk w b t #[a0, a1, a2, a3, a4]) (v0 v1 v2 v3 v4 : Value) : Blk (((((w.setCell ⟨b, 0, none⟩ v0).setCell ⟨b, 1, none⟩ v1).setCell ⟨b, 2, none⟩ v2).setCell ⟨b, 3, none⟩ v3).setCell ⟨b, 4, none⟩ v4) b t #[v0, v1, v2, v3, v4] := by
  have h7 := ((((h.put 0 v0).put 1 v1).put 2 v2).put 3 v3).put 4 v4
  simp only [List.setIfInBounds_toArray, List.set_cons_zero, List.set_cons_succ] at h7
  exact h7
theorem below5 {B : Nat} {w0 w : World} {b : Nat} (h : Below B w0 w) (hb : B ≤ b) (v0 v1 v2 v3 v4 : Value) : Below B w0 (((((w.setCell ⟨b, 0, none⟩ v0).setCell ⟨b, 1, none⟩ v1).setCell ⟨b, 2, none⟩ v2).setCell ⟨b, 3, none⟩ v3).setCell ⟨b, 4, none⟩ v4) :=
  ((((h.setCell (p := ⟨b, 0, none⟩) hb v0).setCell (p := ⟨b, 1, none⟩) hb v1).setCell (p := ⟨b, 2, none⟩) hb v2).setCell (p := ⟨b, 3, none⟩) hb v3).setCell (p := ⟨b, 4, none⟩) hb v4
theorem StepP.same {t : Nat} {S : List Th} {F : Nat → Prop} {A : Option Addr} {c : Nat} {w w' : World} (ht : Tr w t S F) (hA : Lay E5 w A S) (hap : ∀ b off, A = some ⟨b, off, none⟩ → ¬ F b) (hb : Below w.heap.size w w') : StepP t S F w (.returned (.tuple #[.slice A S.length c, .bool true])) w' :=
  ⟨S, A, c, F, rfl, ht.below hb, hA.below hb, hap, (Only.refl F w).below hb (fun k hk hk2 => absurd hk (by omega)), fun k hk => .inl hk, by omega, fun q => q⟩
/-- a row of the step's own -/
theorem StepP.own {t : Nat} {S S' : List Th} {F F' : Nat → Prop} {A : Option Addr} {n c B : Nat} {w w5 w6 w' : World} (hb : Below w.heap.size w w5) (ht : Tr w6 t S' F') (h6 : Only F w5 w6) (hF : ∀ k, F' k → F k ∨ w5.heap.size ≤ k) (h7 : Below w6.heap.size w6 w') (ho : rk.Own E5 w' w6.heap.size 48 (.slice A n c) S') (hl : S'.length ≤ S.length + 1) (hn : S.Nodup → S'.Nodup) : StepP t S F w (.returned (.tuple #[.slice A n c, .bool true])) w' := by
  obtain ⟨h1, rfl, h3⟩ := own_lay5 ho
  have z1 := hb.size
  refine ⟨S', A, c, F', rfl, ht.below h7, h1, fun b off e q => ?_, (((Only.refl F w).below hb (fun k hk hk2 => absurd hk (by omega))).trans h6 (fun _ _ q => q)).below h7 (fun k hk hk2 => absurd hk (by have := h6.size; omega)), fun k hk => (hF k hk).imp id (fun q => by omega), hl, hn⟩
  have := h3 b off e
  have := ht.lt b q
  omega
theorem StepP.own2 {t : Nat} {S S' : List Th} {F F' : Nat → Prop} {A : Option Addr} {n c : Nat} {w w5 w8 w' : World} (hb : Below w.heap.size w w5) (hb8 : Below w5.heap.size w5 w8) (ho : rk.Own E5 w8 w5.heap.size 48 (.slice A n c) S') (ht : Tr w' t S' F') (h9 : Only F w8 w') (hF : ∀ k, F' k → F k ∨ w8.heap.size ≤ k) (hFl : ∀ k, F k → k < w.heap.size) (hl : S'.length ≤ S.length + 1) (hn : S.Nodup → S'.Nodup) : StepP t S F w (.returned (.tuple #[.slice A n c, .bool true])) w' := by
  have z1 := hb.size
  have z2 := hb8.size
  have ho9 := ho.only h9 (fun k e q => by have := (ho.lt' k e).1; have := hFl k q; omega)
  obtain ⟨h1, rfl, h3⟩ := own_lay5 ho9
  refine ⟨S', A, c, F', rfl, ht, h1, fun b off e q => ?_, (((Only.refl F w).below hb (fun k hk hk2 => absurd hk (by omega))).below hb8 (fun k hk hk2 => absurd hk (by omega))).trans h9 (fun _ _ q => q), fun k hk => (hF k hk).imp id (fun q => by omega), hl, hn⟩
  have h4 := h3 b off e
  subst e
  rcases hF b q with q | q
  · have := hFl b q
    omega
  · have := (ho.lt' b rfl).2.1
    omega
theorem erase_perm {S : List Th} {i : Nat} {d : Th} (hi : i < S.length) (hd : S.getD i dth = d) : S.Perm (d :: S.eraseIdx i) := by
  have : S[i] = d := by rw [List.getD_eq_getElem?_getD, List.getElem?_eq_getElem hi] at hd; exact hd
  rw [← this]
  exact (perm_idx hi).symm
theorem op_app' {P : Program} {ts : TypeId} {o : Oper} {a : Act} {w w' : World} {K : Act → World → Prop} {Q : Exit → Act → World → Prop} (s x : Operand)
    (ho : o.op = .call { callee := .builtin .append, args := #[s, x], argTypes := #[ts, ts] }) (hty : o.type = ts) {v X v' : Value} (h1 : a.eval s = v) (h2 : a.eval x = X)
    (hr : (Builtin.append_ #[ts, ts] ts #[v, X]).run P w = .ok v' w') (k : K (a.put o.dst v') w') : Oper.wp P o a w K Q := by
  unfold Oper.wp execOp
  simp only [ho, resolve, invoke, builtin, Sem.run_bind, Sem.run_pure, Result.andThen_ok, List.map_toArray, List.map_cons, List.map_nil, h1, h2, hty, hr]
  exact k
set_option maxRecDepth 100000 in
set_option maxHeartbeats 8000000 in
theorem step_any (t : Nat) (S : List Th) (F : Nat → Prop) (A : Option Addr) (c : Nat) (o : Op) (w : World) (ht : Tr w t S F) (hA : Lay E5 w A S) (hap : ∀ b off, A = some ⟨b, off, none⟩ → ¬ F b) (hS : S.length ≤ 800) (hok : o.ok) :
    Calls Try.prog 10 #[.pointer (some ⟨t, 0, none⟩), .slice A S.length c, .agg #[.int .i64 o.k, .int .i64 o.v, .int .i64 o.a, .int .i64 o.r.x, .int .i64 o.r.y, .int .i64 o.r.w, .int .i64 o.r.h]] w (StepP t S F w) := by
  obtain ⟨w1, hw1⟩ : ∃ w1, w.alloc (.cells #[.int .i64 o.k, .int .i64 o.v, .int .i64 o.a, .int .i64 o.r.x, .int .i64 o.r.y, .int .i64 o.r.w, .int .i64 o.r.h] 30) = w1 := ⟨_, rfl⟩
  have M1 := Lib.hid (show Below w.heap.size w w1 from by rw [← hw1]; exact made w _)
  have OB := Lib.hid (show Blk w1 w.heap.size 30 #[.int .i64 o.k, .int .i64 o.v, .int .i64 o.a, .int .i64 o.r.x, .int .i64 o.r.y, .int .i64 o.r.w, .int .i64 o.r.h] from by rw [← hw1]; exact Blk.new _ _ _)
  have HT := Lib.hid ht
  have LX := Lib.hid hA
  have AP := Lib.hid hap
  have HS := Lib.hid hS
  have OK := Lib.hid hok
  have FL := Lib.hid ht.lt
  have AL := Lib.hid (show ∀ b off, A = some ⟨b, off, none⟩ → 0 < S.length → b < w.heap.size from fun b off e h0 => by
    obtain ⟨b', o', e', hlt, -⟩ := hA h0
    rw [e] at e'
    injection e' with e'
    injection e' with e'
    rw [e']
    exact hlt)
  have HW1 := Lib.hid hw1
  clear ht hA hap hS hok hw1
  go_enter Try.func10, Try.ntmps10
  go_upto_region 1 with fail
  have hw1 := HW1.out
  simp only [hw1]
  clear hw1 HW1
  generalize hob : w.heap.size = ob at *
  have HOB := Lib.hid hob
  clear hob
  have SS := Lib.hid (fun W (hW : Below w1.heap.size w1 W) => (show W.cell? ⟨ob, 1, none⟩ = some (.int .i64 o.v) ∧ W.cell? ⟨ob, 3, none⟩ = some (.int .i64 o.r.x) ∧ W.cell? ⟨ob, 4, none⟩ = some (.int .i64 o.r.y) ∧ W.cell? ⟨ob, 5, none⟩ = some (.int .i64 o.r.w) ∧ W.cell? ⟨ob, 6, none⟩ = some (.int .i64 o.r.h) from
    ⟨(OB.out.below hW OB.out.lt).cell 1, (OB.out.below hW OB.out.lt).cell 3, (OB.out.below hW OB.out.lt).cell 4, (OB.out.below hW OB.out.lt).cell 5, (OB.out.below hW OB.out.lt).cell 6⟩))
  refine wp_region_held_drew (S := (fun ws => ws.cell? ⟨ob, 1, none⟩ = some (.int .i64 o.v) ∧ ws.cell? ⟨ob, 3, none⟩ = some (.int .i64 o.r.x) ∧ ws.cell? ⟨ob, 4, none⟩ = some (.int .i64 o.r.y) ∧ ws.cell? ⟨ob, 5, none⟩ = some (.int .i64 o.r.w) ∧ ws.cell? ⟨ob, 6, none⟩ = some (.int .i64 o.r.h))) (by kernel_rfl) (SS.out _ (base.below_drewN (Below.refl _ w1) 1)) (fun hHeld => ?_)
  refine wpAnyH_take (i := 0) (v := ?_) rfl (by kernel_rfl) (by kernel_rfl) (by kernel_rfl) (fun _ _ _ h => h) (Or.inl ⟨by rfl, ?_⟩) (by assumption) ?_
  rotate_left
  · (intro w hSw; (try dsimp only at hSw); first | (go_simp; done) | (go_simp; with_reducible rfl))
  simp only [Act.put, List.getElem_toArray, List.getElem_cons_zero, List.getElem_cons_succ, List.setIfInBounds_toArray, List.set_cons_zero, List.set_cons_succ]
  refine wpAnyH_take (i := 1) (v := ?_) rfl (by kernel_rfl) (by kernel_rfl) (by kernel_rfl) (fun _ _ _ h => h) (Or.inl ⟨by rfl, ?_⟩) (by assumption) ?_
  rotate_left
  · (intro w hSw; (try dsimp only at hSw); first | (go_simp; done) | (go_simp; with_reducible rfl))
  simp only [Act.put, List.getElem_toArray, List.getElem_cons_zero, List.getElem_cons_succ, List.setIfInBounds_toArray, List.set_cons_zero, List.set_cons_succ]
  refine wpAnyH_take (i := 3) (v := ?_) rfl (by kernel_rfl) (by kernel_rfl) (by kernel_rfl) (fun _ _ _ h => h) (Or.inl ⟨by rfl, ?_⟩) (by assumption) ?_
  rotate_left
  · (intro w hSw; (try dsimp only at hSw); first | (go_simp; done) | (go_simp; with_reducible rfl))
  simp only [Act.put, List.getElem_toArray, List.getElem_cons_zero, List.getElem_cons_succ, List.setIfInBounds_toArray, List.set_cons_zero, List.set_cons_succ]
  refine wpAnyH_take (i := 4) (v := ?_) rfl (by kernel_rfl) (by kernel_rfl) (by kernel_rfl) (fun _ _ _ h => h) (Or.inl ⟨by rfl, ?_⟩) (by assumption) ?_
  rotate_left
  · (intro w hSw; (try dsimp only at hSw); first | (go_simp; done) | (go_simp; with_reducible rfl))
  simp only [Act.put, List.getElem_toArray, List.getElem_cons_zero, List.getElem_cons_succ, List.setIfInBounds_toArray, List.set_cons_zero, List.set_cons_succ]
  have LR := Lib.hid (fun W => lref_any o.r W)
  refine wpAnyH_ready (rs := [2, 6]) (by kernel_rfl) (by simp) ?_
  refine AllReadyH.cons rfl (fun K hK => ?_) (AllReadyH.cons rfl (fun K hK => ?_) AllReadyH.nil)
  · go_simp
    refine (LR.out _).mono ?_
    rintro e w2 ⟨rfl, hb2⟩
    have B2 := Lib.hid (show Below w1.heap.size w1 w2 from (base.below_drewN (Below.refl w1.heap.size w1) 1).trans hb2)
    refine hK.out _ _ (SS.out _ B2.out) (fun hHeld2 => ?_)
    clear hK K hHeld hb2
    refine wpAnyH_take (i := 5) (v := ?_) rfl (by kernel_rfl) (by kernel_rfl) (by kernel_rfl) (fun _ _ _ h => h) (Or.inl ⟨by rfl, ?_⟩) (by assumption) ?_
    rotate_left
    · (intro w hSw; (try dsimp only at hSw); first | (go_simp; done) | (go_simp; with_reducible rfl))
    simp only [Act.put, List.getElem_toArray, List.getElem_cons_zero, List.getElem_cons_succ, List.setIfInBounds_toArray, List.set_cons_zero, List.set_cons_succ]
    refine wpAnyH_ready (rs := [6]) (by kernel_rfl) (by simp) ?_
    refine AllReadyH.cons rfl (fun K hK => ?_) AllReadyH.nil
    go_simp
    obtain ⟨w3, hw3⟩ : ∃ w3, w2.alloc (.cells #[.int .i64 0, .int .i64 0, .int .i64 0, .int .i64 0, .int .i64 0] 48) = w3 := ⟨_, rfl⟩
    have N3 := Lib.hid (show Blk w3 w2.heap.size 48 #[.int .i64 0, .int .i64 0, .int .i64 0, .int .i64 0, .int .i64 0] from by rw [← hw3]; exact Blk.new _ _ _)
    have B3 := Lib.hid (show Below w1.heap.size w1 w3 from up B2.out (by rw [← hw3]; exact made w2 _) B2.out.size)
    have GE := Lib.hid (B2.out.size)
    rw [hw3]
    refine hK.out _ _ (SS.out _ B3.out) (fun hHeld => ?_)
    clear hK K hHeld2 hw3
    generalize w2.heap.size = ib at *
    have hHeld2 := hHeld
    clear hHeld
    have i0 := N3.out.cell 0
    have i1 := N3.out.cell 1
    have i2 := N3.out.cell 2
    have i3 := N3.out.cell 3
    have i4 := N3.out.cell 4
    have f0 := N3.out.free 0
    have f1 := N3.out.free 1
    have f2 := N3.out.free 2
    have f3 := N3.out.free 3
    have f4 := N3.out.free 4
    refine wpAnyH_ready (rs := [7]) (by kernel_rfl) (by simp) ?_
    refine AllReadyH.cons rfl (fun K hK => ?_) AllReadyH.nil
    go_simp
    have N4 := Lib.hid (blk_put5 N3.out (.int .i64 o.r.x) (.int .i64 o.r.y) (.int .i64 o.r.w) (.int .i64 o.r.h) (.int .i64 o.v))
    have B4 := Lib.hid (below5 B3.out GE.out (.int .i64 o.r.x) (.int .i64 o.r.y) (.int .i64 o.r.w) (.int .i64 o.r.h) (.int .i64 o.v))
    refine hK.out _ _ (SS.out _ B4.out) (fun hHeld => ?_)
    clear hK K hHeld2 i0 i1 i2 i3 i4 f0 f1 f2 f3 f4 N3 B3
    refine wpAnyH_done (by kernel_rfl) ?_ _
    clear hHeld
    generalize (((((w3.setCell ⟨ib, 0, none⟩ (.int .i64 o.r.x)).setCell ⟨ib, 1, none⟩ (.int .i64 o.r.y)).setCell ⟨ib, 2, none⟩ (.int .i64 o.r.w)).setCell ⟨ib, 3, none⟩ (.int .i64 o.r.h)).setCell ⟨ib, 4, none⟩ (.int .i64 o.v)) = w4 at *
    have UN := Lib.hid (show Below w.heap.size w w1 from by rw [HOB.out]; exact M1.out)
    have U4 := Lib.hid (up UN.out B4.out UN.out.size)
    have L4 := Lib.hid (LX.out.below U4.out)
    have FD := Lib.hid (find_any A c S (o.r, o.v) w4 L4.out (by have := HS.out; omega))
    dsimp only at FD
    have n0 := N4.out.cell 0
    have n1 := N4.out.cell 1
    have n2 := N4.out.cell 2
    have n3 := N4.out.cell 3
    have n4 := N4.out.cell 4
    go_wp2_with fail
    refine FD.out.mono ?_
    rintro e5 w5 ⟨⟨z, rfl, hz⟩, hb5⟩
    have B5 := Lib.hid (up B4.out hb5 B4.out.size)
    have U5 := Lib.hid (up UN.out B5.out UN.out.size)
    have HZ := Lib.hid hz
    have N5 := Lib.hid (N4.out.below hb5 N4.out.lt)
    have O5 := Lib.hid (OB.out.below B5.out OB.out.lt)
    have TR5 := Lib.hid (HT.out.below U5.out)
    have L5 := Lib.hid (LX.out.below U5.out)
    clear hb5 FD n0 n1 n2 n3 n4 hz N4 L4 LR SS
    have c0 := O5.out.cell 0
    have c1 := O5.out.cell 1
    have c2 := O5.out.cell 2
    have c3 := O5.out.cell 3
    have c4 := O5.out.cell 4
    have c5 := O5.out.cell 5
    have c6 := O5.out.cell 6
    by_cases k1 : o.k = 1
    · have q1 : (o.k == 1) = true := by rw [beq_iff_eq]; exact k1
      have q2 : decide (o.k = 1) = true := decide_eq_true k1
      have IN := Lib.hid (insert_any t S F o.r o.v w5 TR5.out (by have := HS.out; omega))
      have RR := Lib.hid (fun W => rright_any o.r.x o.r.y o.r.w o.r.h OK.out.1 W)
      clear k1
      go_wp2_with fail
      refine IN.out.mono ?_
      rintro e6 w6 hin
      rcases hin with ⟨hr, rfl, hb6⟩ | ⟨hr, hm, rfl, hb6⟩ | ⟨hr, hm, rfl, F', ht6, ho6, hF6⟩
      · have B6 := Lib.hid (up U5.out hb6 U5.out.size)
        have N6 := Lib.hid (N5.out.below hb6 N5.out.lt)
        have HRR := Lib.hid (show rightB o.r.x o.r.y o.r.w o.r.h = false from hr)
        clear hb6 hr IN c0 c1 c2 c3 c4 c5 c6 q1 q2
        have n0 := N6.out.cell 0
        have n1 := N6.out.cell 1
        have n2 := N6.out.cell 2
        have n3 := N6.out.cell 3
        go_wp2_with fail
        refine (RR.out _).mono ?_
        rintro e7 w7 ⟨rfl, hb7⟩
        have B7 := Lib.hid (up B6.out hb7 B6.out.size)
        rw [HRR.out]
        clear hb7 n0 n1 n2 n3
        go_wp2_with fail
        exact bodyPost_ret (v := .tuple #[.slice A S.length c, .bool true]) (by simp [results, Try.results10, go_sem]) rfl (StepP.same HT.out LX.out AP.out B7.out)
      · have B6 := Lib.hid (up U5.out hb6 U5.out.size)
        have N6 := Lib.hid (N5.out.below hb6 N5.out.lt)
        have HRR := Lib.hid (show rightB o.r.x o.r.y o.r.w o.r.h = true from hr)
        obtain ⟨i, hzi, -, -⟩ : ∃ i : Nat, z = i ∧ i < S.length ∧ S.getD i dth = (o.r, o.v) := by
          rcases HZ.out with ⟨-, q⟩ | q
          · exact absurd hm q
          · exact q
        subst hzi
        have d0 : decide ((i : Int) ≥ 0) = true := decide_eq_true (by omega)
        have d0b : decide (0 ≤ (i : Int)) = true := decide_eq_true (by omega)
        clear hb6 hr hm IN c0 c1 c2 c3 c4 c5 c6 q1 q2
        have n0 := N6.out.cell 0
        have n1 := N6.out.cell 1
        have n2 := N6.out.cell 2
        have n3 := N6.out.cell 3
        go_wp2_with fail
        refine (RR.out _).mono ?_
        rintro e7 w7 ⟨rfl, hb7⟩
        have B7 := Lib.hid (up B6.out hb7 B6.out.size)
        rw [HRR.out]
        clear hb7 n0 n1 n2 n3
        go_wp2_with fail
        exact bodyPost_ret (v := .tuple #[.slice A S.length c, .bool true]) (by simp [results, Try.results10, go_sem]) rfl (StepP.same HT.out LX.out AP.out B7.out)
      · have obF : ¬ F ob := fun q => by
          have := FL.out ob q
          have := HOB.out
          omega
        have ibF : ¬ F ib := fun q => by
          have h1 := FL.out ib q
          have h2 := HOB.out
          have h3 := GE.out
          have h4 := UN.out.size
          omega
        have N6 := Lib.hid (N5.out.only ho6 ibF)
        have L6 := Lib.hid (L5.out.keep (fun b hb ⟨off, e⟩ => ho6.block b hb (AP.out b off e)))
        have HRR := Lib.hid (show rightB o.r.x o.r.y o.r.w o.r.h = true from hr)
        have HT6 := Lib.hid ht6
        have HO6 := Lib.hid (And.intro ho6 hF6)
        have HM := Lib.hid hm
        have hz1 : z = -1 := by
          rcases HZ.out with ⟨q, -⟩ | ⟨i, -, q1, q2⟩
          · exact q
          · exfalso
            rw [List.getD_eq_getElem?_getD, List.getElem?_eq_getElem q1, Option.getD_some] at q2
            exact hm (q2 ▸ List.getElem_mem q1)
        subst hz1
        clear ht6 ho6 hF6 hr hm obF ibF IN c0 c1 c2 c3 c4 c5 c6 q1 q2
        have n0 := N6.out.cell 0
        have n1 := N6.out.cell 1
        have n2 := N6.out.cell 2
        have n3 := N6.out.cell 3
        go_wp2_with fail
        refine (RR.out _).mono ?_
        rintro e7 w7 ⟨rfl, hb7⟩
        have B7 := Lib.hid hb7
        have N7 := Lib.hid (N6.out.below hb7 N6.out.lt)
        have L7 := Lib.hid (L6.out.below hb7)
        rw [HRR.out]
        clear hb7 n0 n1 n2 n3
        go_wp2_with fail
        refine wp_region_held_drew (S := (fun ws => ws.cell? ⟨ib, 0, none⟩ = some (.int .i64 o.r.x) ∧ ws.cell? ⟨ib, 1, none⟩ = some (.int .i64 o.r.y) ∧ ws.cell? ⟨ib, 2, none⟩ = some (.int .i64 o.r.w) ∧ ws.cell? ⟨ib, 3, none⟩ = some (.int .i64 o.r.h) ∧ ws.cell? ⟨ib, 4, none⟩ = some (.int .i64 o.v))) (by kernel_rfl) ⟨N7.out.cell 0, N7.out.cell 1, N7.out.cell 2, N7.out.cell 3, N7.out.cell 4⟩ (fun hHeld => ?_)
        refine wpAnyH_take (i := 1) (v := ?_) rfl (by kernel_rfl) (by kernel_rfl) (by kernel_rfl) (fun _ _ _ h => h) (Or.inl ⟨by rfl, ?_⟩) (by assumption) ?_
        rotate_left
        · (intro w hSw; (try dsimp only at hSw); first | (go_simp; done) | (go_simp; with_reducible rfl))
        simp only [Act.put, List.getElem_toArray, List.getElem_cons_zero, List.getElem_cons_succ, List.setIfInBounds_toArray, List.set_cons_zero, List.set_cons_succ]
        refine wpAnyH_take (i := 3) (v := ?_) rfl (by kernel_rfl) (by kernel_rfl) (by kernel_rfl) (fun _ _ _ h => h) (Or.inl ⟨by rfl, ?_⟩) (by assumption) ?_
        rotate_left
        · (intro w hSw; (try dsimp only at hSw); first | (go_simp; done) | (go_simp; with_reducible rfl))
        simp only [Act.put, List.getElem_toArray, List.getElem_cons_zero, List.getElem_cons_succ, List.setIfInBounds_toArray, List.set_cons_zero, List.set_cons_succ]
        refine wpAnyH_take (i := 6) (v := ?_) rfl (by kernel_rfl) (by kernel_rfl) (by kernel_rfl) (fun _ _ _ h => h) (Or.inl ⟨by rfl, ?_⟩) (by assumption) ?_
        rotate_left
        · (intro w hSw; (try dsimp only at hSw); first | (go_simp; done) | (go_simp; with_reducible rfl))
        simp only [Act.put, List.getElem_toArray, List.getElem_cons_zero, List.getElem_cons_succ, List.setIfInBounds_toArray, List.set_cons_zero, List.set_cons_succ]
        refine wpAnyH_take (i := 7) (v := ?_) rfl (by kernel_rfl) (by kernel_rfl) (by kernel_rfl) (fun _ _ _ h => h) (Or.inl ⟨by rfl, ?_⟩) (by assumption) ?_
        rotate_left
        · (intro w hSw; (try dsimp only at hSw); first | (go_simp; done) | (go_simp; with_reducible rfl))
        simp only [Act.put, List.getElem_toArray, List.getElem_cons_zero, List.getElem_cons_succ, List.setIfInBounds_toArray, List.set_cons_zero, List.set_cons_succ]
        refine wpAnyH_ready (rs := [0, 4]) (by kernel_rfl) (by simp) ?_
        refine AllReadyH.cons rfl (fun K hK => ?_) (AllReadyH.cons rfl (fun K hK => ?_) AllReadyH.nil)
        · go_simp
          obtain ⟨wv0, hwv0⟩ : ∃ wv0, (w7.alloc (.cells #[] 48)).drew = wv0 := ⟨_, rfl⟩
          have Mwv0 := Lib.hid (show Below w7.heap.size w7 wv0 from by rw [← hwv0]; exact (made w7 _).drew)
          have Bwv0 := Lib.hid (show Below w7.heap.size w7 wv0 from Mwv0.out)
          obtain ⟨b0, hb0⟩ : ∃ b0, w7.heap.size = b0 := ⟨_, rfl⟩
          have HB0 := Lib.hid hb0
          have O0 := Lib.hid (show rk.Own E5 wv0 w7.heap.size 48 (.slice (some ⟨b0, 0, none⟩) 0 0) [] from (by
            rw [← hb0]
            have : rk.Own E5 wv0 w7.heap.size 48 (.slice (some ⟨w7.heap.size, 0, none⟩) 0 0) [] := by rw [← hwv0]; exact own_empty5 w7
            exact this.mono (Nat.le_refl _)))
          clear hb0
          simp only [hwv0]
          have Swv0 := Lib.hid (N7.out.below Bwv0.out N7.out.lt)
          refine hK.out _ _ ⟨Swv0.out.cell 0, Swv0.out.cell 1, Swv0.out.cell 2, Swv0.out.cell 3, Swv0.out.cell 4⟩ (fun hHeld2 => ?_)
          clear hK K hHeld hwv0
          simp only [HB0.out]
          refine wpAnyH_ready (rs := [2, 4]) (by kernel_rfl) (by simp) ?_
          refine AllReadyH.cons rfl (fun K hK => ?_) (AllReadyH.cons rfl (fun K hK => ?_) AllReadyH.nil)
          · obtain ⟨v2, wv1, hr2, own2, gr2⟩ := rk.app_run T5 (c := c) O0.out (L7.out.below Bwv0.out) (fun _ => by cases A <;> simp) (by simp; have := HS.out; omega) Bwv0.out.size
            have Bwv1 := Lib.hid (Bwv0.out.trans (gr2.below O0.out Bwv0.out.size))
            have O2 := Lib.hid own2
            have Swv1 := Lib.hid (N7.out.below Bwv1.out N7.out.lt)
            refine op_app' (.tmp 45) (.tmp 46) rfl rfl rfl rfl hr2 ?_
            refine hK.out _ _ ⟨Swv1.out.cell 0, Swv1.out.cell 1, Swv1.out.cell 2, Swv1.out.cell 3, Swv1.out.cell 4⟩ (fun hHeld => ?_)
            clear hK K hHeld2 own2 gr2 hr2
            refine wpAnyH_ready (rs := [4]) (by kernel_rfl) (by simp) ?_
            refine AllReadyH.cons rfl (fun K hK => ?_) AllReadyH.nil
            go_simp
            obtain ⟨wv2, hwv2⟩ : ∃ wv2, (wv1.alloc (.cells #[.int .i64 o.r.x, .int .i64 o.r.y, .int .i64 o.r.w, .int .i64 o.r.h, .int .i64 o.v] 48)) = wv2 := ⟨_, rfl⟩
            have Mwv2 := Lib.hid (show Below wv1.heap.size wv1 wv2 from by rw [← hwv2]; exact (made wv1 _))
            have Bwv2 := Lib.hid (show Below w7.heap.size w7 wv2 from up Bwv1.out Mwv2.out Bwv1.out.size)
            have D4 := Lib.hid (show Blk wv2 wv1.heap.size 48 (E5.enc (o.r, o.v)).toArray from by rw [← hwv2]; exact (Blk.new wv1 _ _))
            obtain ⟨b4, hb4⟩ : ∃ b4, wv1.heap.size = b4 := ⟨_, rfl⟩
            have HB4 := Lib.hid hb4
            rw [hb4] at D4
            have L4 := Lib.hid (show b4 < wv2.heap.size from D4.out.lt)
            clear hb4
            have O2 := Lib.hid (O2.out.below Mwv2.out)
            simp only [hwv2]
            have Swv2 := Lib.hid (N7.out.below Bwv2.out N7.out.lt)
            refine hK.out _ _ ⟨Swv2.out.cell 0, Swv2.out.cell 1, Swv2.out.cell 2, Swv2.out.cell 3, Swv2.out.cell 4⟩ (fun hHeld2 => ?_)
            clear hK K hHeld hwv2
            simp only [HB4.out]
            refine wpAnyH_ready (rs := [5]) (by kernel_rfl) (by simp) ?_
            refine AllReadyH.cons rfl (fun K hK => ?_) AllReadyH.nil
            obtain ⟨v9, w9, hr9, own9, gr9⟩ := rk.app_run T5 (c := 1) O2.out (Lay.lit (E := E5) wv2 (o.r, o.v) _ _ D4.out) (fun e => by simp at e) (by simp; have := HS.out; omega) Bwv2.out.size
            have B9 := Lib.hid (Bwv2.out.trans (gr9.below O2.out Bwv2.out.size))
            have S9 := Lib.hid (N7.out.below B9.out N7.out.lt)
            have O9 := Lib.hid own9
            refine op_app' (.tmp 47) (.tmp 49) rfl rfl rfl rfl hr9 ?_
            refine hK.out _ _ ⟨S9.out.cell 0, S9.out.cell 1, S9.out.cell 2, S9.out.cell 3, S9.out.cell 4⟩ (fun hHeld => ?_)
            clear hK K hHeld2 own9 gr9 hr9
            refine wpAnyH_take (i := 8) (v := ?_) rfl (by kernel_rfl) (by kernel_rfl) (by kernel_rfl) (fun _ _ _ h => h) (Or.inl ⟨by rfl, ?_⟩) (by assumption) ?_
            rotate_left
            · (intro w hSw; (try dsimp only at hSw); first | (go_simp; done) | (go_simp; with_reducible rfl))
            simp only [Act.put, List.getElem_toArray, List.getElem_cons_zero, List.getElem_cons_succ, List.setIfInBounds_toArray, List.set_cons_zero, List.set_cons_succ]
            refine wpAnyH_take (i := 9) (v := ?_) rfl (by kernel_rfl) (by kernel_rfl) (by kernel_rfl) (fun _ _ _ h => h) (Or.inl ⟨by rfl, ?_⟩) (by assumption) ?_
            rotate_left
            · (intro w hSw; (try dsimp only at hSw); first | (go_simp; done) | (go_simp; with_reducible rfl))
            simp only [Act.put, List.getElem_toArray, List.getElem_cons_zero, List.getElem_cons_succ, List.setIfInBounds_toArray, List.set_cons_zero, List.set_cons_succ]
            refine wpAnyH_done (by kernel_rfl) ?_ _
            clear hHeld
            obtain ⟨A9, c9, hv9, -⟩ := O9.out.open_
            subst hv9
            have FIN := Lib.hid (show StepP t S F w (.returned (.tuple #[.slice A9 ([] ++ S ++ [(o.r, o.v)]).length c9, .bool true])) w9 from
              StepP.own (B := 0) U5.out HT6.out HO6.out.1 HO6.out.2 (up B7.out B9.out B7.out.size) (by
                have := O9.out.mono (show w6.heap.size ≤ w7.heap.size from B7.out.size)
                simpa using this) (by simp) (fun q => by
                rw [List.nodup_append]
                exact ⟨q, by simp, fun a ha b hb => by
                  rw [List.mem_singleton] at hb
                  subst hb
                  exact fun e => HM.out (e ▸ ha)⟩))
            generalize ([] ++ S ++ [(o.r, o.v)]).length = n9 at *
            clear O9 HT6 HO6
            go_wp2_with fail
            exact bodyPost_ret (v := .tuple #[.slice A9 n9 c9, .bool true]) (by simp [results, Try.results10, go_sem]) rfl FIN.out
          · go_simp
            obtain ⟨wv1, hwv1⟩ : ∃ wv1, (wv0.alloc (.cells #[.int .i64 o.r.x, .int .i64 o.r.y, .int .i64 o.r.w, .int .i64 o.r.h, .int .i64 o.v] 48)) = wv1 := ⟨_, rfl⟩
            have Mwv1 := Lib.hid (show Below wv0.heap.size wv0 wv1 from by rw [← hwv1]; exact (made wv0 _))
            have Bwv1 := Lib.hid (show Below w7.heap.size w7 wv1 from up Bwv0.out Mwv1.out Bwv0.out.size)
            have D4 := Lib.hid (show Blk wv1 wv0.heap.size 48 (E5.enc (o.r, o.v)).toArray from by rw [← hwv1]; exact (Blk.new wv0 _ _))
            obtain ⟨b4, hb4⟩ : ∃ b4, wv0.heap.size = b4 := ⟨_, rfl⟩
            have HB4 := Lib.hid hb4
            rw [hb4] at D4
            have L4 := Lib.hid (show b4 < wv1.heap.size from D4.out.lt)
            clear hb4
            have NE04 := Lib.hid (show b4 ≠ b0 from by have h1 := (O0.out.lt' b0 rfl).2.1; have h2 := HB4.out; omega)
            have O0 := Lib.hid (O0.out.below Mwv1.out)
            simp only [hwv1]
            have Swv1 := Lib.hid (N7.out.below Bwv1.out N7.out.lt)
            refine hK.out _ _ ⟨Swv1.out.cell 0, Swv1.out.cell 1, Swv1.out.cell 2, Swv1.out.cell 3, Swv1.out.cell 4⟩ (fun hHeld => ?_)
            clear hK K hHeld2 hwv1
            simp only [HB4.out]
            refine wpAnyH_ready (rs := [2]) (by kernel_rfl) (by simp) ?_
            refine AllReadyH.cons rfl (fun K hK => ?_) AllReadyH.nil
            obtain ⟨v2, wv2, hr2, own2, gr2⟩ := rk.app_run T5 (c := c) O0.out (L7.out.below Bwv1.out) (fun _ => by cases A <;> simp) (by simp; have := HS.out; omega) Bwv1.out.size
            have Bwv2 := Lib.hid (Bwv1.out.trans (gr2.below O0.out Bwv1.out.size))
            have O2 := Lib.hid own2
            have D4 := Lib.hid (show Blk wv2 b4 48 (E5.enc (o.r, o.v)).toArray from (gr2.grown.block b4 D4.out.lt (fun e => by
              have e2 : some b4 = some b0 := e
              injection e2 with e2
              exact NE04.out e2)).trans D4.out)
            have Swv2 := Lib.hid (N7.out.below Bwv2.out N7.out.lt)
            refine op_app' (.tmp 45) (.tmp 46) rfl rfl rfl rfl hr2 ?_
            refine hK.out _ _ ⟨Swv2.out.cell 0, Swv2.out.cell 1, Swv2.out.cell 2, Swv2.out.cell 3, Swv2.out.cell 4⟩ (fun hHeld2 => ?_)
            clear hK K hHeld own2 gr2 hr2
            refine wpAnyH_ready (rs := [5]) (by kernel_rfl) (by simp) ?_
            refine AllReadyH.cons rfl (fun K hK => ?_) AllReadyH.nil
            obtain ⟨v9, w9, hr9, own9, gr9⟩ := rk.app_run T5 (c := 1) O2.out (Lay.lit (E := E5) wv2 (o.r, o.v) _ _ D4.out) (fun e => by simp at e) (by simp; have := HS.out; omega) Bwv2.out.size
            have B9 := Lib.hid (Bwv2.out.trans (gr9.below O2.out Bwv2.out.size))
            have S9 := Lib.hid (N7.out.below B9.out N7.out.lt)
            have O9 := Lib.hid own9
            refine op_app' (.tmp 47) (.tmp 49) rfl rfl rfl rfl hr9 ?_
            refine hK.out _ _ ⟨S9.out.cell 0, S9.out.cell 1, S9.out.cell 2, S9.out.cell 3, S9.out.cell 4⟩ (fun hHeld => ?_)
            clear hK K hHeld2 own9 gr9 hr9
            refine wpAnyH_take (i := 8) (v := ?_) rfl (by kernel_rfl) (by kernel_rfl) (by kernel_rfl) (fun _ _ _ h => h) (Or.inl ⟨by rfl, ?_⟩) (by assumption) ?_
            rotate_left
            · (intro w hSw; (try dsimp only at hSw); first | (go_simp; done) | (go_simp; with_reducible rfl))
            simp only [Act.put, List.getElem_toArray, List.getElem_cons_zero, List.getElem_cons_succ, List.setIfInBounds_toArray, List.set_cons_zero, List.set_cons_succ]
            refine wpAnyH_take (i := 9) (v := ?_) rfl (by kernel_rfl) (by kernel_rfl) (by kernel_rfl) (fun _ _ _ h => h) (Or.inl ⟨by rfl, ?_⟩) (by assumption) ?_
            rotate_left
            · (intro w hSw; (try dsimp only at hSw); first | (go_simp; done) | (go_simp; with_reducible rfl))
            simp only [Act.put, List.getElem_toArray, List.getElem_cons_zero, List.getElem_cons_succ, List.setIfInBounds_toArray, List.set_cons_zero, List.set_cons_succ]
            refine wpAnyH_done (by kernel_rfl) ?_ _
            clear hHeld
            obtain ⟨A9, c9, hv9, -⟩ := O9.out.open_
            subst hv9
            have FIN := Lib.hid (show StepP t S F w (.returned (.tuple #[.slice A9 ([] ++ S ++ [(o.r, o.v)]).length c9, .bool true])) w9 from
              StepP.own (B := 0) U5.out HT6.out HO6.out.1 HO6.out.2 (up B7.out B9.out B7.out.size) (by
                have := O9.out.mono (show w6.heap.size ≤ w7.heap.size from B7.out.size)
                simpa using this) (by simp) (fun q => by
                rw [List.nodup_append]
                exact ⟨q, by simp, fun a ha b hb => by
                  rw [List.mem_singleton] at hb
                  subst hb
                  exact fun e => HM.out (e ▸ ha)⟩))
            generalize ([] ++ S ++ [(o.r, o.v)]).length = n9 at *
            clear O9 HT6 HO6
            go_wp2_with fail
            exact bodyPost_ret (v := .tuple #[.slice A9 n9 c9, .bool true]) (by simp [results, Try.results10, go_sem]) rfl FIN.out
        · go_simp
          obtain ⟨wv0, hwv0⟩ : ∃ wv0, (w7.alloc (.cells #[.int .i64 o.r.x, .int .i64 o.r.y, .int .i64 o.r.w, .int .i64 o.r.h, .int .i64 o.v] 48)).drew = wv0 := ⟨_, rfl⟩
          have Mwv0 := Lib.hid (show Below w7.heap.size w7 wv0 from by rw [← hwv0]; exact (made w7 _).drew)
          have Bwv0 := Lib.hid (show Below w7.heap.size w7 wv0 from Mwv0.out)
          have D4 := Lib.hid (show Blk wv0 w7.heap.size 48 (E5.enc (o.r, o.v)).toArray from by rw [← hwv0]; exact (Blk.new w7 _ _))
          obtain ⟨b4, hb4⟩ : ∃ b4, w7.heap.size = b4 := ⟨_, rfl⟩
          have HB4 := Lib.hid hb4
          rw [hb4] at D4
          have L4 := Lib.hid (show b4 < wv0.heap.size from D4.out.lt)
          clear hb4
          simp only [hwv0]
          have Swv0 := Lib.hid (N7.out.below Bwv0.out N7.out.lt)
          refine hK.out _ _ ⟨Swv0.out.cell 0, Swv0.out.cell 1, Swv0.out.cell 2, Swv0.out.cell 3, Swv0.out.cell 4⟩ (fun hHeld2 => ?_)
          clear hK K hHeld hwv0
          simp only [HB4.out]
          refine wpAnyH_ready (rs := [0]) (by kernel_rfl) (by simp) ?_
          refine AllReadyH.cons rfl (fun K hK => ?_) AllReadyH.nil
          go_simp
          obtain ⟨wv1, hwv1⟩ : ∃ wv1, (wv0.alloc (.cells #[] 48)) = wv1 := ⟨_, rfl⟩
          have Mwv1 := Lib.hid (show Below wv0.heap.size wv0 wv1 from by rw [← hwv1]; exact (made wv0 _))
          have Bwv1 := Lib.hid (show Below w7.heap.size w7 wv1 from up Bwv0.out Mwv1.out Bwv0.out.size)
          obtain ⟨b0, hb0⟩ : ∃ b0, wv0.heap.size = b0 := ⟨_, rfl⟩
          have HB0 := Lib.hid hb0
          have O0 := Lib.hid (show rk.Own E5 wv1 w7.heap.size 48 (.slice (some ⟨b0, 0, none⟩) 0 0) [] from (by
            rw [← hb0]
            have : rk.Own E5 wv1 wv0.heap.size 48 (.slice (some ⟨wv0.heap.size, 0, none⟩) 0 0) [] := by rw [← hwv1]; exact own_empty5 wv0
            exact this.mono (Bwv0.out.size)))
          clear hb0
          have D4 := Lib.hid (D4.out.below Mwv1.out D4.out.lt)
          have NE04 := Lib.hid (show b4 ≠ b0 from by have h1 := HB0.out; have h2 := L4.out; omega)
          simp only [hwv1]
          have Swv1 := Lib.hid (N7.out.below Bwv1.out N7.out.lt)
          refine hK.out _ _ ⟨Swv1.out.cell 0, Swv1.out.cell 1, Swv1.out.cell 2, Swv1.out.cell 3, Swv1.out.cell 4⟩ (fun hHeld => ?_)
          clear hK K hHeld2 hwv1
          simp only [HB0.out]
          refine wpAnyH_ready (rs := [2]) (by kernel_rfl) (by simp) ?_
          refine AllReadyH.cons rfl (fun K hK => ?_) AllReadyH.nil
          obtain ⟨v2, wv2, hr2, own2, gr2⟩ := rk.app_run T5 (c := c) O0.out (L7.out.below Bwv1.out) (fun _ => by cases A <;> simp) (by simp; have := HS.out; omega) Bwv1.out.size
          have Bwv2 := Lib.hid (Bwv1.out.trans (gr2.below O0.out Bwv1.out.size))
          have O2 := Lib.hid own2
          have D4 := Lib.hid (show Blk wv2 b4 48 (E5.enc (o.r, o.v)).toArray from (gr2.grown.block b4 D4.out.lt (fun e => by
            have e2 : some b4 = some b0 := e
            injection e2 with e2
            exact NE04.out e2)).trans D4.out)
          have Swv2 := Lib.hid (N7.out.below Bwv2.out N7.out.lt)
          refine op_app' (.tmp 45) (.tmp 46) rfl rfl rfl rfl hr2 ?_
          refine hK.out _ _ ⟨Swv2.out.cell 0, Swv2.out.cell 1, Swv2.out.cell 2, Swv2.out.cell 3, Swv2.out.cell 4⟩ (fun hHeld2 => ?_)
          clear hK K hHeld own2 gr2 hr2
          refine wpAnyH_ready (rs := [5]) (by kernel_rfl) (by simp) ?_
          refine AllReadyH.cons rfl (fun K hK => ?_) AllReadyH.nil
          obtain ⟨v9, w9, hr9, own9, gr9⟩ := rk.app_run T5 (c := 1) O2.out (Lay.lit (E := E5) wv2 (o.r, o.v) _ _ D4.out) (fun e => by simp at e) (by simp; have := HS.out; omega) Bwv2.out.size
          have B9 := Lib.hid (Bwv2.out.trans (gr9.below O2.out Bwv2.out.size))
          have S9 := Lib.hid (N7.out.below B9.out N7.out.lt)
          have O9 := Lib.hid own9
          refine op_app' (.tmp 47) (.tmp 49) rfl rfl rfl rfl hr9 ?_
          refine hK.out _ _ ⟨S9.out.cell 0, S9.out.cell 1, S9.out.cell 2, S9.out.cell 3, S9.out.cell 4⟩ (fun hHeld => ?_)
          clear hK K hHeld2 own9 gr9 hr9
          refine wpAnyH_take (i := 8) (v := ?_) rfl (by kernel_rfl) (by kernel_rfl) (by kernel_rfl) (fun _ _ _ h => h) (Or.inl ⟨by rfl, ?_⟩) (by assumption) ?_
          rotate_left
          · (intro w hSw; (try dsimp only at hSw); first | (go_simp; done) | (go_simp; with_reducible rfl))
          simp only [Act.put, List.getElem_toArray, List.getElem_cons_zero, List.getElem_cons_succ, List.setIfInBounds_toArray, List.set_cons_zero, List.set_cons_succ]
          refine wpAnyH_take (i := 9) (v := ?_) rfl (by kernel_rfl) (by kernel_rfl) (by kernel_rfl) (fun _ _ _ h => h) (Or.inl ⟨by rfl, ?_⟩) (by assumption) ?_
          rotate_left
          · (intro w hSw; (try dsimp only at hSw); first | (go_simp; done) | (go_simp; with_reducible rfl))
          simp only [Act.put, List.getElem_toArray, List.getElem_cons_zero, List.getElem_cons_succ, List.setIfInBounds_toArray, List.set_cons_zero, List.set_cons_succ]
          refine wpAnyH_done (by kernel_rfl) ?_ _
          clear hHeld
          obtain ⟨A9, c9, hv9, -⟩ := O9.out.open_
          subst hv9
          have FIN := Lib.hid (show StepP t S F w (.returned (.tuple #[.slice A9 ([] ++ S ++ [(o.r, o.v)]).length c9, .bool true])) w9 from
            StepP.own (B := 0) U5.out HT6.out HO6.out.1 HO6.out.2 (up B7.out B9.out B7.out.size) (by
              have := O9.out.mono (show w6.heap.size ≤ w7.heap.size from B7.out.size)
              simpa using this) (by simp) (fun q => by
              rw [List.nodup_append]
              exact ⟨q, by simp, fun a ha b hb => by
                rw [List.mem_singleton] at hb
                subst hb
                exact fun e => HM.out (e ▸ ha)⟩))
          generalize ([] ++ S ++ [(o.r, o.v)]).length = n9 at *
          clear O9 HT6 HO6
          go_wp2_with fail
          exact bodyPost_ret (v := .tuple #[.slice A9 n9 c9, .bool true]) (by simp [results, Try.results10, go_sem]) rfl FIN.out
    · have q1 : (o.k == 1) = false := by rw [beq_eq_false_iff_ne]; exact k1
      have q2 : decide (o.k = 1) = false := decide_eq_false k1
      by_cases k2 : o.k = 2
      · have q3 : (o.k == 2) = true := by rw [beq_iff_eq]; exact k2
        have q4 : decide (o.k = 2) = true := decide_eq_true k2
        have DE := Lib.hid (TR5.out.delete t S F o.r o.v w5 (by have := HS.out; omega))
        clear k1 k2
        go_wp2_with fail
        refine DE.out.mono ?_
        rintro e6 w6 hde
        rcases hde with ⟨hm, rfl, hb6⟩ | ⟨hm, rfl, F', S', ht6, hp6, ho6, hF6⟩
        · have B6 := Lib.hid (up U5.out hb6 U5.out.size)
          have hz1 : z = -1 := by
            rcases HZ.out with ⟨q, -⟩ | ⟨i, -, q1, q2⟩
            · exact q
            · exfalso
              rw [List.getD_eq_getElem?_getD, List.getElem?_eq_getElem q1, Option.getD_some] at q2
              exact hm (q2 ▸ List.getElem_mem q1)
          subst hz1
          clear hb6 hm DE c0 c1 c2 c3 c4 c5 c6 q1 q2 q3 q4
          go_wp2_with fail
          exact bodyPost_ret (v := .tuple #[.slice A S.length c, .bool true]) (by simp [results, Try.results10, go_sem]) rfl (StepP.same HT.out LX.out AP.out B6.out)
        · obtain ⟨i, hzi, hi, hd⟩ : ∃ i : Nat, z = i ∧ i < S.length ∧ S.getD i dth = (o.r, o.v) := by
            rcases HZ.out with ⟨-, q⟩ | q
            · exact absurd hm q
            · exact q
          subst hzi
          have d0 : decide ((i : Int) < 0) = false := decide_eq_false (by omega)
          have L6 := Lib.hid (L5.out.keep (fun b hb ⟨off, e⟩ => ho6.block b hb (AP.out b off e)))
          have WO := Lib.hid (without_any A c S i w6 L6.out (by have := HS.out; omega) hi)
          have FIN := Lib.hid (fun (w7 : World) (v : Value) (ho : rk.Own E5 w7 w6.heap.size 48 v (S.eraseIdx i)) (hb7 : Below w6.heap.size w6 w7) => (show ∃ A n c, v = .slice A n c ∧ StepP t S F w (.returned (.tuple #[.slice A n c, .bool true])) w7 from by
            have hp : S'.Perm (S.eraseIdx i) := (hp6.symm.trans (erase_perm hi hd)).cons_inv
            obtain ⟨A', c', hv, -⟩ := ho.open_
            subst hv
            exact ⟨_, _, _, rfl, StepP.own (B := 0) U5.out (ht6.perm hp) ho6 hF6 hb7 ho (by have := List.length_eraseIdx_le S i; omega) (fun q => q.sublist (List.eraseIdx_sublist ..))⟩))
          clear ht6 hp6 ho6 hF6 hm hi hd DE c0 c1 c2 c3 c4 c5 c6 q1 q2 q3 q4
          go_wp2_with fail
          refine WO.out.mono ?_
          rintro e7 w7 ⟨⟨v7, rfl, ho7⟩, hb7⟩
          obtain ⟨A7, n7, c7, rfl, hst⟩ := FIN.out w7 v7 ho7 hb7
          have HST := Lib.hid hst
          clear ho7 hb7 WO hst
          go_wp2_with fail
          exact bodyPost_ret (v := .tuple #[.slice A7 n7 c7, .bool true]) (by simp [results, Try.results10, go_sem]) rfl (HST.out)
      · have q3 : (o.k == 2) = false := by rw [beq_eq_false_iff_ne]; exact k2
        have q4 : decide (o.k = 2) = false := decide_eq_false k2
        by_cases k3 : o.k = 3
        · have q5 : (o.k == 3) = true := by rw [beq_iff_eq]; exact k3
          have q6 : decide (o.k = 3) = true := decide_eq_true k3
          by_cases a0 : 0 ≤ o.a ∧ o.a < (S.length : Int)
          · obtain ⟨i, hia⟩ : ∃ i : Nat, o.a = (i : Int) := ⟨o.a.toNat, by omega⟩
            have hi : i < S.length := by omega
            obtain ⟨b0, o0, hA0, e0, e1, e2, e3, e4⟩ := row5 L5.out hi
            have RW5 := Lib.hid (fun (W : World) (hW : Lay E5 W A S) => (show W.cell? ⟨b0, o0 + i * 5, none⟩ = some (.int .i64 (S.getD i dth).1.x) ∧ W.cell? ⟨b0, o0 + i * 5 + 1, none⟩ = some (.int .i64 (S.getD i dth).1.y) ∧ W.cell? ⟨b0, o0 + i * 5 + 2, none⟩ = some (.int .i64 (S.getD i dth).1.w) ∧ W.cell? ⟨b0, o0 + i * 5 + 3, none⟩ = some (.int .i64 (S.getD i dth).1.h) ∧ W.cell? ⟨b0, o0 + i * 5 + 4, none⟩ = some (.int .i64 (S.getD i dth).2) from by
              obtain ⟨b1, o1, hA1, f0, f1, f2, f3, f4⟩ := row5 hW hi
              rw [hA0] at hA1
              injection hA1 with hA1
              injection hA1 with p1 p2
              subst p1 p2
              exact ⟨f0, f1, f2, f3, f4⟩))
            obtain ⟨d, hd⟩ : ∃ d, S.getD i dth = d := ⟨_, rfl⟩
            rw [hd] at RW5
            have HD := Lib.hid hd
            have HI := Lib.hid (And.intro hi hia)
            have HA0 := Lib.hid hA0
            have d1 : decide (o.a ≥ 0) = true := decide_eq_true (by omega)
            have d2 : decide (o.a < (S.length : Int)) = true := decide_eq_true (by omega)
            have SS := Lib.hid (fun (W : World) (h1 : Blk W ob 30 #[.int .i64 o.k, .int .i64 o.v, .int .i64 o.a, .int .i64 o.r.x, .int .i64 o.r.y, .int .i64 o.r.w, .int .i64 o.r.h]) (h2 : Lay E5 W A S) => And.intro (show W.cell? ⟨ob, 2, none⟩ = some (.int .i64 (i : Int)) from by rw [← hia]; exact h1.cell 2) (RW5.out W h2))
            have WO := Lib.hid (without_any A c S i (w5.drewN 1) (L5.out.below (base.below_drewN (Below.refl _ w5) 1)) (by have := HS.out; omega) hi)
            have d3 : decide ((i : Int) ≥ 0) = true := decide_eq_true (by omega)
            have d4 : decide ((i : Int) < (S.length : Int)) = true := decide_eq_true (by omega)
            clear k1 k2 k3 a0 e0 e1 e2 e3 e4 hd
            go_wp2_with fail
            clear c0 c1 c2 c3 c4 c5 c6 d1 d2 d3 d4 hi
            have i0 : (0 : Int) ≤ (i : Int) := Int.natCast_nonneg _
            have ilt : i < S.length := HI.out.1
            subst hA0
            refine wp_region_held_drew (S := (fun ws => ws.cell? ⟨ob, 2, none⟩ = some (.int .i64 (i : Int)) ∧ ws.cell? ⟨b0, o0 + i * 5, none⟩ = some (.int .i64 d.1.x) ∧ ws.cell? ⟨b0, o0 + i * 5 + 1, none⟩ = some (.int .i64 d.1.y) ∧ ws.cell? ⟨b0, o0 + i * 5 + 2, none⟩ = some (.int .i64 d.1.w) ∧ ws.cell? ⟨b0, o0 + i * 5 + 3, none⟩ = some (.int .i64 d.1.h) ∧ ws.cell? ⟨b0, o0 + i * 5 + 4, none⟩ = some (.int .i64 d.2))) (by kernel_rfl) (SS.out w5 O5.out L5.out) (fun hHeld => ?_)
            clear hia
            refine wpAnyH_take (i := 0) (v := ?_) rfl (by kernel_rfl) (by kernel_rfl) (by kernel_rfl) (fun _ _ _ h => h) (Or.inl ⟨by rfl, ?_⟩) (by assumption) ?_
            rotate_left
            · (intro w hSw; (try dsimp only at hSw); first | (go_simp; done) | (go_simp; with_reducible rfl))
            simp only [Act.put, List.getElem_toArray, List.getElem_cons_zero, List.getElem_cons_succ, List.setIfInBounds_toArray, List.set_cons_zero, List.set_cons_succ]
            refine wpAnyH_take (i := 1) (v := ?_) rfl (by kernel_rfl) (by kernel_rfl) (by kernel_rfl) (fun _ _ _ h => h) (Or.inl ⟨by rfl, ?_⟩) (by assumption) ?_
            rotate_left
            · (intro w hSw; (try dsimp only at hSw); first | (go_simp; done) | (go_simp; with_reducible rfl))
            simp only [Act.put, List.getElem_toArray, List.getElem_cons_zero, List.getElem_cons_succ, List.setIfInBounds_toArray, List.set_cons_zero, List.set_cons_succ]
            refine wpAnyH_take (i := 2) (v := ?_) rfl (by kernel_rfl) (by kernel_rfl) (by kernel_rfl) (fun _ _ _ h => h) (Or.inl ⟨by rfl, ?_⟩) (by assumption) ?_
            rotate_left
            · (intro w hSw; (try dsimp only at hSw); first | (go_simp; done) | (go_simp; with_reducible rfl))
            simp only [Act.put, List.getElem_toArray, List.getElem_cons_zero, List.getElem_cons_succ, List.setIfInBounds_toArray, List.set_cons_zero, List.set_cons_succ]
            refine wpAnyH_take (i := 4) (v := ?_) rfl (by kernel_rfl) (by kernel_rfl) (by kernel_rfl) (fun _ _ _ h => h) (Or.inl ⟨by rfl, ?_⟩) (by assumption) ?_
            rotate_left
            · (intro w hSw; (try dsimp only at hSw); first | (go_simp; done) | (go_simp; with_reducible rfl))
            simp only [Act.put, List.getElem_toArray, List.getElem_cons_zero, List.getElem_cons_succ, List.setIfInBounds_toArray, List.set_cons_zero, List.set_cons_succ]
            refine wpAnyH_take (i := 5) (v := ?_) rfl (by kernel_rfl) (by kernel_rfl) (by kernel_rfl) (fun _ _ _ h => h) (Or.inl ⟨by rfl, ?_⟩) (by assumption) ?_
            rotate_left
            · (intro w hSw; (try dsimp only at hSw); first | (go_simp; done) | (go_simp; with_reducible rfl))
            simp only [Act.put, List.getElem_toArray, List.getElem_cons_zero, List.getElem_cons_succ, List.setIfInBounds_toArray, List.set_cons_zero, List.set_cons_succ]
            refine wpAnyH_take (i := 6) (v := ?_) rfl (by kernel_rfl) (by kernel_rfl) (by kernel_rfl) (fun _ _ _ h => h) (Or.inl ⟨by rfl, ?_⟩) (by assumption) ?_
            rotate_left
            · (intro w hSw; (try dsimp only at hSw); first | (go_simp; done) | (go_simp; with_reducible rfl))
            simp only [Act.put, List.getElem_toArray, List.getElem_cons_zero, List.getElem_cons_succ, List.setIfInBounds_toArray, List.set_cons_zero, List.set_cons_succ]
            refine wpAnyH_take (i := 7) (v := ?_) rfl (by kernel_rfl) (by kernel_rfl) (by kernel_rfl) (fun _ _ _ h => h) (Or.inl ⟨by rfl, ?_⟩) (by assumption) ?_
            rotate_left
            · (intro w hSw; (try dsimp only at hSw); first | (go_simp; done) | (go_simp; with_reducible rfl))
            simp only [Act.put, List.getElem_toArray, List.getElem_cons_zero, List.getElem_cons_succ, List.setIfInBounds_toArray, List.set_cons_zero, List.set_cons_succ]
            refine wpAnyH_take (i := 8) (v := ?_) rfl (by kernel_rfl) (by kernel_rfl) (by kernel_rfl) (fun _ _ _ h => h) (Or.inl ⟨by rfl, ?_⟩) (by assumption) ?_
            rotate_left
            · (intro w hSw; (try dsimp only at hSw); first | (go_simp; done) | (go_simp; with_reducible rfl))
            simp only [Act.put, List.getElem_toArray, List.getElem_cons_zero, List.getElem_cons_succ, List.setIfInBounds_toArray, List.set_cons_zero, List.set_cons_succ]
            refine wpAnyH_take (i := 9) (v := ?_) rfl (by kernel_rfl) (by kernel_rfl) (by kernel_rfl) (fun _ _ _ h => h) (Or.inl ⟨by rfl, ?_⟩) (by assumption) ?_
            rotate_left
            · (intro w hSw; (try dsimp only at hSw); first | (go_simp; done) | (go_simp; with_reducible rfl))
            simp only [Act.put, List.getElem_toArray, List.getElem_cons_zero, List.getElem_cons_succ, List.setIfInBounds_toArray, List.set_cons_zero, List.set_cons_succ]
            refine wpAnyH_take (i := 10) (v := ?_) rfl (by kernel_rfl) (by kernel_rfl) (by kernel_rfl) (fun _ _ _ h => h) (Or.inl ⟨by rfl, ?_⟩) (by assumption) ?_
            rotate_left
            · (intro w hSw; (try dsimp only at hSw); first | (go_simp; done) | (go_simp; with_reducible rfl))
            simp only [Act.put, List.getElem_toArray, List.getElem_cons_zero, List.getElem_cons_succ, List.setIfInBounds_toArray, List.set_cons_zero, List.set_cons_succ]
            refine wpAnyH_take (i := 12) (v := ?_) rfl (by kernel_rfl) (by kernel_rfl) (by kernel_rfl) (fun _ _ _ h => h) (Or.inl ⟨by rfl, ?_⟩) (by assumption) ?_
            rotate_left
            · (intro w hSw; (try dsimp only at hSw); first | (go_simp; done) | (go_simp; with_reducible rfl))
            simp only [Act.put, List.getElem_toArray, List.getElem_cons_zero, List.getElem_cons_succ, List.setIfInBounds_toArray, List.set_cons_zero, List.set_cons_succ]
            refine wpAnyH_take (i := 13) (v := ?_) rfl (by kernel_rfl) (by kernel_rfl) (by kernel_rfl) (fun _ _ _ h => h) (Or.inl ⟨by rfl, ?_⟩) (by assumption) ?_
            rotate_left
            · (intro w hSw; (try dsimp only at hSw); first | (go_simp; done) | (go_simp; with_reducible rfl))
            simp only [Act.put, List.getElem_toArray, List.getElem_cons_zero, List.getElem_cons_succ, List.setIfInBounds_toArray, List.set_cons_zero, List.set_cons_succ]
            refine wpAnyH_take (i := 14) (v := ?_) rfl (by kernel_rfl) (by kernel_rfl) (by kernel_rfl) (fun _ _ _ h => h) (Or.inl ⟨by rfl, ?_⟩) (by assumption) ?_
            rotate_left
            · (intro w hSw; (try dsimp only at hSw); first | (go_simp; done) | (go_simp; with_reducible rfl))
            simp only [Act.put, List.getElem_toArray, List.getElem_cons_zero, List.getElem_cons_succ, List.setIfInBounds_toArray, List.set_cons_zero, List.set_cons_succ]
            refine wpAnyH_take (i := 15) (v := ?_) rfl (by kernel_rfl) (by kernel_rfl) (by kernel_rfl) (fun _ _ _ h => h) (Or.inl ⟨by rfl, ?_⟩) (by assumption) ?_
            rotate_left
            · (intro w hSw; (try dsimp only at hSw); first | (go_simp; done) | (go_simp; with_reducible rfl))
            simp only [Act.put, List.getElem_toArray, List.getElem_cons_zero, List.getElem_cons_succ, List.setIfInBounds_toArray, List.set_cons_zero, List.set_cons_succ]
            refine wpAnyH_take (i := 16) (v := ?_) rfl (by kernel_rfl) (by kernel_rfl) (by kernel_rfl) (fun _ _ _ h => h) (Or.inl ⟨by rfl, ?_⟩) (by assumption) ?_
            rotate_left
            · (intro w hSw; (try dsimp only at hSw); first | (go_simp; done) | (go_simp; with_reducible rfl))
            simp only [Act.put, List.getElem_toArray, List.getElem_cons_zero, List.getElem_cons_succ, List.setIfInBounds_toArray, List.set_cons_zero, List.set_cons_succ]
            refine wpAnyH_take (i := 17) (v := ?_) rfl (by kernel_rfl) (by kernel_rfl) (by kernel_rfl) (fun _ _ _ h => h) (Or.inl ⟨by rfl, ?_⟩) (by assumption) ?_
            rotate_left
            · (intro w hSw; (try dsimp only at hSw); first | (go_simp; done) | (go_simp; with_reducible rfl))
            simp only [Act.put, List.getElem_toArray, List.getElem_cons_zero, List.getElem_cons_succ, List.setIfInBounds_toArray, List.set_cons_zero, List.set_cons_succ]
            refine wpAnyH_ready (rs := [3]) (by kernel_rfl) (by simp) ?_
            refine AllReadyH.cons rfl (fun K hK => ?_) AllReadyH.nil
            go_simp
            refine WO.out.mono ?_
            rintro e6 w6 ⟨⟨v6, rfl, ho6⟩, hb6⟩
            have B6 := Lib.hid (show Below w5.heap.size w5 w6 from (base.below_drewN (Below.refl w5.heap.size w5) 1).trans hb6)
            have OW6 := Lib.hid (show rk.Own E5 w6 w5.heap.size 48 v6 (S.eraseIdx i) from ho6)
            refine hK.out _ _ (SS.out w6 (O5.out.below B6.out O5.out.lt) (L5.out.below B6.out)) (fun hHeld2 => ?_)
            clear hK K hHeld ho6 hb6 WO
            refine wpAnyH_ready (rs := [11]) (by kernel_rfl) (by simp) ?_
            refine AllReadyH.cons rfl (fun K hK => ?_) AllReadyH.nil
            go_simp
            refine (back_any d.1 _).mono ?_
            rintro e7 w7 ⟨rfl, hb7⟩
            have B7 := Lib.hid (up B6.out hb7 B6.out.size)
            have OW7 := Lib.hid (OW6.out.below hb7)
            refine hK.out _ _ (SS.out w7 (O5.out.below B7.out O5.out.lt) (L5.out.below B7.out)) (fun hHeld => ?_)
            clear hK K hHeld2 hb7
            refine wpAnyH_ready (rs := [18]) (by kernel_rfl) (by simp) ?_
            refine AllReadyH.cons rfl (fun K hK => ?_) AllReadyH.nil
            go_simp
            refine ((TR5.out.below B7.out).delete t S F d.1 d.2 w7 (by have := HS.out; omega)).mono ?_
            rintro e8 w8 hde
            rcases hde with ⟨hm, -, -⟩ | ⟨hm, rfl, F', S', ht8, hp8, ho8, hF8⟩
            · exfalso
              have h1 := List.getElem_mem HI.out.1
              have h2 := HD.out
              rw [List.getD_eq_getElem?_getD, List.getElem?_eq_getElem HI.out.1, Option.getD_some] at h2
              exact hm (by
                show (d.1, d.2) ∈ S
                rw [← h2]
                exact h1)
            · have obF : ¬ F ob := fun q => by
                have := FL.out ob q
                have := HOB.out
                omega
              refine hK.out _ _ (SS.out w8 ((O5.out.below B7.out O5.out.lt).only ho8 obF) ((L5.out.below B7.out).keep (fun b hb ⟨off, e⟩ => ho8.block b hb (AP.out b off e)))) (fun hHeld2 => ?_)
              clear hK K hHeld
              refine wpAnyH_take (i := 19) (v := ?_) rfl (by kernel_rfl) (by kernel_rfl) (by kernel_rfl) (fun _ _ _ h => h) (Or.inl ⟨by rfl, ?_⟩) (by assumption) ?_
              rotate_left
              · (intro w hSw; (try dsimp only at hSw); first | (go_simp; done) | (go_simp; with_reducible rfl))
              simp only [Act.put, List.getElem_toArray, List.getElem_cons_zero, List.getElem_cons_succ, List.setIfInBounds_toArray, List.set_cons_zero, List.set_cons_succ]
              refine wpAnyH_take (i := 20) (v := ?_) rfl (by kernel_rfl) (by kernel_rfl) (by kernel_rfl) (fun _ _ _ h => h) (Or.inl ⟨by rfl, ?_⟩) (by assumption) ?_
              rotate_left
              · (intro w hSw; (try dsimp only at hSw); first | (go_simp; done) | (go_simp; with_reducible rfl))
              simp only [Act.put, List.getElem_toArray, List.getElem_cons_zero, List.getElem_cons_succ, List.setIfInBounds_toArray, List.set_cons_zero, List.set_cons_succ]
              refine wpAnyH_take (i := 21) (v := ?_) rfl (by kernel_rfl) (by kernel_rfl) (by kernel_rfl) (fun _ _ _ h => h) (Or.inl ⟨by rfl, ?_⟩) (by assumption) ?_
              rotate_left
              · (intro w hSw; (try dsimp only at hSw); first | (go_simp; done) | (go_simp; with_reducible rfl))
              simp only [Act.put, List.getElem_toArray, List.getElem_cons_zero, List.getElem_cons_succ, List.setIfInBounds_toArray, List.set_cons_zero, List.set_cons_succ]
              refine wpAnyH_done (by kernel_rfl) ?_ _
              clear hHeld2
              obtain ⟨A9, c9, hv9, -⟩ := OW7.out.open_
              subst hv9
              have FIN := Lib.hid (show StepP t S F w (.returned (.tuple #[.slice A9 (S.eraseIdx i).length c9, .bool true])) w8 from
                StepP.own2 U5.out B7.out OW7.out (ht8.perm ((hp8.symm.trans (erase_perm HI.out.1 HD.out)).cons_inv)) ho8 hF8 (fun k hk => by have h1 := FL.out k hk; have h2 := HOB.out; omega) (by have := List.length_eraseIdx_le S i; omega) (fun q => q.sublist (List.eraseIdx_sublist ..)))
              generalize (S.eraseIdx i).length = n9 at *
              clear ht8 hp8 ho8 hF8 hm OW7 OW6
              go_wp2_with fail
              exact bodyPost_ret (v := .tuple #[.slice A9 n9 c9, .bool true]) (by simp [results, Try.results10, go_sem]) rfl FIN.out
          · have FB := Lib.hid U5.out
            clear k1 k2 k3
            by_cases a1 : 0 ≤ o.a
            · have d1 : decide (o.a ≥ 0) = true := decide_eq_true a1
              have d2 : decide (o.a < (S.length : Int)) = false := decide_eq_false (by omega)
              clear a0 a1
              go_wp2_with fail
              exact bodyPost_ret (v := .tuple #[.slice A S.length c, .bool true]) (by simp [results, Try.results10, go_sem]) rfl (StepP.same HT.out LX.out AP.out FB.out)
            · have d1 : decide (o.a ≥ 0) = false := decide_eq_false (by omega)
              clear a0 a1
              go_wp2_with fail
              exact bodyPost_ret (v := .tuple #[.slice A S.length c, .bool true]) (by simp [results, Try.results10, go_sem]) rfl (StepP.same HT.out LX.out AP.out FB.out)
        · have q5 : (o.k == 3) = false := by rw [beq_eq_false_iff_ne]; exact k3
          have q6 : decide (o.k = 3) = false := decide_eq_false k3
          clear k1 k2 k3
          go_wp2_with fail
          exact bodyPost_ret (v := .tuple #[.slice A S.length c, .bool true]) (by simp [results, Try.results10, go_sem]) rfl (StepP.same HT.out LX.out AP.out U5.out)
  · go_simp
    obtain ⟨wa, hwa⟩ : ∃ wa, (w1.alloc (.cells #[.int .i64 0, .int .i64 0, .int .i64 0, .int .i64 0, .int .i64 0] 48)).drew = wa := ⟨_, rfl⟩
    have N2 := Lib.hid (show Blk wa w1.heap.size 48 #[.int .i64 0, .int .i64 0, .int .i64 0, .int .i64 0, .int .i64 0] from by rw [← hwa]; exact (Blk.new w1 _ _))
    have B2 := Lib.hid (show Below w1.heap.size w1 wa from by rw [← hwa]; exact (made w1 _).drew)
    rw [hwa]
    refine hK.out _ _ (SS.out _ B2.out) (fun hHeld2 => ?_)
    clear hK K hHeld hwa
    refine wpAnyH_ready (rs := [2]) (by kernel_rfl) (by simp) ?_
    refine AllReadyH.cons rfl (fun K hK => ?_) AllReadyH.nil
    go_simp
    refine (LR.out _).mono ?_
    rintro e w3 ⟨rfl, hb2⟩
    have B3 := Lib.hid (up B2.out hb2 B2.out.size)
    have N3 := Lib.hid (N2.out.below hb2 N2.out.lt)
    have GE := Lib.hid (Nat.le_refl w1.heap.size)
    refine hK.out _ _ (SS.out _ B3.out) (fun hHeld => ?_)
    clear hK K hHeld2 hb2 N2
    obtain ⟨ib, hib⟩ : ∃ ib, w1.heap.size = ib := ⟨_, rfl⟩
    rw [hib] at N3 
    simp only [hib]
    have GE := Lib.hid (show w1.heap.size ≤ ib from by omega)
    clear hib
    refine wpAnyH_take (i := 5) (v := ?_) rfl (by kernel_rfl) (by kernel_rfl) (by kernel_rfl) (fun _ _ _ h => h) (Or.inl ⟨by rfl, ?_⟩) (by assumption) ?_
    rotate_left
    · (intro w hSw; (try dsimp only at hSw); first | (go_simp; done) | (go_simp; with_reducible rfl))
    simp only [Act.put, List.getElem_toArray, List.getElem_cons_zero, List.getElem_cons_succ, List.setIfInBounds_toArray, List.set_cons_zero, List.set_cons_succ]
    have hHeld2 := hHeld
    clear hHeld
    have i0 := N3.out.cell 0
    have i1 := N3.out.cell 1
    have i2 := N3.out.cell 2
    have i3 := N3.out.cell 3
    have i4 := N3.out.cell 4
    have f0 := N3.out.free 0
    have f1 := N3.out.free 1
    have f2 := N3.out.free 2
    have f3 := N3.out.free 3
    have f4 := N3.out.free 4
    refine wpAnyH_ready (rs := [7]) (by kernel_rfl) (by simp) ?_
    refine AllReadyH.cons rfl (fun K hK => ?_) AllReadyH.nil
    go_simp
    have N4 := Lib.hid (blk_put5 N3.out (.int .i64 o.r.x) (.int .i64 o.r.y) (.int .i64 o.r.w) (.int .i64 o.r.h) (.int .i64 o.v))
    have B4 := Lib.hid (below5 B3.out GE.out (.int .i64 o.r.x) (.int .i64 o.r.y) (.int .i64 o.r.w) (.int .i64 o.r.h) (.int .i64 o.v))
    refine hK.out _ _ (SS.out _ B4.out) (fun hHeld => ?_)
    clear hK K hHeld2 i0 i1 i2 i3 i4 f0 f1 f2 f3 f4 N3 B3
    refine wpAnyH_done (by kernel_rfl) ?_ _
    clear hHeld
    generalize (((((w3.setCell ⟨ib, 0, none⟩ (.int .i64 o.r.x)).setCell ⟨ib, 1, none⟩ (.int .i64 o.r.y)).setCell ⟨ib, 2, none⟩ (.int .i64 o.r.w)).setCell ⟨ib, 3, none⟩ (.int .i64 o.r.h)).setCell ⟨ib, 4, none⟩ (.int .i64 o.v)) = w4 at *
    have UN := Lib.hid (show Below w.heap.size w w1 from by rw [HOB.out]; exact M1.out)
    have U4 := Lib.hid (up UN.out B4.out UN.out.size)
    have L4 := Lib.hid (LX.out.below U4.out)
    have FD := Lib.hid (find_any A c S (o.r, o.v) w4 L4.out (by have := HS.out; omega))
    dsimp only at FD
    have n0 := N4.out.cell 0
    have n1 := N4.out.cell 1
    have n2 := N4.out.cell 2
    have n3 := N4.out.cell 3
    have n4 := N4.out.cell 4
    go_wp2_with fail
    refine FD.out.mono ?_
    rintro e5 w5 ⟨⟨z, rfl, hz⟩, hb5⟩
    have B5 := Lib.hid (up B4.out hb5 B4.out.size)
    have U5 := Lib.hid (up UN.out B5.out UN.out.size)
    have HZ := Lib.hid hz
    have N5 := Lib.hid (N4.out.below hb5 N4.out.lt)
    have O5 := Lib.hid (OB.out.below B5.out OB.out.lt)
    have TR5 := Lib.hid (HT.out.below U5.out)
    have L5 := Lib.hid (LX.out.below U5.out)
    clear hb5 FD n0 n1 n2 n3 n4 hz N4 L4 LR SS
    have c0 := O5.out.cell 0
    have c1 := O5.out.cell 1
    have c2 := O5.out.cell 2
    have c3 := O5.out.cell 3
    have c4 := O5.out.cell 4
    have c5 := O5.out.cell 5
    have c6 := O5.out.cell 6
    by_cases k1 : o.k = 1
    · have q1 : (o.k == 1) = true := by rw [beq_iff_eq]; exact k1
      have q2 : decide (o.k = 1) = true := decide_eq_true k1
      have IN := Lib.hid (insert_any t S F o.r o.v w5 TR5.out (by have := HS.out; omega))
      have RR := Lib.hid (fun W => rright_any o.r.x o.r.y o.r.w o.r.h OK.out.1 W)
      clear k1
      go_wp2_with fail
      refine IN.out.mono ?_
      rintro e6 w6 hin
      rcases hin with ⟨hr, rfl, hb6⟩ | ⟨hr, hm, rfl, hb6⟩ | ⟨hr, hm, rfl, F', ht6, ho6, hF6⟩
      · have B6 := Lib.hid (up U5.out hb6 U5.out.size)
        have N6 := Lib.hid (N5.out.below hb6 N5.out.lt)
        have HRR := Lib.hid (show rightB o.r.x o.r.y o.r.w o.r.h = false from hr)
        clear hb6 hr IN c0 c1 c2 c3 c4 c5 c6 q1 q2
        have n0 := N6.out.cell 0
        have n1 := N6.out.cell 1
        have n2 := N6.out.cell 2
        have n3 := N6.out.cell 3
        go_wp2_with fail
        refine (RR.out _).mono ?_
        rintro e7 w7 ⟨rfl, hb7⟩
        have B7 := Lib.hid (up B6.out hb7 B6.out.size)
        rw [HRR.out]
        clear hb7 n0 n1 n2 n3
        go_wp2_with fail
        exact bodyPost_ret (v := .tuple #[.slice A S.length c, .bool true]) (by simp [results, Try.results10, go_sem]) rfl (StepP.same HT.out LX.out AP.out B7.out)
      · have B6 := Lib.hid (up U5.out hb6 U5.out.size)
        have N6 := Lib.hid (N5.out.below hb6 N5.out.lt)
        have HRR := Lib.hid (show rightB o.r.x o.r.y o.r.w o.r.h = true from hr)
        obtain ⟨i, hzi, -, -⟩ : ∃ i : Nat, z = i ∧ i < S.length ∧ S.getD i dth = (o.r, o.v) := by
          rcases HZ.out with ⟨-, q⟩ | q
          · exact absurd hm q
          · exact q
        subst hzi
        have d0 : decide ((i : Int) ≥ 0) = true := decide_eq_true (by omega)
        have d0b : decide (0 ≤ (i : Int)) = true := decide_eq_true (by omega)
        clear hb6 hr hm IN c0 c1 c2 c3 c4 c5 c6 q1 q2
        have n0 := N6.out.cell 0
        have n1 := N6.out.cell 1
        have n2 := N6.out.cell 2
        have n3 := N6.out.cell 3
        go_wp2_with fail
        refine (RR.out _).mono ?_
        rintro e7 w7 ⟨rfl, hb7⟩
        have B7 := Lib.hid (up B6.out hb7 B6.out.size)
        rw [HRR.out]
        clear hb7 n0 n1 n2 n3
        go_wp2_with fail
        exact bodyPost_ret (v := .tuple #[.slice A S.length c, .bool true]) (by simp [results, Try.results10, go_sem]) rfl (StepP.same HT.out LX.out AP.out B7.out)
      · have obF : ¬ F ob := fun q => by
          have := FL.out ob q
          have := HOB.out
          omega
        have ibF : ¬ F ib := fun q => by
          have h1 := FL.out ib q
          have h2 := HOB.out
          have h3 := GE.out
          have h4 := UN.out.size
          omega
        have N6 := Lib.hid (N5.out.only ho6 ibF)
        have L6 := Lib.hid (L5.out.keep (fun b hb ⟨off, e⟩ => ho6.block b hb (AP.out b off e)))
        have HRR := Lib.hid (show rightB o.r.x o.r.y o.r.w o.r.h = true from hr)
        have HT6 := Lib.hid ht6
        have HO6 := Lib.hid (And.intro ho6 hF6)
        have HM := Lib.hid hm
        have hz1 : z = -1 := by
          rcases HZ.out with ⟨q, -⟩ | ⟨i, -, q1, q2⟩
          · exact q
          · exfalso
            rw [List.getD_eq_getElem?_getD, List.getElem?_eq_getElem q1, Option.getD_some] at q2
            exact hm (q2 ▸ List.getElem_mem q1)
        subst hz1
        clear ht6 ho6 hF6 hr hm obF ibF IN c0 c1 c2 c3 c4 c5 c6 q1 q2
        have n0 := N6.out.cell 0
        have n1 := N6.out.cell 1
        have n2 := N6.out.cell 2
        have n3 := N6.out.cell 3
        go_wp2_with fail
        refine (RR.out _).mono ?_
        rintro e7 w7 ⟨rfl, hb7⟩
        have B7 := Lib.hid hb7
        have N7 := Lib.hid (N6.out.below hb7 N6.out.lt)
        have L7 := Lib.hid (L6.out.below hb7)
        rw [HRR.out]
        clear hb7 n0 n1 n2 n3
        go_wp2_with fail
        refine wp_region_held_drew (S := (fun ws => ws.cell? ⟨ib, 0, none⟩ = some (.int .i64 o.r.x) ∧ ws.cell? ⟨ib, 1, none⟩ = some (.int .i64 o.r.y) ∧ ws.cell? ⟨ib, 2, none⟩ = some (.int .i64 o.r.w) ∧ ws.cell? ⟨ib, 3, none⟩ = some (.int .i64 o.r.h) ∧ ws.cell? ⟨ib, 4, none⟩ = some (.int .i64 o.v))) (by kernel_rfl) ⟨N7.out.cell 0, N7.out.cell 1, N7.out.cell 2, N7.out.cell 3, N7.out.cell 4⟩ (fun hHeld => ?_)
        refine wpAnyH_take (i := 1) (v := ?_) rfl (by kernel_rfl) (by kernel_rfl) (by kernel_rfl) (fun _ _ _ h => h) (Or.inl ⟨by rfl, ?_⟩) (by assumption) ?_
        rotate_left
        · (intro w hSw; (try dsimp only at hSw); first | (go_simp; done) | (go_simp; with_reducible rfl))
        simp only [Act.put, List.getElem_toArray, List.getElem_cons_zero, List.getElem_cons_succ, List.setIfInBounds_toArray, List.set_cons_zero, List.set_cons_succ]
        refine wpAnyH_take (i := 3) (v := ?_) rfl (by kernel_rfl) (by kernel_rfl) (by kernel_rfl) (fun _ _ _ h => h) (Or.inl ⟨by rfl, ?_⟩) (by assumption) ?_
        rotate_left
        · (intro w hSw; (try dsimp only at hSw); first | (go_simp; done) | (go_simp; with_reducible rfl))
        simp only [Act.put, List.getElem_toArray, List.getElem_cons_zero, List.getElem_cons_succ, List.setIfInBounds_toArray, List.set_cons_zero, List.set_cons_succ]
        refine wpAnyH_take (i := 6) (v := ?_) rfl (by kernel_rfl) (by kernel_rfl) (by kernel_rfl) (fun _ _ _ h => h) (Or.inl ⟨by rfl, ?_⟩) (by assumption) ?_
        rotate_left
        · (intro w hSw; (try dsimp only at hSw); first | (go_simp; done) | (go_simp; with_reducible rfl))
        simp only [Act.put, List.getElem_toArray, List.getElem_cons_zero, List.getElem_cons_succ, List.setIfInBounds_toArray, List.set_cons_zero, List.set_cons_succ]
        refine wpAnyH_take (i := 7) (v := ?_) rfl (by kernel_rfl) (by kernel_rfl) (by kernel_rfl) (fun _ _ _ h => h) (Or.inl ⟨by rfl, ?_⟩) (by assumption) ?_
        rotate_left
        · (intro w hSw; (try dsimp only at hSw); first | (go_simp; done) | (go_simp; with_reducible rfl))
        simp only [Act.put, List.getElem_toArray, List.getElem_cons_zero, List.getElem_cons_succ, List.setIfInBounds_toArray, List.set_cons_zero, List.set_cons_succ]
        refine wpAnyH_ready (rs := [0, 4]) (by kernel_rfl) (by simp) ?_
        refine AllReadyH.cons rfl (fun K hK => ?_) (AllReadyH.cons rfl (fun K hK => ?_) AllReadyH.nil)
        · go_simp
          obtain ⟨wv0, hwv0⟩ : ∃ wv0, (w7.alloc (.cells #[] 48)).drew = wv0 := ⟨_, rfl⟩
          have Mwv0 := Lib.hid (show Below w7.heap.size w7 wv0 from by rw [← hwv0]; exact (made w7 _).drew)
          have Bwv0 := Lib.hid (show Below w7.heap.size w7 wv0 from Mwv0.out)
          obtain ⟨b0, hb0⟩ : ∃ b0, w7.heap.size = b0 := ⟨_, rfl⟩
          have HB0 := Lib.hid hb0
          have O0 := Lib.hid (show rk.Own E5 wv0 w7.heap.size 48 (.slice (some ⟨b0, 0, none⟩) 0 0) [] from (by
            rw [← hb0]
            have : rk.Own E5 wv0 w7.heap.size 48 (.slice (some ⟨w7.heap.size, 0, none⟩) 0 0) [] := by rw [← hwv0]; exact own_empty5 w7
            exact this.mono (Nat.le_refl _)))
          clear hb0
          simp only [hwv0]
          have Swv0 := Lib.hid (N7.out.below Bwv0.out N7.out.lt)
          refine hK.out _ _ ⟨Swv0.out.cell 0, Swv0.out.cell 1, Swv0.out.cell 2, Swv0.out.cell 3, Swv0.out.cell 4⟩ (fun hHeld2 => ?_)
          clear hK K hHeld hwv0
          simp only [HB0.out]
          refine wpAnyH_ready (rs := [2, 4]) (by kernel_rfl) (by simp) ?_
          refine AllReadyH.cons rfl (fun K hK => ?_) (AllReadyH.cons rfl (fun K hK => ?_) AllReadyH.nil)
          · obtain ⟨v2, wv1, hr2, own2, gr2⟩ := rk.app_run T5 (c := c) O0.out (L7.out.below Bwv0.out) (fun _ => by cases A <;> simp) (by simp; have := HS.out; omega) Bwv0.out.size
            have Bwv1 := Lib.hid (Bwv0.out.trans (gr2.below O0.out Bwv0.out.size))
            have O2 := Lib.hid own2
            have Swv1 := Lib.hid (N7.out.below Bwv1.out N7.out.lt)
            refine op_app' (.tmp 45) (.tmp 46) rfl rfl rfl rfl hr2 ?_
            refine hK.out _ _ ⟨Swv1.out.cell 0, Swv1.out.cell 1, Swv1.out.cell 2, Swv1.out.cell 3, Swv1.out.cell 4⟩ (fun hHeld => ?_)
            clear hK K hHeld2 own2 gr2 hr2
            refine wpAnyH_ready (rs := [4]) (by kernel_rfl) (by simp) ?_
            refine AllReadyH.cons rfl (fun K hK => ?_) AllReadyH.nil
            go_simp
            obtain ⟨wv2, hwv2⟩ : ∃ wv2, (wv1.alloc (.cells #[.int .i64 o.r.x, .int .i64 o.r.y, .int .i64 o.r.w, .int .i64 o.r.h, .int .i64 o.v] 48)) = wv2 := ⟨_, rfl⟩
            have Mwv2 := Lib.hid (show Below wv1.heap.size wv1 wv2 from by rw [← hwv2]; exact (made wv1 _))
            have Bwv2 := Lib.hid (show Below w7.heap.size w7 wv2 from up Bwv1.out Mwv2.out Bwv1.out.size)
            have D4 := Lib.hid (show Blk wv2 wv1.heap.size 48 (E5.enc (o.r, o.v)).toArray from by rw [← hwv2]; exact (Blk.new wv1 _ _))
            obtain ⟨b4, hb4⟩ : ∃ b4, wv1.heap.size = b4 := ⟨_, rfl⟩
            have HB4 := Lib.hid hb4
            rw [hb4] at D4
            have L4 := Lib.hid (show b4 < wv2.heap.size from D4.out.lt)
            clear hb4
            have O2 := Lib.hid (O2.out.below Mwv2.out)
            simp only [hwv2]
            have Swv2 := Lib.hid (N7.out.below Bwv2.out N7.out.lt)
            refine hK.out _ _ ⟨Swv2.out.cell 0, Swv2.out.cell 1, Swv2.out.cell 2, Swv2.out.cell 3, Swv2.out.cell 4⟩ (fun hHeld2 => ?_)
            clear hK K hHeld hwv2
            simp only [HB4.out]
            refine wpAnyH_ready (rs := [5]) (by kernel_rfl) (by simp) ?_
            refine AllReadyH.cons rfl (fun K hK => ?_) AllReadyH.nil
            obtain ⟨v9, w9, hr9, own9, gr9⟩ := rk.app_run T5 (c := 1) O2.out (Lay.lit (E := E5) wv2 (o.r, o.v) _ _ D4.out) (fun e => by simp at e) (by simp; have := HS.out; omega) Bwv2.out.size
            have B9 := Lib.hid (Bwv2.out.trans (gr9.below O2.out Bwv2.out.size))
            have S9 := Lib.hid (N7.out.below B9.out N7.out.lt)
            have O9 := Lib.hid own9
            refine op_app' (.tmp 47) (.tmp 49) rfl rfl rfl rfl hr9 ?_
            refine hK.out _ _ ⟨S9.out.cell 0, S9.out.cell 1, S9.out.cell 2, S9.out.cell 3, S9.out.cell 4⟩ (fun hHeld => ?_)
            clear hK K hHeld2 own9 gr9 hr9
            refine wpAnyH_take (i := 8) (v := ?_) rfl (by kernel_rfl) (by kernel_rfl) (by kernel_rfl) (fun _ _ _ h => h) (Or.inl ⟨by rfl, ?_⟩) (by assumption) ?_
            rotate_left
            · (intro w hSw; (try dsimp only at hSw); first | (go_simp; done) | (go_simp; with_reducible rfl))
            simp only [Act.put, List.getElem_toArray, List.getElem_cons_zero, List.getElem_cons_succ, List.setIfInBounds_toArray, List.set_cons_zero, List.set_cons_succ]
            refine wpAnyH_take (i := 9) (v := ?_) rfl (by kernel_rfl) (by kernel_rfl) (by kernel_rfl) (fun _ _ _ h => h) (Or.inl ⟨by rfl, ?_⟩) (by assumption) ?_
            rotate_left
            · (intro w hSw; (try dsimp only at hSw); first | (go_simp; done) | (go_simp; with_reducible rfl))
            simp only [Act.put, List.getElem_toArray, List.getElem_cons_zero, List.getElem_cons_succ, List.setIfInBounds_toArray, List.set_cons_zero, List.set_cons_succ]
            refine wpAnyH_done (by kernel_rfl) ?_ _
            clear hHeld
            obtain ⟨A9, c9, hv9, -⟩ := O9.out.open_
            subst hv9
            have FIN := Lib.hid (show StepP t S F w (.returned (.tuple #[.slice A9 ([] ++ S ++ [(o.r, o.v)]).length c9, .bool true])) w9 from
              StepP.own (B := 0) U5.out HT6.out HO6.out.1 HO6.out.2 (up B7.out B9.out B7.out.size) (by
                have := O9.out.mono (show w6.heap.size ≤ w7.heap.size from B7.out.size)
                simpa using this) (by simp) (fun q => by
                rw [List.nodup_append]
                exact ⟨q, by simp, fun a ha b hb => by
                  rw [List.mem_singleton] at hb
                  subst hb
                  exact fun e => HM.out (e ▸ ha)⟩))
            generalize ([] ++ S ++ [(o.r, o.v)]).length = n9 at *
            clear O9 HT6 HO6
            go_wp2_with fail
            exact bodyPost_ret (v := .tuple #[.slice A9 n9 c9, .bool true]) (by simp [results, Try.results10, go_sem]) rfl FIN.out
          · go_simp
            obtain ⟨wv1, hwv1⟩ : ∃ wv1, (wv0.alloc (.cells #[.int .i64 o.r.x, .int .i64 o.r.y, .int .i64 o.r.w, .int .i64 o.r.h, .int .i64 o.v] 48)) = wv1 := ⟨_, rfl⟩
            have Mwv1 := Lib.hid (show Below wv0.heap.size wv0 wv1 from by rw [← hwv1]; exact (made wv0 _))
            have Bwv1 := Lib.hid (show Below w7.heap.size w7 wv1 from up Bwv0.out Mwv1.out Bwv0.out.size)
            have D4 := Lib.hid (show Blk wv1 wv0.heap.size 48 (E5.enc (o.r, o.v)).toArray from by rw [← hwv1]; exact (Blk.new wv0 _ _))
            obtain ⟨b4, hb4⟩ : ∃ b4, wv0.heap.size = b4 := ⟨_, rfl⟩
            have HB4 := Lib.hid hb4
            rw [hb4] at D4
            have L4 := Lib.hid (show b4 < wv1.heap.size from D4.out.lt)
            clear hb4
            have NE04 := Lib.hid (show b4 ≠ b0 from by have h1 := (O0.out.lt' b0 rfl).2.1; have h2 := HB4.out; omega)
            have O0 := Lib.hid (O0.out.below Mwv1.out)
            simp only [hwv1]
            have Swv1 := Lib.hid (N7.out.below Bwv1.out N7.out.lt)
            refine hK.out _ _ ⟨Swv1.out.cell 0, Swv1.out.cell 1, Swv1.out.cell 2, Swv1.out.cell 3, Swv1.out.cell 4⟩ (fun hHeld => ?_)
            clear hK K hHeld2 hwv1
            simp only [HB4.out]
            refine wpAnyH_ready (rs := [2]) (by kernel_rfl) (by simp) ?_
            refine AllReadyH.cons rfl (fun K hK => ?_) AllReadyH.nil
            obtain ⟨v2, wv2, hr2, own2, gr2⟩ := rk.app_run T5 (c := c) O0.out (L7.out.below Bwv1.out) (fun _ => by cases A <;> simp) (by simp; have := HS.out; omega) Bwv1.out.size
            have Bwv2 := Lib.hid (Bwv1.out.trans (gr2.below O0.out Bwv1.out.size))
            have O2 := Lib.hid own2
            have D4 := Lib.hid (show Blk wv2 b4 48 (E5.enc (o.r, o.v)).toArray from (gr2.grown.block b4 D4.out.lt (fun e => by
              have e2 : some b4 = some b0 := e
              injection e2 with e2
              exact NE04.out e2)).trans D4.out)
            have Swv2 := Lib.hid (N7.out.below Bwv2.out N7.out.lt)
            refine op_app' (.tmp 45) (.tmp 46) rfl rfl rfl rfl hr2 ?_
            refine hK.out _ _ ⟨Swv2.out.cell 0, Swv2.out.cell 1, Swv2.out.cell 2, Swv2.out.cell 3, Swv2.out.cell 4⟩ (fun hHeld2 => ?_)
            clear hK K hHeld own2 gr2 hr2
            refine wpAnyH_ready (rs := [5]) (by kernel_rfl) (by simp) ?_
            refine AllReadyH.cons rfl (fun K hK => ?_) AllReadyH.nil
            obtain ⟨v9, w9, hr9, own9, gr9⟩ := rk.app_run T5 (c := 1) O2.out (Lay.lit (E := E5) wv2 (o.r, o.v) _ _ D4.out) (fun e => by simp at e) (by simp; have := HS.out; omega) Bwv2.out.size
            have B9 := Lib.hid (Bwv2.out.trans (gr9.below O2.out Bwv2.out.size))
            have S9 := Lib.hid (N7.out.below B9.out N7.out.lt)
            have O9 := Lib.hid own9
            refine op_app' (.tmp 47) (.tmp 49) rfl rfl rfl rfl hr9 ?_
            refine hK.out _ _ ⟨S9.out.cell 0, S9.out.cell 1, S9.out.cell 2, S9.out.cell 3, S9.out.cell 4⟩ (fun hHeld => ?_)
            clear hK K hHeld2 own9 gr9 hr9
            refine wpAnyH_take (i := 8) (v := ?_) rfl (by kernel_rfl) (by kernel_rfl) (by kernel_rfl) (fun _ _ _ h => h) (Or.inl ⟨by rfl, ?_⟩) (by assumption) ?_
            rotate_left
            · (intro w hSw; (try dsimp only at hSw); first | (go_simp; done) | (go_simp; with_reducible rfl))
            simp only [Act.put, List.getElem_toArray, List.getElem_cons_zero, List.getElem_cons_succ, List.setIfInBounds_toArray, List.set_cons_zero, List.set_cons_succ]
            refine wpAnyH_take (i := 9) (v := ?_) rfl (by kernel_rfl) (by kernel_rfl) (by kernel_rfl) (fun _ _ _ h => h) (Or.inl ⟨by rfl, ?_⟩) (by assumption) ?_
            rotate_left
            · (intro w hSw; (try dsimp only at hSw); first | (go_simp; done) | (go_simp; with_reducible rfl))
            simp only [Act.put, List.getElem_toArray, List.getElem_cons_zero, List.getElem_cons_succ, List.setIfInBounds_toArray, List.set_cons_zero, List.set_cons_succ]
            refine wpAnyH_done (by kernel_rfl) ?_ _
            clear hHeld
            obtain ⟨A9, c9, hv9, -⟩ := O9.out.open_
            subst hv9
            have FIN := Lib.hid (show StepP t S F w (.returned (.tuple #[.slice A9 ([] ++ S ++ [(o.r, o.v)]).length c9, .bool true])) w9 from
              StepP.own (B := 0) U5.out HT6.out HO6.out.1 HO6.out.2 (up B7.out B9.out B7.out.size) (by
                have := O9.out.mono (show w6.heap.size ≤ w7.heap.size from B7.out.size)
                simpa using this) (by simp) (fun q => by
                rw [List.nodup_append]
                exact ⟨q, by simp, fun a ha b hb => by
                  rw [List.mem_singleton] at hb
                  subst hb
                  exact fun e => HM.out (e ▸ ha)⟩))
            generalize ([] ++ S ++ [(o.r, o.v)]).length = n9 at *
            clear O9 HT6 HO6
            go_wp2_with fail
            exact bodyPost_ret (v := .tuple #[.slice A9 n9 c9, .bool true]) (by simp [results, Try.results10, go_sem]) rfl FIN.out
        · go_simp
          obtain ⟨wv0, hwv0⟩ : ∃ wv0, (w7.alloc (.cells #[.int .i64 o.r.x, .int .i64 o.r.y, .int .i64 o.r.w, .int .i64 o.r.h, .int .i64 o.v] 48)).drew = wv0 := ⟨_, rfl⟩
          have Mwv0 := Lib.hid (show Below w7.heap.size w7 wv0 from by rw [← hwv0]; exact (made w7 _).drew)
          have Bwv0 := Lib.hid (show Below w7.heap.size w7 wv0 from Mwv0.out)
          have D4 := Lib.hid (show Blk wv0 w7.heap.size 48 (E5.enc (o.r, o.v)).toArray from by rw [← hwv0]; exact (Blk.new w7 _ _))
          obtain ⟨b4, hb4⟩ : ∃ b4, w7.heap.size = b4 := ⟨_, rfl⟩
          have HB4 := Lib.hid hb4
          rw [hb4] at D4
          have L4 := Lib.hid (show b4 < wv0.heap.size from D4.out.lt)
          clear hb4
          simp only [hwv0]
          have Swv0 := Lib.hid (N7.out.below Bwv0.out N7.out.lt)
          refine hK.out _ _ ⟨Swv0.out.cell 0, Swv0.out.cell 1, Swv0.out.cell 2, Swv0.out.cell 3, Swv0.out.cell 4⟩ (fun hHeld2 => ?_)
          clear hK K hHeld hwv0
          simp only [HB4.out]
          refine wpAnyH_ready (rs := [0]) (by kernel_rfl) (by simp) ?_
          refine AllReadyH.cons rfl (fun K hK => ?_) AllReadyH.nil
          go_simp
          obtain ⟨wv1, hwv1⟩ : ∃ wv1, (wv0.alloc (.cells #[] 48)) = wv1 := ⟨_, rfl⟩
          have Mwv1 := Lib.hid (show Below wv0.heap.size wv0 wv1 from by rw [← hwv1]; exact (made wv0 _))
          have Bwv1 := Lib.hid (show Below w7.heap.size w7 wv1 from up Bwv0.out Mwv1.out Bwv0.out.size)
          obtain ⟨b0, hb0⟩ : ∃ b0, wv0.heap.size = b0 := ⟨_, rfl⟩
          have HB0 := Lib.hid hb0
          have O0 := Lib.hid (show rk.Own E5 wv1 w7.heap.size 48 (.slice (some ⟨b0, 0, none⟩) 0 0) [] from (by
            rw [← hb0]
            have : rk.Own E5 wv1 wv0.heap.size 48 (.slice (some ⟨wv0.heap.size, 0, none⟩) 0 0) [] := by rw [← hwv1]; exact own_empty5 wv0
            exact this.mono (Bwv0.out.size)))
          clear hb0
          have D4 := Lib.hid (D4.out.below Mwv1.out D4.out.lt)
          have NE04 := Lib.hid (show b4 ≠ b0 from by have h1 := HB0.out; have h2 := L4.out; omega)
          simp only [hwv1]
          have Swv1 := Lib.hid (N7.out.below Bwv1.out N7.out.lt)
          refine hK.out _ _ ⟨Swv1.out.cell 0, Swv1.out.cell 1, Swv1.out.cell 2, Swv1.out.cell 3, Swv1.out.cell 4⟩ (fun hHeld => ?_)
          clear hK K hHeld2 hwv1
          simp only [HB0.out]
          refine wpAnyH_ready (rs := [2]) (by kernel_rfl) (by simp) ?_
          refine AllReadyH.cons rfl (fun K hK => ?_) AllReadyH.nil
          obtain ⟨v2, wv2, hr2, own2, gr2⟩ := rk.app_run T5 (c := c) O0.out (L7.out.below Bwv1.out) (fun _ => by cases A <;> simp) (by simp; have := HS.out; omega) Bwv1.out.size
          have Bwv2 := Lib.hid (Bwv1.out.trans (gr2.below O0.out Bwv1.out.size))
          have O2 := Lib.hid own2
          have D4 := Lib.hid (show Blk wv2 b4 48 (E5.enc (o.r, o.v)).toArray from (gr2.grown.block b4 D4.out.lt (fun e => by
            have e2 : some b4 = some b0 := e
            injection e2 with e2
            exact NE04.out e2)).trans D4.out)
          have Swv2 := Lib.hid (N7.out.below Bwv2.out N7.out.lt)
          refine op_app' (.tmp 45) (.tmp 46) rfl rfl rfl rfl hr2 ?_
          refine hK.out _ _ ⟨Swv2.out.cell 0, Swv2.out.cell 1, Swv2.out.cell 2, Swv2.out.cell 3, Swv2.out.cell 4⟩ (fun hHeld2 => ?_)
          clear hK K hHeld own2 gr2 hr2
          refine wpAnyH_ready (rs := [5]) (by kernel_rfl) (by simp) ?_
          refine AllReadyH.cons rfl (fun K hK => ?_) AllReadyH.nil
          obtain ⟨v9, w9, hr9, own9, gr9⟩ := rk.app_run T5 (c := 1) O2.out (Lay.lit (E := E5) wv2 (o.r, o.v) _ _ D4.out) (fun e => by simp at e) (by simp; have := HS.out; omega) Bwv2.out.size
          have B9 := Lib.hid (Bwv2.out.trans (gr9.below O2.out Bwv2.out.size))
          have S9 := Lib.hid (N7.out.below B9.out N7.out.lt)
          have O9 := Lib.hid own9
          refine op_app' (.tmp 47) (.tmp 49) rfl rfl rfl rfl hr9 ?_
          refine hK.out _ _ ⟨S9.out.cell 0, S9.out.cell 1, S9.out.cell 2, S9.out.cell 3, S9.out.cell 4⟩ (fun hHeld => ?_)
          clear hK K hHeld2 own9 gr9 hr9
          refine wpAnyH_take (i := 8) (v := ?_) rfl (by kernel_rfl) (by kernel_rfl) (by kernel_rfl) (fun _ _ _ h => h) (Or.inl ⟨by rfl, ?_⟩) (by assumption) ?_
          rotate_left
          · (intro w hSw; (try dsimp only at hSw); first | (go_simp; done) | (go_simp; with_reducible rfl))
          simp only [Act.put, List.getElem_toArray, List.getElem_cons_zero, List.getElem_cons_succ, List.setIfInBounds_toArray, List.set_cons_zero, List.set_cons_succ]
          refine wpAnyH_take (i := 9) (v := ?_) rfl (by kernel_rfl) (by kernel_rfl) (by kernel_rfl) (fun _ _ _ h => h) (Or.inl ⟨by rfl, ?_⟩) (by assumption) ?_
          rotate_left
          · (intro w hSw; (try dsimp only at hSw); first | (go_simp; done) | (go_simp; with_reducible rfl))
          simp only [Act.put, List.getElem_toArray, List.getElem_cons_zero, List.getElem_cons_succ, List.setIfInBounds_toArray, List.set_cons_zero, List.set_cons_succ]
          refine wpAnyH_done (by kernel_rfl) ?_ _
          clear hHeld
          obtain ⟨A9, c9, hv9, -⟩ := O9.out.open_
          subst hv9
          have FIN := Lib.hid (show StepP t S F w (.returned (.tuple #[.slice A9 ([] ++ S ++ [(o.r, o.v)]).length c9, .bool true])) w9 from
            StepP.own (B := 0) U5.out HT6.out HO6.out.1 HO6.out.2 (up B7.out B9.out B7.out.size) (by
              have := O9.out.mono (show w6.heap.size ≤ w7.heap.size from B7.out.size)
              simpa using this) (by simp) (fun q => by
              rw [List.nodup_append]
              exact ⟨q, by simp, fun a ha b hb => by
                rw [List.mem_singleton] at hb
                subst hb
                exact fun e => HM.out (e ▸ ha)⟩))
          generalize ([] ++ S ++ [(o.r, o.v)]).length = n9 at *
          clear O9 HT6 HO6
          go_wp2_with fail
          exact bodyPost_ret (v := .tuple #[.slice A9 n9 c9, .bool true]) (by simp [results, Try.results10, go_sem]) rfl FIN.out
    · have q1 : (o.k == 1) = false := by rw [beq_eq_false_iff_ne]; exact k1
      have q2 : decide (o.k = 1) = false := decide_eq_false k1
      by_cases k2 : o.k = 2
      · have q3 : (o.k == 2) = true := by rw [beq_iff_eq]; exact k2
        have q4 : decide (o.k = 2) = true := decide_eq_true k2
        have DE := Lib.hid (TR5.out.delete t S F o.r o.v w5 (by have := HS.out; omega))
        clear k1 k2
        go_wp2_with fail
        refine DE.out.mono ?_
        rintro e6 w6 hde
        rcases hde with ⟨hm, rfl, hb6⟩ | ⟨hm, rfl, F', S', ht6, hp6, ho6, hF6⟩
        · have B6 := Lib.hid (up U5.out hb6 U5.out.size)
          have hz1 : z = -1 := by
            rcases HZ.out with ⟨q, -⟩ | ⟨i, -, q1, q2⟩
            · exact q
            · exfalso
              rw [List.getD_eq_getElem?_getD, List.getElem?_eq_getElem q1, Option.getD_some] at q2
              exact hm (q2 ▸ List.getElem_mem q1)
          subst hz1
          clear hb6 hm DE c0 c1 c2 c3 c4 c5 c6 q1 q2 q3 q4
          go_wp2_with fail
          exact bodyPost_ret (v := .tuple #[.slice A S.length c, .bool true]) (by simp [results, Try.results10, go_sem]) rfl (StepP.same HT.out LX.out AP.out B6.out)
        · obtain ⟨i, hzi, hi, hd⟩ : ∃ i : Nat, z = i ∧ i < S.length ∧ S.getD i dth = (o.r, o.v) := by
            rcases HZ.out with ⟨-, q⟩ | q
            · exact absurd hm q
            · exact q
          subst hzi
          have d0 : decide ((i : Int) < 0) = false := decide_eq_false (by omega)
          have L6 := Lib.hid (L5.out.keep (fun b hb ⟨off, e⟩ => ho6.block b hb (AP.out b off e)))
          have WO := Lib.hid (without_any A c S i w6 L6.out (by have := HS.out; omega) hi)
          have FIN := Lib.hid (fun (w7 : World) (v : Value) (ho : rk.Own E5 w7 w6.heap.size 48 v (S.eraseIdx i)) (hb7 : Below w6.heap.size w6 w7) => (show ∃ A n c, v = .slice A n c ∧ StepP t S F w (.returned (.tuple #[.slice A n c, .bool true])) w7 from by
            have hp : S'.Perm (S.eraseIdx i) := (hp6.symm.trans (erase_perm hi hd)).cons_inv
            obtain ⟨A', c', hv, -⟩ := ho.open_
            subst hv
            exact ⟨_, _, _, rfl, StepP.own (B := 0) U5.out (ht6.perm hp) ho6 hF6 hb7 ho (by have := List.length_eraseIdx_le S i; omega) (fun q => q.sublist (List.eraseIdx_sublist ..))⟩))
          clear ht6 hp6 ho6 hF6 hm hi hd DE c0 c1 c2 c3 c4 c5 c6 q1 q2 q3 q4
          go_wp2_with fail
          refine WO.out.mono ?_
          rintro e7 w7 ⟨⟨v7, rfl, ho7⟩, hb7⟩
          obtain ⟨A7, n7, c7, rfl, hst⟩ := FIN.out w7 v7 ho7 hb7
          have HST := Lib.hid hst
          clear ho7 hb7 WO hst
          go_wp2_with fail
          exact bodyPost_ret (v := .tuple #[.slice A7 n7 c7, .bool true]) (by simp [results, Try.results10, go_sem]) rfl (HST.out)
      · have q3 : (o.k == 2) = false := by rw [beq_eq_false_iff_ne]; exact k2
        have q4 : decide (o.k = 2) = false := decide_eq_false k2
        by_cases k3 : o.k = 3
        · have q5 : (o.k == 3) = true := by rw [beq_iff_eq]; exact k3
          have q6 : decide (o.k = 3) = true := decide_eq_true k3
          by_cases a0 : 0 ≤ o.a ∧ o.a < (S.length : Int)
          · obtain ⟨i, hia⟩ : ∃ i : Nat, o.a = (i : Int) := ⟨o.a.toNat, by omega⟩
            have hi : i < S.length := by omega
            obtain ⟨b0, o0, hA0, e0, e1, e2, e3, e4⟩ := row5 L5.out hi
            have RW5 := Lib.hid (fun (W : World) (hW : Lay E5 W A S) => (show W.cell? ⟨b0, o0 + i * 5, none⟩ = some (.int .i64 (S.getD i dth).1.x) ∧ W.cell? ⟨b0, o0 + i * 5 + 1, none⟩ = some (.int .i64 (S.getD i dth).1.y) ∧ W.cell? ⟨b0, o0 + i * 5 + 2, none⟩ = some (.int .i64 (S.getD i dth).1.w) ∧ W.cell? ⟨b0, o0 + i * 5 + 3, none⟩ = some (.int .i64 (S.getD i dth).1.h) ∧ W.cell? ⟨b0, o0 + i * 5 + 4, none⟩ = some (.int .i64 (S.getD i dth).2) from by
              obtain ⟨b1, o1, hA1, f0, f1, f2, f3, f4⟩ := row5 hW hi
              rw [hA0] at hA1
              injection hA1 with hA1
              injection hA1 with p1 p2
              subst p1 p2
              exact ⟨f0, f1, f2, f3, f4⟩))
            obtain ⟨d, hd⟩ : ∃ d, S.getD i dth = d := ⟨_, rfl⟩
            rw [hd] at RW5
            have HD := Lib.hid hd
            have HI := Lib.hid (And.intro hi hia)
            have HA0 := Lib.hid hA0
            have d1 : decide (o.a ≥ 0) = true := decide_eq_true (by omega)
            have d2 : decide (o.a < (S.length : Int)) = true := decide_eq_true (by omega)
            have SS := Lib.hid (fun (W : World) (h1 : Blk W ob 30 #[.int .i64 o.k, .int .i64 o.v, .int .i64 o.a, .int .i64 o.r.x, .int .i64 o.r.y, .int .i64 o.r.w, .int .i64 o.r.h]) (h2 : Lay E5 W A S) => And.intro (show W.cell? ⟨ob, 2, none⟩ = some (.int .i64 (i : Int)) from by rw [← hia]; exact h1.cell 2) (RW5.out W h2))
            have WO := Lib.hid (without_any A c S i (w5.drewN 1) (L5.out.below (base.below_drewN (Below.refl _ w5) 1)) (by have := HS.out; omega) hi)
            have d3 : decide ((i : Int) ≥ 0) = true := decide_eq_true (by omega)
            have d4 : decide ((i : Int) < (S.length : Int)) = true := decide_eq_true (by omega)
            clear k1 k2 k3 a0 e0 e1 e2 e3 e4 hd
            go_wp2_with fail
            clear c0 c1 c2 c3 c4 c5 c6 d1 d2 d3 d4 hi
            have i0 : (0 : Int) ≤ (i : Int) := Int.natCast_nonneg _
            have ilt : i < S.length := HI.out.1
            subst hA0
            refine wp_region_held_drew (S := (fun ws => ws.cell? ⟨ob, 2, none⟩ = some (.int .i64 (i : Int)) ∧ ws.cell? ⟨b0, o0 + i * 5, none⟩ = some (.int .i64 d.1.x) ∧ ws.cell? ⟨b0, o0 + i * 5 + 1, none⟩ = some (.int .i64 d.1.y) ∧ ws.cell? ⟨b0, o0 + i * 5 + 2, none⟩ = some (.int .i64 d.1.w) ∧ ws.cell? ⟨b0, o0 + i * 5 + 3, none⟩ = some (.int .i64 d.1.h) ∧ ws.cell? ⟨b0, o0 + i * 5 + 4, none⟩ = some (.int .i64 d.2))) (by kernel_rfl) (SS.out w5 O5.out L5.out) (fun hHeld => ?_)
            clear hia
            refine wpAnyH_take (i := 0) (v := ?_) rfl (by kernel_rfl) (by kernel_rfl) (by kernel_rfl) (fun _ _ _ h => h) (Or.inl ⟨by rfl, ?_⟩) (by assumption) ?_
            rotate_left
            · (intro w hSw; (try dsimp only at hSw); first | (go_simp; done) | (go_simp; with_reducible rfl))
            simp only [Act.put, List.getElem_toArray, List.getElem_cons_zero, List.getElem_cons_succ, List.setIfInBounds_toArray, List.set_cons_zero, List.set_cons_succ]
            refine wpAnyH_take (i := 1) (v := ?_) rfl (by kernel_rfl) (by kernel_rfl) (by kernel_rfl) (fun _ _ _ h => h) (Or.inl ⟨by rfl, ?_⟩) (by assumption) ?_
            rotate_left
            · (intro w hSw; (try dsimp only at hSw); first | (go_simp; done) | (go_simp; with_reducible rfl))
            simp only [Act.put, List.getElem_toArray, List.getElem_cons_zero, List.getElem_cons_succ, List.setIfInBounds_toArray, List.set_cons_zero, List.set_cons_succ]
            refine wpAnyH_take (i := 2) (v := ?_) rfl (by kernel_rfl) (by kernel_rfl) (by kernel_rfl) (fun _ _ _ h => h) (Or.inl ⟨by rfl, ?_⟩) (by assumption) ?_
            rotate_left
            · (intro w hSw; (try dsimp only at hSw); first | (go_simp; done) | (go_simp; with_reducible rfl))
            simp only [Act.put, List.getElem_toArray, List.getElem_cons_zero, List.getElem_cons_succ, List.setIfInBounds_toArray, List.set_cons_zero, List.set_cons_succ]
            refine wpAnyH_take (i := 4) (v := ?_) rfl (by kernel_rfl) (by kernel_rfl) (by kernel_rfl) (fun _ _ _ h => h) (Or.inl ⟨by rfl, ?_⟩) (by assumption) ?_
            rotate_left
            · (intro w hSw; (try dsimp only at hSw); first | (go_simp; done) | (go_simp; with_reducible rfl))
            simp only [Act.put, List.getElem_toArray, List.getElem_cons_zero, List.getElem_cons_succ, List.setIfInBounds_toArray, List.set_cons_zero, List.set_cons_succ]
            refine wpAnyH_take (i := 5) (v := ?_) rfl (by kernel_rfl) (by kernel_rfl) (by kernel_rfl) (fun _ _ _ h => h) (Or.inl ⟨by rfl, ?_⟩) (by assumption) ?_
            rotate_left
            · (intro w hSw; (try dsimp only at hSw); first | (go_simp; done) | (go_simp; with_reducible rfl))
            simp only [Act.put, List.getElem_toArray, List.getElem_cons_zero, List.getElem_cons_succ, List.setIfInBounds_toArray, List.set_cons_zero, List.set_cons_succ]
            refine wpAnyH_take (i := 6) (v := ?_) rfl (by kernel_rfl) (by kernel_rfl) (by kernel_rfl) (fun _ _ _ h => h) (Or.inl ⟨by rfl, ?_⟩) (by assumption) ?_
            rotate_left
            · (intro w hSw; (try dsimp only at hSw); first | (go_simp; done) | (go_simp; with_reducible rfl))
            simp only [Act.put, List.getElem_toArray, List.getElem_cons_zero, List.getElem_cons_succ, List.setIfInBounds_toArray, List.set_cons_zero, List.set_cons_succ]
            refine wpAnyH_take (i := 7) (v := ?_) rfl (by kernel_rfl) (by kernel_rfl) (by kernel_rfl) (fun _ _ _ h => h) (Or.inl ⟨by rfl, ?_⟩) (by assumption) ?_
            rotate_left
            · (intro w hSw; (try dsimp only at hSw); first | (go_simp; done) | (go_simp; with_reducible rfl))
            simp only [Act.put, List.getElem_toArray, List.getElem_cons_zero, List.getElem_cons_succ, List.setIfInBounds_toArray, List.set_cons_zero, List.set_cons_succ]
            refine wpAnyH_take (i := 8) (v := ?_) rfl (by kernel_rfl) (by kernel_rfl) (by kernel_rfl) (fun _ _ _ h => h) (Or.inl ⟨by rfl, ?_⟩) (by assumption) ?_
            rotate_left
            · (intro w hSw; (try dsimp only at hSw); first | (go_simp; done) | (go_simp; with_reducible rfl))
            simp only [Act.put, List.getElem_toArray, List.getElem_cons_zero, List.getElem_cons_succ, List.setIfInBounds_toArray, List.set_cons_zero, List.set_cons_succ]
            refine wpAnyH_take (i := 9) (v := ?_) rfl (by kernel_rfl) (by kernel_rfl) (by kernel_rfl) (fun _ _ _ h => h) (Or.inl ⟨by rfl, ?_⟩) (by assumption) ?_
            rotate_left
            · (intro w hSw; (try dsimp only at hSw); first | (go_simp; done) | (go_simp; with_reducible rfl))
            simp only [Act.put, List.getElem_toArray, List.getElem_cons_zero, List.getElem_cons_succ, List.setIfInBounds_toArray, List.set_cons_zero, List.set_cons_succ]
            refine wpAnyH_take (i := 10) (v := ?_) rfl (by kernel_rfl) (by kernel_rfl) (by kernel_rfl) (fun _ _ _ h => h) (Or.inl ⟨by rfl, ?_⟩) (by assumption) ?_
            rotate_left
            · (intro w hSw; (try dsimp only at hSw); first | (go_simp; done) | (go_simp; with_reducible rfl))
            simp only [Act.put, List.getElem_toArray, List.getElem_cons_zero, List.getElem_cons_succ, List.setIfInBounds_toArray, List.set_cons_zero, List.set_cons_succ]
            refine wpAnyH_take (i := 12) (v := ?_) rfl (by kernel_rfl) (by kernel_rfl) (by kernel_rfl) (fun _ _ _ h => h) (Or.inl ⟨by rfl, ?_⟩) (by assumption) ?_
            rotate_left
            · (intro w hSw; (try dsimp only at hSw); first | (go_simp; done) | (go_simp; with_reducible rfl))
            simp only [Act.put, List.getElem_toArray, List.getElem_cons_zero, List.getElem_cons_succ, List.setIfInBounds_toArray, List.set_cons_zero, List.set_cons_succ]
            refine wpAnyH_take (i := 13) (v := ?_) rfl (by kernel_rfl) (by kernel_rfl) (by kernel_rfl) (fun _ _ _ h => h) (Or.inl ⟨by rfl, ?_⟩) (by assumption) ?_
            rotate_left
            · (intro w hSw; (try dsimp only at hSw); first | (go_simp; done) | (go_simp; with_reducible rfl))
            simp only [Act.put, List.getElem_toArray, List.getElem_cons_zero, List.getElem_cons_succ, List.setIfInBounds_toArray, List.set_cons_zero, List.set_cons_succ]
            refine wpAnyH_take (i := 14) (v := ?_) rfl (by kernel_rfl) (by kernel_rfl) (by kernel_rfl) (fun _ _ _ h => h) (Or.inl ⟨by rfl, ?_⟩) (by assumption) ?_
            rotate_left
            · (intro w hSw; (try dsimp only at hSw); first | (go_simp; done) | (go_simp; with_reducible rfl))
            simp only [Act.put, List.getElem_toArray, List.getElem_cons_zero, List.getElem_cons_succ, List.setIfInBounds_toArray, List.set_cons_zero, List.set_cons_succ]
            refine wpAnyH_take (i := 15) (v := ?_) rfl (by kernel_rfl) (by kernel_rfl) (by kernel_rfl) (fun _ _ _ h => h) (Or.inl ⟨by rfl, ?_⟩) (by assumption) ?_
            rotate_left
            · (intro w hSw; (try dsimp only at hSw); first | (go_simp; done) | (go_simp; with_reducible rfl))
            simp only [Act.put, List.getElem_toArray, List.getElem_cons_zero, List.getElem_cons_succ, List.setIfInBounds_toArray, List.set_cons_zero, List.set_cons_succ]
            refine wpAnyH_take (i := 16) (v := ?_) rfl (by kernel_rfl) (by kernel_rfl) (by kernel_rfl) (fun _ _ _ h => h) (Or.inl ⟨by rfl, ?_⟩) (by assumption) ?_
            rotate_left
            · (intro w hSw; (try dsimp only at hSw); first | (go_simp; done) | (go_simp; with_reducible rfl))
            simp only [Act.put, List.getElem_toArray, List.getElem_cons_zero, List.getElem_cons_succ, List.setIfInBounds_toArray, List.set_cons_zero, List.set_cons_succ]
            refine wpAnyH_take (i := 17) (v := ?_) rfl (by kernel_rfl) (by kernel_rfl) (by kernel_rfl) (fun _ _ _ h => h) (Or.inl ⟨by rfl, ?_⟩) (by assumption) ?_
            rotate_left
            · (intro w hSw; (try dsimp only at hSw); first | (go_simp; done) | (go_simp; with_reducible rfl))
            simp only [Act.put, List.getElem_toArray, List.getElem_cons_zero, List.getElem_cons_succ, List.setIfInBounds_toArray, List.set_cons_zero, List.set_cons_succ]
            refine wpAnyH_ready (rs := [3]) (by kernel_rfl) (by simp) ?_
            refine AllReadyH.cons rfl (fun K hK => ?_) AllReadyH.nil
            go_simp
            refine WO.out.mono ?_
            rintro e6 w6 ⟨⟨v6, rfl, ho6⟩, hb6⟩
            have B6 := Lib.hid (show Below w5.heap.size w5 w6 from (base.below_drewN (Below.refl w5.heap.size w5) 1).trans hb6)
            have OW6 := Lib.hid (show rk.Own E5 w6 w5.heap.size 48 v6 (S.eraseIdx i) from ho6)
            refine hK.out _ _ (SS.out w6 (O5.out.below B6.out O5.out.lt) (L5.out.below B6.out)) (fun hHeld2 => ?_)
            clear hK K hHeld ho6 hb6 WO
            refine wpAnyH_ready (rs := [11]) (by kernel_rfl) (by simp) ?_
            refine AllReadyH.cons rfl (fun K hK => ?_) AllReadyH.nil
            go_simp
            refine (back_any d.1 _).mono ?_
            rintro e7 w7 ⟨rfl, hb7⟩
            have B7 := Lib.hid (up B6.out hb7 B6.out.size)
            have OW7 := Lib.hid (OW6.out.below hb7)
            refine hK.out _ _ (SS.out w7 (O5.out.below B7.out O5.out.lt) (L5.out.below B7.out)) (fun hHeld => ?_)
            clear hK K hHeld2 hb7
            refine wpAnyH_ready (rs := [18]) (by kernel_rfl) (by simp) ?_
            refine AllReadyH.cons rfl (fun K hK => ?_) AllReadyH.nil
            go_simp
            refine ((TR5.out.below B7.out).delete t S F d.1 d.2 w7 (by have := HS.out; omega)).mono ?_
            rintro e8 w8 hde
            rcases hde with ⟨hm, -, -⟩ | ⟨hm, rfl, F', S', ht8, hp8, ho8, hF8⟩
            · exfalso
              have h1 := List.getElem_mem HI.out.1
              have h2 := HD.out
              rw [List.getD_eq_getElem?_getD, List.getElem?_eq_getElem HI.out.1, Option.getD_some] at h2
              exact hm (by
                show (d.1, d.2) ∈ S
                rw [← h2]
                exact h1)
            · have obF : ¬ F ob := fun q => by
                have := FL.out ob q
                have := HOB.out
                omega
              refine hK.out _ _ (SS.out w8 ((O5.out.below B7.out O5.out.lt).only ho8 obF) ((L5.out.below B7.out).keep (fun b hb ⟨off, e⟩ => ho8.block b hb (AP.out b off e)))) (fun hHeld2 => ?_)
              clear hK K hHeld
              refine wpAnyH_take (i := 19) (v := ?_) rfl (by kernel_rfl) (by kernel_rfl) (by kernel_rfl) (fun _ _ _ h => h) (Or.inl ⟨by rfl, ?_⟩) (by assumption) ?_
              rotate_left
              · (intro w hSw; (try dsimp only at hSw); first | (go_simp; done) | (go_simp; with_reducible rfl))
              simp only [Act.put, List.getElem_toArray, List.getElem_cons_zero, List.getElem_cons_succ, List.setIfInBounds_toArray, List.set_cons_zero, List.set_cons_succ]
              refine wpAnyH_take (i := 20) (v := ?_) rfl (by kernel_rfl) (by kernel_rfl) (by kernel_rfl) (fun _ _ _ h => h) (Or.inl ⟨by rfl, ?_⟩) (by assumption) ?_
              rotate_left
              · (intro w hSw; (try dsimp only at hSw); first | (go_simp; done) | (go_simp; with_reducible rfl))
              simp only [Act.put, List.getElem_toArray, List.getElem_cons_zero, List.getElem_cons_succ, List.setIfInBounds_toArray, List.set_cons_zero, List.set_cons_succ]
              refine wpAnyH_take (i := 21) (v := ?_) rfl (by kernel_rfl) (by kernel_rfl) (by kernel_rfl) (fun _ _ _ h => h) (Or.inl ⟨by rfl, ?_⟩) (by assumption) ?_
              rotate_left
              · (intro w hSw; (try dsimp only at hSw); first | (go_simp; done) | (go_simp; with_reducible rfl))
              simp only [Act.put, List.getElem_toArray, List.getElem_cons_zero, List.getElem_cons_succ, List.setIfInBounds_toArray, List.set_cons_zero, List.set_cons_succ]
              refine wpAnyH_done (by kernel_rfl) ?_ _
              clear hHeld2
              obtain ⟨A9, c9, hv9, -⟩ := OW7.out.open_
              subst hv9
              have FIN := Lib.hid (show StepP t S F w (.returned (.tuple #[.slice A9 (S.eraseIdx i).length c9, .bool true])) w8 from
                StepP.own2 U5.out B7.out OW7.out (ht8.perm ((hp8.symm.trans (erase_perm HI.out.1 HD.out)).cons_inv)) ho8 hF8 (fun k hk => by have h1 := FL.out k hk; have h2 := HOB.out; omega) (by have := List.length_eraseIdx_le S i; omega) (fun q => q.sublist (List.eraseIdx_sublist ..)))
              generalize (S.eraseIdx i).length = n9 at *
              clear ht8 hp8 ho8 hF8 hm OW7 OW6
              go_wp2_with fail
              exact bodyPost_ret (v := .tuple #[.slice A9 n9 c9, .bool true]) (by simp [results, Try.results10, go_sem]) rfl FIN.out
          · have FB := Lib.hid U5.out
            clear k1 k2 k3
            by_cases a1 : 0 ≤ o.a
            · have d1 : decide (o.a ≥ 0) = true := decide_eq_true a1
              have d2 : decide (o.a < (S.length : Int)) = false := decide_eq_false (by omega)
              clear a0 a1
              go_wp2_with fail
              exact bodyPost_ret (v := .tuple #[.slice A S.length c, .bool true]) (by simp [results, Try.results10, go_sem]) rfl (StepP.same HT.out LX.out AP.out FB.out)
            · have d1 : decide (o.a ≥ 0) = false := decide_eq_false (by omega)
              clear a0 a1
              go_wp2_with fail
              exact bodyPost_ret (v := .tuple #[.slice A S.length c, .bool true]) (by simp [results, Try.results10, go_sem]) rfl (StepP.same HT.out LX.out AP.out FB.out)
        · have q5 : (o.k == 3) = false := by rw [beq_eq_false_iff_ne]; exact k3
          have q6 : decide (o.k = 3) = false := decide_eq_false k3
          clear k1 k2 k3
          go_wp2_with fail
          exact bodyPost_ret (v := .tuple #[.slice A S.length c, .bool true]) (by simp [results, Try.results10, go_sem]) rfl (StepP.same HT.out LX.out AP.out U5.out)
end Go.Proofs.Ytndhdpjgnepfnaa.tr
