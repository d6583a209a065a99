/-
  Both tell the same.
-/
import Derived.Test.YtmnkkdalobdabaaDeedM
import Derived.Deep.RegionHeld
namespace Go.Proofs.Ytmnkkdalobdabaa.dd
open Go.RowKit Go.Shelf
open base (ret_bool ret_int made up Blk Only Nums)
open rk
set_option linter.unusedVariables false
set_option linter.unusedSimpArgs false
attribute [local go_sem] Oper.semAt_some
attribute [local irreducible] wpStill
/-- A post without a panic. -/
def calm (Q : Exit → Act → World → Prop) : Exit → Act → World → Prop
  | .panic _, _, _ => False
  | e, a, w => Q e a w
theorem calm_ret (Q : Exit → Act → World → Prop) (a : Act) (w : World) : calm Q .ret a w = Q .ret a w := rfl
theorem calm_normal (Q : Exit → Act → World → Prop) (a : Act) (w : World) : calm Q .normal a w = Q .normal a w := rfl
theorem calm_wp {P : Program} {c : Code} {Q : Exit → Act → World → Prop} {a : Act} {w : World} (h : c.wp P (calm Q) a w) : c.wp P Q a w :=
  Code.wp_mono (fun e a w q => by cases e <;> first | exact q | exact False.elim q) h
attribute [local go_sem] calm_ret calm_normal
theorem own_blk {w w' : World} {row : Option Nat} {g : Nat} {t : TypeId} {cs : Array Value} (h : Blk w g t cs) (hg : w.grownBy w' row) (hr : ∀ r, row = some r → ∃ o : Obj, w.heap[r]? = some o ∧ o.isCells = false) : Blk w' g t cs :=
  h.grown hg (fun e => by
    obtain ⟨o, ho, hc⟩ := hr g e.symm
    unfold Blk at h
    rw [h] at ho
    cases ho
    cases hc)
set_option maxRecDepth 100000 in
set_option maxHeartbeats 8000000 in
theorem same_any (A : Option Addr) (c : Nat) (L : List D) (nx : Int) (B g : Nat) (w : World) (hd : DAt w B g L nx) (hA : Lay E3 w A L) (hl : L.length ≤ 100000) :
    Calls Try.prog 12 #[.pointer (some ⟨g, 0, none⟩), .agg #[.slice A L.length c, .int .i64 nx]] w fun e w' => e = .returned (.bool true) ∧ Below w.heap.size w w' := by
  have hm1 : Below w.heap.size w (w.alloc (.cells #[.slice A L.length c, .int .i64 nx] 28)) := made w _
  have hm2 : Below w.heap.size w ((w.alloc (.cells #[.slice A L.length c, .int .i64 nx] 28)).alloc (.cells #[.bool false] 4)) := hm1.alloc (by rw [asz]; omega) _
  have hm3 : Below w.heap.size w (((w.alloc (.cells #[.slice A L.length c, .int .i64 nx] 28)).alloc (.cells #[.bool false] 4)).alloc (.cells #[.int .i64 0] 3)) := hm2.alloc (by rw [asz, asz]; omega) _
  have bx : Blk (((w.alloc (.cells #[.slice A L.length c, .int .i64 nx] 28)).alloc (.cells #[.bool false] 4)).alloc (.cells #[.int .i64 0] 3)) w.heap.size 28 #[.slice A L.length c, .int .i64 nx] := ((Blk.new _ _ _).alloc _).alloc _
  have br : Blk (((w.alloc (.cells #[.slice A L.length c, .int .i64 nx] 28)).alloc (.cells #[.bool false] 4)).alloc (.cells #[.int .i64 0] 3)) (w.heap.size + 1) 4 #[.bool false] := by
    have := (Blk.new (w.alloc (.cells #[.slice A L.length c, .int .i64 nx] 28)) 4 #[.bool false]).alloc (.cells #[.int .i64 0] 3)
    rw [asz] at this
    exact this
  have bi : Blk (((w.alloc (.cells #[.slice A L.length c, .int .i64 nx] 28)).alloc (.cells #[.bool false] 4)).alloc (.cells #[.int .i64 0] 3)) (w.heap.size + 1 + 1) 3 #[.int .i64 0] := by
    have := Blk.new ((w.alloc (.cells #[.slice A L.length c, .int .i64 nx] 28)).alloc (.cells #[.bool false] 4)) 3 #[.int .i64 0]
    rw [asz, asz] at this
    exact this
  have hs : (((w.alloc (.cells #[.slice A L.length c, .int .i64 nx] 28)).alloc (.cells #[.bool false] 4)).alloc (.cells #[.int .i64 0] 3)).heap.size = w.heap.size + 3 := by rw [asz, asz, asz]
  have BX := Lib.hid bx
  have BR := Lib.hid br
  have BI := Lib.hid bi
  have M := Lib.hid hm3
  have ZW := Lib.hid hs
  have HD := Lib.hid hd
  have HA := Lib.hid hA
  have MK := Lib.hid (fun ws => all_make g ws)
  clear hd hA hm1 hm2 hm3 bx br bi hs
  refine (callsIn_wide (n := 3)).1 ?_
  refine callsIn_of_wp_marks Try.func12 rfl trivial ?_ rfl
  simp only [Try.ntmps12, List.size_toArray, List.length_cons, List.length_nil, Nat.reduceAdd, Nat.reduceSub, Array.replicate_succ, Array.replicate_zero, List.push_toArray, List.append_toArray, List.nil_append, List.cons_append]
  refine wpIn_wide.2 (calm_wp ?_)
  go_wp2_with fail
  generalize (((w.alloc (.cells #[.slice A L.length c, .int .i64 nx] 28)).alloc (.cells #[.bool false] 4)).alloc (.cells #[.int .i64 0] 3)) = w2 at *
  refine (MK.out _).mono ?_
  rintro e w3 ⟨rfl, hbl, hb3⟩
  have BL := Lib.hid hbl
  have G3 := Lib.hid (show Below w.heap.size w w3 from up M.out hb3 M.out.size)
  have X3 := Lib.hid (BX.out.below hb3 BX.out.lt)
  have R3 := Lib.hid (BR.out.below hb3 BR.out.lt)
  have I3 := Lib.hid (BI.out.below hb3 BI.out.lt)
  have Z3 := Lib.hid (show w.heap.size + 3 ≤ w3.heap.size by have := hb3.size; have := ZW.out; omega)
  clear hbl hb3
  go_wp2_with fail
  have KX := Lib.hid (fun ws (h : Below (w.heap.size + 2) w3 ws) => (show ws.cell? ⟨w.heap.size, 0, none⟩ = some (.slice A L.length c) ∧ ws.cell? ⟨w.heap.size, 1, none⟩ = some (.int .i64 nx) from ⟨(X3.out.below h (by omega)).cell 0, (X3.out.below h (by omega)).cell 1⟩))
  have KR := Lib.hid (fun ws (h : Below (w.heap.size + 2) w3 ws) => R3.out.below h (by omega))
  have KB := Lib.hid (fun ws (h : Below (w.heap.size + 2) w3 ws) => G3.out.trans (h.mono (by omega)))
  refine (wpIn_wide (n := 3)).1 ?_
  refine wpIn_rangeFunc_ownH rfl (by omega) (gf := 37) (lb := #[.pointer (some ⟨w2.heap.size, 0, none⟩)]) rfl trivial (enters_of Try.func37 (by kernel_rfl) rfl)
    (d_stops (3 - 1) (by omega) L w2.heap.size B g nx w w3 HD.out G3.out BL.out hl) belowK_t (fun W l o o' h1 h2 h3 h4 => belowK_b (w := w3) (n₀ := w.heap.size) G3.out.size W l o o' h1 h2 h3 h4) (Below.refl _ _) (fun _ => rfl)
    (fun pre W => (pre = L.take pre.length ∧ Blk W (w.heap.size + 1 + 1) 3 #[.int .i64 (pre.length : Nat)]) ∧ Below (w.heap.size + 2) w3 W)
    (fun c pre W => c = .ret ∧ pre ≠ L.take pre.length)
    (OwnFrom.and (Own.from (fun s A B row hs hg hr => ⟨hs.1, own_blk hs.2 hg hr⟩) _) (ownFrom_below (by have := Z3.out; omega) (by have := Z3.out; omega)))
    (fun c s A B row hs hg hr => hs)
    ⟨⟨rfl, I3.out⟩, Below.refl _ _⟩
    (fun d a' W => ∃ q, a' = { tmps := #[.pointer (some ⟨g, 0, none⟩), .agg #[.slice A L.length c, .int .i64 nx], undef, .pointer (some ⟨w.heap.size, 0, none⟩), .pointer (some ⟨w.heap.size + 1, 0, none⟩), .pointer (some ⟨w.heap.size + 1 + 1, 0, none⟩), .pointer (some ⟨q, 0, none⟩), .pointer (some ⟨g, 0, none⟩), .func (.func 37) #[] #[.pointer (some ⟨w2.heap.size, 0, none⟩)], (.agg #[.int .i64 d.1, .int .i64 d.2.1, .int .i64 d.2.2]), undef, undef, undef, undef, undef, undef, undef, undef, undef, undef, undef, undef, undef, undef, undef, undef, undef, undef, undef, undef, undef, undef, undef, undef, undef, undef, undef, undef, undef, undef, undef, undef, undef, undef], defers := [] } ∧ Blk W q 40 #[.int .i64 d.1, .int .i64 d.2.1, .int .i64 d.2.2] ∧ w3.heap.size ≤ q)
    (fun x a' s A B row hs hg hr => by
      obtain ⟨q, h1, h2, h3⟩ := hs
      exact ⟨q, h1, own_blk h2 hg (fun r e => (hr r e).2), h3⟩)
    ?assign ?body ?done ?stop
  case assign =>
    rintro l pre ⟨p0, p1, p2⟩ W K ⟨⟨hp, hb⟩, hbw⟩ hK
    have HK := Lib.hid hK
    have KK := Lib.hid (HK.out _ (W.alloc (.cells #[.int .i64 p0, .int .i64 p1, .int .i64 p2] 40)) ((KeepsOthers.alloc W _).from _) ((Below.refl w.heap.size W).alloc (Nat.le_trans G3.out.size hbw.size) _) ⟨⟨hp, hb.alloc _⟩, hbw.alloc (by have := Z3.out; have := hbw.size; omega) _⟩ ⟨W.heap.size, rfl, Blk.new W 40 #[.int .i64 p0, .int .i64 p1, .int .i64 p2], hbw.size⟩)
    clear hp hb hbw hK HK
    simp only [encD, List.zip_toArray, List.zip_cons_cons, List.zip_nil_right, List.foldl_toArray, List.foldl_cons, List.foldl_nil, List.setIfInBounds_toArray, List.set_cons_succ, List.set_cons_zero]
    gi_wp2
    exact KK.out
  case body =>
    rintro l pre ⟨p0, p1, p2⟩ a' W hl0 hl1 ⟨⟨hp, hba⟩, hb⟩ ⟨q, rfl, hq, hqs⟩ hlt
    obtain ⟨k, hL⟩ : ∃ k, k = pre.length := ⟨_, rfl⟩
    rw [← hL] at hba hlt hp
    have HL := Lib.hid hL
    clear hL
    have HP := Lib.hid hp
    have HB := Lib.hid hb
    have HBA := Lib.hid hba
    obtain ⟨x0, x1⟩ := KX.out W hb
    have hrb := KR.out W hb
    have r0 := hrb.cell 0
    have r1 := hrb.free 0
    have i0 := hba.cell 0
    have i1 := hba.free 0
    dsimp only at hq
    have y0 := hq.cell 0
    have y1 := hq.cell 1
    have y2 := hq.cell 2
    have LA := Lib.hid (HA.out.below (KB.out W hb))
    obtain ⟨bb, off, hAx, e0, e1, e2⟩ := lay3 LA.out hlt
    rw [hAx] at x0
    have TK := Lib.hid (List.take_succ_eq_append_getElem hlt)
    have LP := Lib.hid (show (pre ++ [(p0, p1, p2)]).length = k + 1 by rw [List.length_append, ← HL.out]; rfl)
    have hkk : (k : Int) + 1 ≤ 100000 := by omega
    clear hp hb hba hrb hq hAx hqs
    generalize L[k] = d at *
    obtain ⟨d0, d1, d2⟩ := d
    dsimp only at e0 e1 e2 ⊢
    have NO := Lib.hid (show ¬ (p0 = d0 ∧ p1 = d1 ∧ p2 = d2) → pre ++ [(p0, p1, p2)] ≠ L.take (pre ++ [(p0, p1, p2)]).length from fun hne h => by
      rw [LP.out, TK.out, ← HP.out] at h
      have := List.append_cancel_left h
      simp at this
      exact hne this)
    have wk : IntKind.i64.wrap ((k : Int) + 1) = (k : Int) + 1 := IntWalk.i64_in _ (by omega)
    have hW' : ∃ W', W' = (W.setCell ⟨w.heap.size + 1 + 1, 0, none⟩ (.int .i64 ((k : Int) + 1))).drew := ⟨_, rfl⟩
    obtain ⟨W', hW'⟩ := hW'
    have FIN := Lib.hid (show p0 = d0 ∧ p1 = d1 ∧ p2 = d2 → KeepsFrom w3.heap.size W W' ∧ Below w.heap.size W W' ∧ (pre ++ [(p0, p1, p2)] = L.take (pre ++ [(p0, p1, p2)]).length ∧ Blk W' (w.heap.size + 1 + 1) 3 #[.int .i64 ((pre ++ [(p0, p1, p2)]).length : Nat)]) ∧ Below (w.heap.size + 2) w3 W' from fun ⟨h0, h1, h2⟩ => by
      rw [hW']
      refine ⟨((KeepsOthers.setCell _ _ _).trans (KeepsOthers.drew _)).from _, ((Below.refl _ W).setCell (p := ⟨w.heap.size + 1 + 1, 0, none⟩) (by show w.heap.size ≤ w.heap.size + 1 + 1; omega) _).drew, ⟨?_, ?_⟩, (HB.out.setCell (p := ⟨w.heap.size + 1 + 1, 0, none⟩) (Nat.le_refl _) _).drew⟩
      · rw [LP.out, TK.out, ← HP.out, h0, h1, h2]
      · rw [LP.out, show ((k + 1 : Nat) : Int) = (k : Int) + 1 by omega]
        exact (HBA.out.put 0 (.int .i64 ((k : Int) + 1))).drewN 1)
    have HW' := Lib.hid hW'
    clear hW'
    have hkl : ((L.length : Int) ≤ (k : Int)) = False := by simp; omega
    by_cases h0 : p0 = d0
    · subst h0
      by_cases h1 : p1 = d1
      · subst h1
        by_cases h2 : p2 = d2
        · subst h2
          have FF := Lib.hid (FIN.out ⟨rfl, rfl, rfl⟩)
          clear FIN NO
          gi_wp2
          refine still.region_in (still.round l) 13 (by kernel_rfl) (by kernel_rfl) ?_
          simp only [List.take_succ_cons, List.take_zero, List.drop_succ_cons, List.drop_zero]
          repeat still_step
          refine wpStill_nil ?_
          change wpListIn _ _ _ _ _ _ _ W.drew
          gi_wp2
          rw [← HW'.out]
          exact ⟨FF.out.1, FF.out.2.1, FF.out.2.2.1, FF.out.2.2.2⟩
        · have q2 : (p2 == d2) = false := by simpa using h2
          gi_wp2
          refine still.region_in (still.round l) 13 (by kernel_rfl) (by kernel_rfl) ?_
          simp only [List.take_succ_cons, List.take_zero, List.drop_succ_cons, List.drop_zero]
          repeat still_step
          refine wpStill_nil ?_
          change wpListIn _ _ _ _ _ _ _ W.drew
          gi_wp2
          exact ⟨by first | exact ((KeepsOthers.setCell _ _ _).trans (KeepsOthers.drew _)).from _ | exact ((KeepsOthers.drew _).trans (KeepsOthers.setCell _ _ _)).from _, rfl, NO.out (by omega)⟩
      · have q1 : (p1 == d1) = false := by simpa using h1
        gi_wp2
        refine still.region_in (still.round l) 13 (by kernel_rfl) (by kernel_rfl) ?_
        simp only [List.take_succ_cons, List.take_zero, List.drop_succ_cons, List.drop_zero]
        repeat still_step
        refine wpStill_nil ?_
        change wpListIn _ _ _ _ _ _ _ W.drew
        gi_wp2
        exact ⟨by first | exact ((KeepsOthers.setCell _ _ _).trans (KeepsOthers.drew _)).from _ | exact ((KeepsOthers.drew _).trans (KeepsOthers.setCell _ _ _)).from _, rfl, NO.out (by omega)⟩
    · have q0 : (p0 == d0) = false := by simpa using h0
      gi_wp2
      refine still.region_in (still.round l) 13 (by kernel_rfl) (by kernel_rfl) ?_
      simp only [List.take_succ_cons, List.take_zero, List.drop_succ_cons, List.drop_zero]
      repeat still_step
      refine wpStill_nil ?_
      change wpListIn _ _ _ _ _ _ _ W.drew
      gi_wp2
      exact ⟨by first | exact ((KeepsOthers.setCell _ _ _).trans (KeepsOthers.drew _)).from _ | exact ((KeepsOthers.drew _).trans (KeepsOthers.setCell _ _ _)).from _, rfl, NO.out (by omega)⟩
  case done =>
    rintro Dd xs W hDd rfl ⟨⟨-, hba⟩, hb⟩ hK
    have HBI := Lib.hid hba
    have HB := Lib.hid hb
    have KK := Lib.hid hK
    have HDD := Lib.hid hDd
    have G0 := Lib.hid (KB.out W hb)
    have KT := Lib.hid (fun ws (h : Below W.heap.size W ws) => (show ws.cell? ⟨w.heap.size + 1 + 1, 0, none⟩ = some (.int .i64 (xs.length : Nat)) ∧ ws.cell? ⟨w.heap.size, 0, none⟩ = some (.slice A xs.length c) ∧ ws.cell? ⟨w.heap.size, 1, none⟩ = some (.int .i64 nx) from
      ⟨(HBI.out.below h HBI.out.lt).cell 0, (KX.out ws (HB.out.trans (h.mono (by have := HB.out.size; have := Z3.out; omega)))).1, (KX.out ws (HB.out.trans (h.mono (by have := HB.out.size; have := Z3.out; omega)))).2⟩))
    have LN := Lib.hid (len_any B g xs nx W.drew (HD.out.below (G0.out.drew)))
    have NX := Lib.hid (next_any B g xs nx W.drew (HD.out.below (G0.out.drew)))
    have HRB := Lib.hid (KR.out W hb)
    clear hba hb hK hDd
    go_wp2
    refine wp_region_held_drew (S := (fun ws => ws.cell? ⟨w.heap.size + 1 + 1, 0, none⟩ = some (.int .i64 (xs.length : Nat)) ∧ ws.cell? ⟨w.heap.size, 0, none⟩ = some (.slice A xs.length c) ∧ ws.cell? ⟨w.heap.size, 1, none⟩ = some (.int .i64 nx))) (by kernel_rfl) (KT.out _ (Below.refl _ _).drew) (fun hHeld => ?_)
    refine wpAnyH_take (i := 0) (v := ?_) rfl (by kernel_rfl) (by kernel_rfl) (by kernel_rfl) (fun _ _ _ h => h) (Or.inl ⟨by rfl, ?_⟩) (by assumption) ?_
    rotate_left
    · (intro w hSw; (try dsimp only at hSw); first | (go_simp; done) | (go_simp; with_reducible rfl))
    simp only [Act.put, List.getElem_toArray, List.getElem_cons_zero, List.getElem_cons_succ, List.setIfInBounds_toArray, List.set_cons_zero, List.set_cons_succ]
    refine wpAnyH_take (i := 1) (v := ?_) rfl (by kernel_rfl) (by kernel_rfl) (by kernel_rfl) (fun _ _ _ h => h) (Or.inl ⟨by rfl, ?_⟩) (by assumption) ?_
    rotate_left
    · (intro w hSw; (try dsimp only at hSw); first | (go_simp; done) | (go_simp; with_reducible rfl))
    simp only [Act.put, List.getElem_toArray, List.getElem_cons_zero, List.getElem_cons_succ, List.setIfInBounds_toArray, List.set_cons_zero, List.set_cons_succ]
    refine wpAnyH_take (i := 2) (v := ?_) rfl (by kernel_rfl) (by kernel_rfl) (by kernel_rfl) (fun _ _ _ h => h) (Or.inl ⟨by rfl, ?_⟩) (by assumption) ?_
    rotate_left
    · (intro w hSw; (try dsimp only at hSw); first | (go_simp; done) | (go_simp; with_reducible rfl))
    simp only [Act.put, List.getElem_toArray, List.getElem_cons_zero, List.getElem_cons_succ, List.setIfInBounds_toArray, List.set_cons_zero, List.set_cons_succ]
    refine wpAnyH_take (i := 3) (v := ?_) rfl (by kernel_rfl) (by kernel_rfl) (by kernel_rfl) (fun _ _ _ h => h) (Or.inl ⟨by rfl, ?_⟩) (by assumption) ?_
    rotate_left
    · (intro w hSw; (try dsimp only at hSw); first | (go_simp; done) | (go_simp; with_reducible rfl))
    simp only [Act.put, List.getElem_toArray, List.getElem_cons_zero, List.getElem_cons_succ, List.setIfInBounds_toArray, List.set_cons_zero, List.set_cons_succ]
    refine wpAnyH_take (i := 4) (v := ?_) rfl (by kernel_rfl) (by kernel_rfl) (by kernel_rfl) (fun _ _ _ h => h) (Or.inl ⟨by rfl, ?_⟩) (by assumption) ?_
    rotate_left
    · (intro w hSw; (try dsimp only at hSw); first | (go_simp; done) | (go_simp; with_reducible rfl))
    simp only [Act.put, List.getElem_toArray, List.getElem_cons_zero, List.getElem_cons_succ, List.setIfInBounds_toArray, List.set_cons_zero, List.set_cons_succ]
    refine wpAnyH_take (i := 5) (v := ?_) rfl (by kernel_rfl) (by kernel_rfl) (by kernel_rfl) (fun _ _ _ h => h) (Or.inl ⟨by rfl, ?_⟩) (by assumption) ?_
    rotate_left
    · (intro w hSw; (try dsimp only at hSw); first | (go_simp; done) | (go_simp; with_reducible rfl))
    simp only [Act.put, List.getElem_toArray, List.getElem_cons_zero, List.getElem_cons_succ, List.setIfInBounds_toArray, List.set_cons_zero, List.set_cons_succ]
    refine wpAnyH_take (i := 6) (v := ?_) rfl (by kernel_rfl) (by kernel_rfl) (by kernel_rfl) (fun _ _ _ h => h) (Or.inl ⟨by rfl, ?_⟩) (by assumption) ?_
    rotate_left
    · (intro w hSw; (try dsimp only at hSw); first | (go_simp; done) | (go_simp; with_reducible rfl))
    simp only [Act.put, List.getElem_toArray, List.getElem_cons_zero, List.getElem_cons_succ, List.setIfInBounds_toArray, List.set_cons_zero, List.set_cons_succ]
    refine wpAnyH_take (i := 8) (v := ?_) rfl (by kernel_rfl) (by kernel_rfl) (by kernel_rfl) (fun _ _ _ h => h) (Or.inl ⟨by rfl, ?_⟩) (by assumption) ?_
    rotate_left
    · (intro w hSw; (try dsimp only at hSw); first | (go_simp; done) | (go_simp; with_reducible rfl))
    simp only [Act.put, List.getElem_toArray, List.getElem_cons_zero, List.getElem_cons_succ, List.setIfInBounds_toArray, List.set_cons_zero, List.set_cons_succ]
    refine wpAnyH_ready (rs := [7]) (by kernel_rfl) (by simp) ?_
    refine AllReadyH.cons rfl (fun K hK => ?_) AllReadyH.nil
    go_simp
    go_wp2_with (go_at_call 25; refine LN.out.mono ?_; rintro e w5 ⟨rfl, rfl⟩)
    refine hK.out _ _ (KT.out _ (Below.refl _ _).drew) (fun hH1 => ?_)
    clear hK K hHeld
    refine wpAnyH_take (i := 9) (v := ?_) rfl (by kernel_rfl) (by kernel_rfl) (by kernel_rfl) (fun _ _ _ h => h) (Or.inl ⟨by rfl, ?_⟩) (by assumption) ?_
    rotate_left
    · (intro w hSw; (try dsimp only at hSw); first | (go_simp; done) | (go_simp; with_reducible rfl))
    simp only [Act.put, List.getElem_toArray, List.getElem_cons_zero, List.getElem_cons_succ, List.setIfInBounds_toArray, List.set_cons_zero, List.set_cons_succ]
    refine wpAnyH_take (i := 10) (v := ?_) rfl (by kernel_rfl) (by kernel_rfl) (by kernel_rfl) (fun _ _ _ h => h) (Or.inl ⟨by rfl, ?_⟩) (by assumption) ?_
    rotate_left
    · (intro w hSw; (try dsimp only at hSw); first | (go_simp; done) | (go_simp; with_reducible rfl))
    simp only [Act.put, List.getElem_toArray, List.getElem_cons_zero, List.getElem_cons_succ, List.setIfInBounds_toArray, List.set_cons_zero, List.set_cons_succ]
    refine wpAnyH_take (i := 11) (v := ?_) rfl (by kernel_rfl) (by kernel_rfl) (by kernel_rfl) (fun _ _ _ h => h) (Or.inl ⟨by rfl, ?_⟩) (by assumption) ?_
    rotate_left
    · (intro w hSw; (try dsimp only at hSw); first | (go_simp; done) | (go_simp; with_reducible rfl))
    simp only [Act.put, List.getElem_toArray, List.getElem_cons_zero, List.getElem_cons_succ, List.setIfInBounds_toArray, List.set_cons_zero, List.set_cons_succ]
    refine wpAnyH_take (i := 12) (v := ?_) rfl (by kernel_rfl) (by kernel_rfl) (by kernel_rfl) (fun _ _ _ h => h) (Or.inl ⟨by rfl, ?_⟩) (by assumption) ?_
    rotate_left
    · (intro w hSw; (try dsimp only at hSw); first | (go_simp; done) | (go_simp; with_reducible rfl))
    simp only [Act.put, List.getElem_toArray, List.getElem_cons_zero, List.getElem_cons_succ, List.setIfInBounds_toArray, List.set_cons_zero, List.set_cons_succ]
    refine wpAnyH_take (i := 14) (v := ?_) rfl (by kernel_rfl) (by kernel_rfl) (by kernel_rfl) (fun _ _ _ h => h) (Or.inl ⟨by rfl, ?_⟩) (by assumption) ?_
    rotate_left
    · (intro w hSw; (try dsimp only at hSw); first | (go_simp; done) | (go_simp; with_reducible rfl))
    simp only [Act.put, List.getElem_toArray, List.getElem_cons_zero, List.getElem_cons_succ, List.setIfInBounds_toArray, List.set_cons_zero, List.set_cons_succ]
    refine wpAnyH_take (i := 15) (v := ?_) rfl (by kernel_rfl) (by kernel_rfl) (by kernel_rfl) (fun _ _ _ h => h) (Or.inl ⟨by rfl, ?_⟩) (by assumption) ?_
    rotate_left
    · (intro w hSw; (try dsimp only at hSw); first | (go_simp; done) | (go_simp; with_reducible rfl))
    simp only [Act.put, List.getElem_toArray, List.getElem_cons_zero, List.getElem_cons_succ, List.setIfInBounds_toArray, List.set_cons_zero, List.set_cons_succ]
    refine wpAnyH_ready (rs := [13]) (by kernel_rfl) (by simp) ?_
    refine AllReadyH.cons rfl (fun K hK => ?_) AllReadyH.nil
    go_simp
    go_wp2_with (go_at_call 26; refine NX.out.mono ?_; rintro e w6 ⟨rfl, rfl⟩)
    refine hK.out _ _ (KT.out _ (Below.refl _ _).drew) (fun hH2 => ?_)
    clear hK K hH1
    refine wpAnyH_take (i := 16) (v := ?_) rfl (by kernel_rfl) (by kernel_rfl) (by kernel_rfl) (fun _ _ _ h => h) (Or.inl ⟨by rfl, ?_⟩) (by assumption) ?_
    rotate_left
    · (intro w hSw; (try dsimp only at hSw); first | (go_simp; done) | (go_simp; with_reducible rfl))
    simp only [Act.put, List.getElem_toArray, List.getElem_cons_zero, List.getElem_cons_succ, List.setIfInBounds_toArray, List.set_cons_zero, List.set_cons_succ]
    refine wpAnyH_take (i := 17) (v := ?_) rfl (by kernel_rfl) (by kernel_rfl) (by kernel_rfl) (fun _ _ _ h => h) (Or.inl ⟨by rfl, ?_⟩) (by assumption) ?_
    rotate_left
    · (intro w hSw; (try dsimp only at hSw); first | (go_simp; done) | (go_simp; with_reducible rfl))
    simp only [Act.put, List.getElem_toArray, List.getElem_cons_zero, List.getElem_cons_succ, List.setIfInBounds_toArray, List.set_cons_zero, List.set_cons_succ]
    have BE := Lib.hid (show Blk W.drew (w.heap.size + 1) 4 #[.bool false] from HRB.out.drewN 1)
    have d0 := BE.out.cell 0
    have f0 := BE.out.free 0
    have GG := Lib.hid ((BE.out.put 0 (.bool true)).cell 0)
    have HQ := Lib.hid (G0.out.drew.setCell (p := ⟨w.heap.size + 1, 0, none⟩) (by show w.heap.size ≤ w.heap.size + 1; omega) (.bool true))
    have KD := Lib.hid ((KeepsOthers.setCell W.drew ⟨w.heap.size + 1, 0, none⟩ (.bool true)).same Dd _ KK.out rfl)
    have A1 := Lib.hid ((World.cell?_setCell_far W.drew ⟨w.heap.size + 1, 0, none⟩ ⟨w.heap.size + 1 + 1, 0, none⟩ (.bool true) (by show w.heap.size + 1 ≠ w.heap.size + 1 + 1; omega)).trans (KT.out _ (Below.refl _ _).drew).1)
    have A2 := Lib.hid ((World.cell?_setCell_far W.drew ⟨w.heap.size + 1, 0, none⟩ ⟨w.heap.size, 0, none⟩ (.bool true) (by show w.heap.size + 1 ≠ w.heap.size; omega)).trans (KT.out _ (Below.refl _ _).drew).2.1)
    have A3 := Lib.hid ((World.cell?_setCell_far W.drew ⟨w.heap.size + 1, 0, none⟩ ⟨w.heap.size, 1, none⟩ (.bool true) (by show w.heap.size + 1 ≠ w.heap.size; omega)).trans (KT.out _ (Below.refl _ _).drew).2.2)
    have DW := Lib.hid (show w.heap.size ≤ Dd by have := HDD.out; have := G3.out.size; omega)
    refine wpAnyH_ready (rs := [18]) (by kernel_rfl) (by simp) ?_
    refine AllReadyH.cons rfl (fun K hK => ?_) AllReadyH.nil
    go_simp
    refine hK.out _ _ ⟨A1.out, A2.out, A3.out⟩ (fun hH3 => ?_)
    clear hK K hH2
    refine wpAnyH_done (by kernel_rfl) ?_ _
    clear hH3 d0 f0
    go_wp2_with fail
    refine ⟨by simp, .inl ⟨_, _, rfl, run_takeDeferred KD.out, ?_⟩⟩
    have hc5 := cell_kept GG.out (grownBy_putObj' _ Dd (.deferred none)) (fun r e => by cases e; exact ⟨_, KD.out, rfl⟩)
    refine ⟨.bool true, ?_, rfl, HQ.out.trans (belowK_b (w := w) (Nat.le_refl _) _ Dd _ _ DW.out KD.out rfl rfl)⟩
    rw [show W.drew.setCell ⟨w.heap.size + 1, 0, none⟩ (.bool true) = (W.setCell ⟨w.heap.size + 1, 0, none⟩ (.bool true)).drew by first | rfl | simp] at hc5
    generalize ((W.setCell ⟨w.heap.size + 1, 0, none⟩ (.bool true)).drew).putObj Dd (.deferred none) = w9 at hc5 ⊢
    simp [results, Try.f12, go_sem, hc5]
  case stop =>
    rintro D c pre W hD ⟨k2, hk2, hpre⟩ ⟨rfl, hne⟩ hK
    exact absurd (show pre = L.take pre.length by rw [hpre, List.length_take, Nat.min_eq_left hk2]) hne
end Go.Proofs.Ytmnkkdalobdabaa.dd
