/-
  R-trees: Any, has.
-/
import Derived.Test.YtndhdpjgnepfnaaTrAE
import Derived.Test.YtndhdpjgnepfnaaBase2
namespace Go.Proofs.Ytndhdpjgnepfnaa.tr
open Go.RowKit Go.Shelf
open base (ret_bool ret_int made up Blk Only)
open rk (Lay)
open rect rgm
set_option linter.unusedVariables false
set_option linter.unusedSimpArgs false
attribute [local go_sem] Oper.semAt_some

/-- the boxes of a call of Any -/
structure YS (w : World) (q : Bx) (o : Bool) (W : World) : Prop where
  b0 : Blk W w.heap.size 28 #[.int .i64 q.x, .int .i64 q.y, .int .i64 q.w, .int .i64 q.h]
  b1 : Blk W (w.heap.size + 1) 4 #[.bool o]
  below : Below w.heap.size w W
/-- .. of has -/
structure HS (w : World) (q : Bx) (z : Int) (o : Bool) (W : World) : Prop where
  b0 : Blk W w.heap.size 28 #[.int .i64 q.x, .int .i64 q.y, .int .i64 q.w, .int .i64 q.h]
  b1 : Blk W (w.heap.size + 1) 3 #[.int .i64 z]
  b2 : Blk W (w.heap.size + 1 + 1) 4 #[.bool o]
  below : Below w.heap.size w W
section
variable {w W W' : World} {q : Bx} {z : Int} {o : Bool}
theorem YS.only {T : Nat → Prop} (h : YS w q o W) (ho : Only T W W') (hT : ∀ k, k < w.heap.size + 2 → ¬ T k) : YS w q o W' :=
  ⟨h.b0.only ho (hT _ (by omega)), h.b1.only ho (hT _ (by omega)), h.below.trans (Only.to_below ho (fun i hi => hT i (by omega)) h.below.size)⟩
theorem YS.put (h : YS w q o W) (o' : Bool) : YS w q o' (W.setCell ⟨w.heap.size + 1, 0, none⟩ (.bool o')) :=
  ⟨h.b0.far (p := ⟨w.heap.size + 1, 0, none⟩) (by show w.heap.size ≠ w.heap.size + 1; omega) _, h.b1.put 0 _, h.below.setCell (p := ⟨w.heap.size + 1, 0, none⟩) (by show w.heap.size ≤ w.heap.size + 1; omega) _⟩
theorem HS.only {T : Nat → Prop} (h : HS w q z o W) (ho : Only T W W') (hT : ∀ k, k < w.heap.size + 3 → ¬ T k) : HS w q z o W' :=
  ⟨h.b0.only ho (hT _ (by omega)), h.b1.only ho (hT _ (by omega)), h.b2.only ho (hT _ (by omega)), h.below.trans (Only.to_below ho (fun i hi => hT i (by omega)) h.below.size)⟩
theorem HS.put (h : HS w q z o W) (o' : Bool) : HS w q z o' (W.setCell ⟨w.heap.size + 1 + 1, 0, none⟩ (.bool o')) :=
  ⟨h.b0.far (p := ⟨w.heap.size + 1 + 1, 0, none⟩) (by show w.heap.size ≠ w.heap.size + 1 + 1; omega) _, h.b1.far (p := ⟨w.heap.size + 1 + 1, 0, none⟩) (by show w.heap.size + 1 ≠ w.heap.size + 1 + 1; omega) _, h.b2.put 0 _, h.below.setCell (p := ⟨w.heap.size + 1 + 1, 0, none⟩) (by show w.heap.size ≤ w.heap.size + 1 + 1; omega) _⟩
theorem one_only (W : World) (b : Nat) (v : Value) : Only (fun j => j = b) W (W.setCell ⟨b, 0, none⟩ v) := (Only.refl (fun j => j = b) W).setCell (p := ⟨b, 0, none⟩) (.inl rfl) _
end
set_option maxRecDepth 100000 in
set_option maxHeartbeats 4000000 in
theorem any_any (t h n root : Nat) (v : Value) (X : List Ex) (q : Bx) (w : World) (ht : TAt w t h n root v X) : Calls Try.prog 19 #[.pointer (some ⟨t, 0, none⟩), (.agg #[.int .i64 q.x, .int .i64 q.y, .int .i64 q.w, .int .i64 q.h])] w fun e w' => e = .returned (.bool !(tl (fun b => mt q b) X).isEmpty) ∧ Below w.heap.size w w' := by
  obtain ⟨w2, hw2⟩ : ∃ w2, (w.alloc (.cells #[.int .i64 q.x, .int .i64 q.y, .int .i64 q.w, .int .i64 q.h] 28)).alloc (.cells #[.bool false] 4) = w2 := ⟨_, rfl⟩
  have A0 : YS w q false w2 := by
    rw [← hw2]
    exact ⟨(Blk.new _ _ _).alloc _, by
      have := Blk.new (w.alloc (.cells #[.int .i64 q.x, .int .i64 q.y, .int .i64 q.w, .int .i64 q.h] 28)) 4 #[.bool false]
      rw [asz] at this
      exact this, (made w _).alloc (by rw [asz]; omega) _⟩
  have Z2 := Lib.hid (show w2.heap.size = w.heap.size + 2 by rw [← hw2, asz, asz])
  have A2 := Lib.hid A0
  have LM := Lib.hid (meets_make t q w2)
  have Q2 := Lib.hid (ht.below A0.below)
  have GW := Lib.hid (And.intro ht.blk.lt ht.nd.lt)
  obtain ⟨x0, x1, x2, x3⟩ := A0.b0.four
  clear A0 ht
  refine (callsIn_wide (n := 3)).1 ?_
  refine callsIn_of_wp_marks Try.func19 rfl trivial ?_ rfl
  simp only [Try.ntmps19, List.size_toArray, List.length_cons, List.length_nil, Nat.reduceAdd, Nat.reduceSub, Array.replicate_succ, Array.replicate_zero, List.push_toArray, List.append_toArray, List.nil_append, List.cons_append]
  refine wpIn_wide.2 (calm_wp ?_)
  go_upto_region 1 with fail
  try simp only [hw2]
  clear hw2
  go_wp2_with fail
  refine LM.out.mono ?_
  rintro e w3 ⟨B, rfl, hBB, hx3, hb3⟩
  have X3 := Lib.hid hx3
  have BB := Lib.hid hBB
  have A3 := Lib.hid (A2.out.only (T := fun k => w2.heap.size ≤ k) ((Only.refl _ w2).below hb3 (fun i hi h => h)) (fun k hk => by have := Z2.out; omega))
  have Q3 := Lib.hid (Q2.out.below hb3)
  have Z3 := Lib.hid (show w.heap.size + 2 ≤ w3.heap.size from by have := Z2.out; have := hb3.size; omega)
  clear hx3 hb3 LM A2 Q2 x0 x1 x2 x3 hBB
  unfold seqV
  go_wp2_with fail
  refine (wpIn_wide (n := 3)).1 ?_
  refine' wp_things5 (fun b => mt q b) (.func 37) #[(.agg #[.int .i64 q.x, .int .i64 q.y, .int .i64 q.w, .int .i64 q.h])] #[] (searchM_ok q) B t h n root v X rfl rfl X3.out Q3.out (fun m W => m = 0 ∧ YS w q false W) (fun c W => c = .ret ∧ tl (fun b => mt q b) X ≠ [] ∧ YS w q true W) (fun j => j = w.heap.size + 1) _ ?hS ⟨rfl, A3.out⟩ ?hJs ?hEs ?assign ?body ?done ?stop
  case hS =>
    have z2 := Z2.out
    have z3 := Z3.out
    have gw := GW.out.1
    have bb := BB.out
    have hbl : ∀ j, w.heap.size ≤ j → ¬ foot root v X j := fun j hj e => by have := GW.out.2 j e; omega
    rintro j rfl
    exact ⟨by omega, by omega, hbl _ (by omega), by omega, by omega⟩
  case hJs =>
    rintro m W W' ⟨h1, h2⟩ ho
    exact ⟨h1, h2.only ho (fun k hk => by have := Z3.out; omega)⟩
  case hEs =>
    rintro c W W' ⟨h1, h2, h3⟩ ho
    exact ⟨h1, h2, h3.only ho (fun k hk => by have := Z3.out; omega)⟩
  case assign =>
    intro d W K hK
    simp only [targs, List.zip_toArray, List.zip_cons_cons, List.zip_nil_right, List.foldl_toArray, List.foldl_cons, List.foldl_nil, List.setIfInBounds_toArray, List.set_cons_succ, List.set_cons_zero]
    gi_wp2
    exact hK
  case body =>
    rintro m d Wc hm hd ⟨rfl, ha⟩ hlt
    have FIN := Lib.hid (show tl (fun b => mt q b) X ≠ [] ∧ YS w q true _ from ⟨fun e => by rw [e] at hm; exact absurd hm (Nat.lt_irrefl _), ha.put true⟩)
    have c0 := ha.b1.cell 0
    have f0 := ha.b1.free 0
    clear hm hd ha hlt
    gi_wp2
    exact ⟨one_only _ _ _, rfl, FIN.out⟩
  case done =>
    rintro W ⟨hl, ha⟩ hs hK
    have HE := Lib.hid (List.length_eq_zero_iff.1 hl)
    have P := ha.put false
    have KD := Lib.hid (((KeepsOthers.setCell W ⟨w.heap.size + 1, 0, none⟩ (.bool false)).same w3.heap.size _ hK rfl))
    have G0 := Lib.hid (P.b1.cell 0)
    have HQ := Lib.hid P.below
    have DW := Lib.hid (show w.heap.size ≤ w3.heap.size from by have := Z3.out; omega)
    have c0 := ha.b1.cell 0
    have f0 := ha.b1.free 0
    clear P hl ha hs hK
    go_wp2_with fail
    refine ⟨by simp, .inl ⟨_, _, rfl, run_takeDeferred KD.out, ?_⟩⟩
    have hc0 := cell_kept G0.out (grownBy_putObj' _ w3.heap.size (.deferred none)) (fun r e => by cases e; exact ⟨_, KD.out, rfl⟩)
    refine ⟨.bool false, ?_, by rw [HE.out]; rfl, HQ.out.trans (belowK_b (w := w) (Nat.le_refl _) _ w3.heap.size _ _ DW.out KD.out rfl rfl)⟩
    simp [results, Try.f19, go_sem, hc0]
  case stop =>
    rintro c W ⟨rfl, hne, ha⟩ hs hK
    refine wpIn_wide.2 ?_
    have HE := Lib.hid hne
    have KD := Lib.hid hK
    have G0 := Lib.hid (ha.b1.cell 0)
    have HQ := Lib.hid ha.below
    have DW := Lib.hid (show w.heap.size ≤ w3.heap.size from by have := Z3.out; omega)
    clear hne ha hs hK
    go_wp2_with fail
    refine ⟨by simp, .inl ⟨_, _, rfl, run_takeDeferred KD.out, ?_⟩⟩
    have hc0 := cell_kept G0.out (grownBy_putObj' _ w3.heap.size (.deferred none)) (fun r e => by cases e; exact ⟨_, KD.out, rfl⟩)
    refine ⟨.bool true, ?_, by
      have : (tl (fun b => mt q b) X).isEmpty = false := by
        rw [← Bool.not_eq_true, List.isEmpty_iff]; exact HE.out
      rw [this]; rfl, HQ.out.trans (belowK_b (w := w) (Nat.le_refl _) _ w3.heap.size _ _ DW.out KD.out rfl rfl)⟩
    simp [results, Try.f19, go_sem, hc0]
set_option maxRecDepth 100000 in
set_option maxHeartbeats 4000000 in
theorem has_any (t h n root : Nat) (v : Value) (X : List Ex) (q : Bx) (z : Int) (w : World) (ht : TAt w t h n root v X) (hq : q.right = true) (hr : ∀ d ∈ (all X).map Prod.fst, d.right = true) : Calls Try.prog 42 #[.pointer (some ⟨t, 0, none⟩), (.agg #[.int .i64 q.x, .int .i64 q.y, .int .i64 q.w, .int .i64 q.h]), .int .i64 z] w fun e w' => e = .returned (.bool (decide ((q, z) ∈ all X))) ∧ Below w.heap.size w w' := by
  obtain ⟨w2, hw2⟩ : ∃ w2, ((w.alloc (.cells #[.int .i64 q.x, .int .i64 q.y, .int .i64 q.w, .int .i64 q.h] 28)).alloc (.cells #[.int .i64 z] 3)).alloc (.cells #[.bool false] 4) = w2 := ⟨_, rfl⟩
  have A0 : HS w q z false w2 := by
    rw [← hw2]
    exact ⟨((Blk.new _ _ _).alloc _).alloc _, by
      have := (Blk.new (w.alloc (.cells #[.int .i64 q.x, .int .i64 q.y, .int .i64 q.w, .int .i64 q.h] 28)) 3 #[.int .i64 z]).alloc (.cells #[.bool false] 4)
      rw [asz] at this
      exact this, by
      have := Blk.new ((w.alloc (.cells #[.int .i64 q.x, .int .i64 q.y, .int .i64 q.w, .int .i64 q.h] 28)).alloc (.cells #[.int .i64 z] 3)) 4 #[.bool false]
      rw [asz, asz] at this
      exact this, ((made w _).alloc (by rw [asz]; omega) _).alloc (by rw [asz, asz]; omega) _⟩
  have Z2 := Lib.hid (show w2.heap.size = w.heap.size + 3 by rw [← hw2, asz, asz, asz])
  have A2 := Lib.hid A0
  have LM := Lib.hid (meets_make t q w2)
  have Q2 := Lib.hid (ht.below A0.below)
  have GW := Lib.hid (And.intro ht.blk.lt ht.nd.lt)
  obtain ⟨x0, x1, x2, x3⟩ := A0.b0.four
  have HQ1 := Lib.hid hq
  have HR1 := Lib.hid (show ((q, z) ∈ tl (fun b => mt q b) X ↔ (q, z) ∈ all X) from by
    unfold tl
    rw [List.mem_filter]
    have : mt q q = true := (mt_iff q q).2 ⟨hq, hq, by have := right_yes hq; omega, by have := right_yes hq; omega⟩
    simp [this])
  clear A0 ht hq hr
  refine (callsIn_wide (n := 3)).1 ?_
  refine callsIn_of_wp_marks Try.func42 rfl trivial ?_ rfl
  simp only [Try.ntmps42, List.size_toArray, List.length_cons, List.length_nil, Nat.reduceAdd, Nat.reduceSub, Array.replicate_succ, Array.replicate_zero, List.push_toArray, List.append_toArray, List.nil_append, List.cons_append]
  refine wpIn_wide.2 (calm_wp ?_)
  go_upto_region 1 with fail
  try simp only [hw2]
  clear hw2
  go_wp2_with fail
  refine LM.out.mono ?_
  rintro e w3 ⟨B, rfl, hBB, hx3, hb3⟩
  have X3 := Lib.hid hx3
  have BB := Lib.hid hBB
  have A3 := Lib.hid (A2.out.only (T := fun k => w2.heap.size ≤ k) ((Only.refl _ w2).below hb3 (fun i hi h => h)) (fun k hk => by have := Z2.out; omega))
  have Q3 := Lib.hid (Q2.out.below hb3)
  have Z3 := Lib.hid (show w.heap.size + 3 ≤ w3.heap.size from by have := Z2.out; have := hb3.size; omega)
  clear hx3 hb3 LM A2 Q2 x0 x1 x2 x3 hBB
  unfold seqV
  go_wp2_with fail
  refine (wpIn_wide (n := 3)).1 ?_
  refine' wp_things6 (fun b => mt q b) (.func 37) #[(.agg #[.int .i64 q.x, .int .i64 q.y, .int .i64 q.w, .int .i64 q.h])] #[] (searchM_ok q) B t h n root v X rfl rfl X3.out Q3.out (fun m W => (∀ i, i < m → (tl (fun b => mt q b) X).getD i dth ≠ (q, z)) ∧ HS w q z false W) (fun c W => c = .ret ∧ (q, z) ∈ tl (fun b => mt q b) X ∧ HS w q z true W) (fun j => j = w.heap.size + 1 + 1) _ ?hS ⟨fun i hi => absurd hi (by omega), A3.out⟩ ?hJs ?hEs ?assign ?body ?done ?stop
  case hS =>
    have z2 := Z2.out
    have z3 := Z3.out
    have gw := GW.out.1
    have bb := BB.out
    have hbl : ∀ j, w.heap.size ≤ j → ¬ foot root v X j := fun j hj e => by have := GW.out.2 j e; omega
    rintro j rfl
    exact ⟨by omega, by omega, hbl _ (by omega), by omega, by omega⟩
  case hJs =>
    rintro m W W' ⟨h1, h2⟩ ho
    exact ⟨h1, h2.only ho (fun k hk => by have := Z3.out; omega)⟩
  case hEs =>
    rintro c W W' ⟨h1, h2, h3⟩ ho
    exact ⟨h1, h2, h3.only ho (fun k hk => by have := Z3.out; omega)⟩
  case assign =>
    intro d W b K hb hK
    simp only [targs, List.zip_toArray, List.zip_cons_cons, List.zip_nil_right, List.foldl_toArray, List.foldl_cons, List.foldl_nil, List.setIfInBounds_toArray, List.set_cons_succ, List.set_cons_zero]
    unfold thcells at hK
    gi_wp2
    try rw [hb]
    exact hK
  case body =>
    rintro m d b Wc hm hd ⟨hno, ha⟩ hlt hblk
    obtain ⟨d1, d2⟩ := d
    obtain ⟨x0, x1, x2, x3⟩ := hblk.four
    obtain ⟨y0, y1, y2, y3⟩ := ha.b0.four
    have c1 := ha.b1.cell 0
    have c2 := ha.b2.cell 0
    have f2 := ha.b2.free 0
    have hg := guard_rect
    have hqq := fun W => run_eql d1 q W
    have HM := Lib.hid hm
    have HD := Lib.hid hd
    have HNO := Lib.hid hno
    have HA := Lib.hid ha
    have YES := Lib.hid (fun (e1 : d1 = q) (e2 : d2 = z) => (show (q, z) ∈ tl (fun b => mt q b) X from by
      have := List.getElem_mem hm
      rw [List.getD_eq_getElem?_getD, List.getElem?_eq_getElem hm, Option.getD_some] at hd
      rw [hd, e1, e2] at this
      exact this))
    have NOT := Lib.hid (fun (hne : (d1, d2) ≠ (q, z)) => (show ∀ i, i < m + 1 → (tl (fun b => mt q b) X).getD i dth ≠ (q, z) from fun i hi => by
      rcases Nat.lt_succ_iff_lt_or_eq.1 hi with h | rfl
      · exact hno i h
      · rw [hd]; exact hne))
    by_cases q1 : d1 = q
    · rw [decide_eq_true q1] at hqq
      have SA := Lib.hid (same_any d2 z Wc)
      by_cases q2 : d2 = z
      · have q3 : (d2 == z) = true := by rw [beq_iff_eq]; exact q2
        rw [q3] at SA
        have YE := Lib.hid (YES.out q1 q2)
        clear q1 q2 q3 hm hd hno ha hlt hblk YES NOT
        gi_wp2
        refine ⟨trivial, ((callsIn_wide (n := 0)).2 (SA.out.mono ?_)).inRound _⟩
        rintro e7 w7 ⟨rfl, hb7⟩
        have H7 := HA.out.only ((Only.refl (fun k => Wc.heap.size ≤ k) Wc).below hb7 (fun i hi h => h)) (fun k hk => by have := HA.out.b2.lt; omega)
        have FIN := Lib.hid (H7.put true)
        have O7 := Lib.hid (show Only (fun j => j = w.heap.size + 1 + 1) Wc w7 from (Only.refl _ Wc).below hb7 (fun i hi h => by omega))
        have c3 := H7.b2.cell 0
        have f3 := H7.b2.free 0
        clear H7 hb7 SA x0 x1 x2 x3 y0 y1 y2 y3 c1 c2 f2 hg hqq
        gi_wp2
        exact ⟨O7.out.setCell (p := ⟨w.heap.size + 1 + 1, 0, none⟩) (.inl rfl) _, rfl, YE.out, FIN.out⟩
      · have q3 : (d2 == z) = false := by rw [beq_eq_false_iff_ne]; exact q2
        rw [q3] at SA
        have NE := Lib.hid (NOT.out (fun e => q2 (Prod.ext_iff.1 e).2))
        clear q1 q2 q3 hm hd hno ha hlt hblk YES NOT
        gi_wp2
        refine ⟨trivial, ((callsIn_wide (n := 0)).2 (SA.out.mono ?_)).inRound _⟩
        rintro e7 w7 ⟨rfl, hb7⟩
        have H7 := Lib.hid (HA.out.only ((Only.refl (fun k => Wc.heap.size ≤ k) Wc).below hb7 (fun i hi h => h)) (fun k hk => by have := HA.out.b2.lt; omega))
        have O7 := Lib.hid (show Only (fun j => j = w.heap.size + 1 + 1) Wc w7 from (Only.refl _ Wc).below hb7 (fun i hi h => by omega))
        clear hb7 SA x0 x1 x2 x3 y0 y1 y2 y3 c1 c2 f2 hg hqq
        gi_wp2
        exact ⟨O7.out, NE.out, H7.out⟩
    · rw [decide_eq_false q1] at hqq
      have NE := Lib.hid (NOT.out (fun e => q1 (Prod.ext_iff.1 e).1))
      clear q1 hm hd hno ha hlt hblk YES NOT
      gi_wp2
      refine ⟨trivial, ?_⟩
      gi_wp2
      exact ⟨Only.refl _ _, NE.out, HA.out⟩
  case done =>
    rintro W ⟨hl, ha⟩ hs hK
    have HE := Lib.hid ((show (q, z) ∉ tl (fun b => mt q b) X from fun e => by
      obtain ⟨i, hi, he⟩ := List.getElem_of_mem e
      have := hl i hi
      rw [List.getD_eq_getElem?_getD, List.getElem?_eq_getElem hi, Option.getD_some] at this
      exact this he))
    have P := ha.put false
    have KD := Lib.hid (((KeepsOthers.setCell W ⟨w.heap.size + 1 + 1, 0, none⟩ (.bool false)).same w3.heap.size _ hK rfl))
    have G0 := Lib.hid (P.b2.cell 0)
    have HQ := Lib.hid P.below
    have DW := Lib.hid (show w.heap.size ≤ w3.heap.size from by have := Z3.out; omega)
    have c0 := ha.b2.cell 0
    have f0 := ha.b2.free 0
    clear P hl ha hs hK
    go_wp2_with fail
    refine ⟨by simp, .inl ⟨_, _, rfl, run_takeDeferred KD.out, ?_⟩⟩
    have hc0 := cell_kept G0.out (grownBy_putObj' _ w3.heap.size (.deferred none)) (fun r e => by cases e; exact ⟨_, KD.out, rfl⟩)
    refine ⟨.bool false, ?_, by rw [decide_eq_false (fun e => HE.out (HR1.out.2 e))], HQ.out.trans (belowK_b (w := w) (Nat.le_refl _) _ w3.heap.size _ _ DW.out KD.out rfl rfl)⟩
    simp [results, Try.f42, go_sem, hc0]
  case stop =>
    rintro c W ⟨rfl, hne, ha⟩ hs hK
    refine wpIn_wide.2 ?_
    have HE := Lib.hid hne
    have KD := Lib.hid hK
    have G0 := Lib.hid (ha.b2.cell 0)
    have HQ := Lib.hid ha.below
    have DW := Lib.hid (show w.heap.size ≤ w3.heap.size from by have := Z3.out; omega)
    clear hne ha hs hK
    go_wp2_with fail
    refine ⟨by simp, .inl ⟨_, _, rfl, run_takeDeferred KD.out, ?_⟩⟩
    have hc0 := cell_kept G0.out (grownBy_putObj' _ w3.heap.size (.deferred none)) (fun r e => by cases e; exact ⟨_, KD.out, rfl⟩)
    refine ⟨.bool true, ?_, by rw [decide_eq_true (HR1.out.1 HE.out)], HQ.out.trans (belowK_b (w := w) (Nat.le_refl _) _ w3.heap.size _ _ DW.out KD.out rfl rfl)⟩
    simp [results, Try.f42, go_sem, hc0]
end Go.Proofs.Ytndhdpjgnepfnaa.tr
