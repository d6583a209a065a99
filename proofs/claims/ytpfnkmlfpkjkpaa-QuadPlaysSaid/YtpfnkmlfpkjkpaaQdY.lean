/-
  Quads: Only.
-/
import Derived.Test.YtpfnkmlfpkjkpaaQdX
import Derived.Test.YtpfnkmlfpkjkpaaBase2
namespace Go.Proofs.Ytpfnkmlfpkjkpaa.qd
open Go.RowKit Go.Shelf
open base (ret_bool ret_int made up Blk Only)
open rect rgm
set_option linter.unusedVariables false
set_option linter.unusedSimpArgs false
attribute [local go_sem] Oper.semAt_some

/-- the boxes of a call of Only -/
structure OS (w : World) (a b c d r : Int) (o : Bool) (v : Int) (s : Bool) (W : World) : Prop where
  b0 : Blk W w.heap.size 42 #[.int .i64 a, .int .i64 b, .int .i64 c, .int .i64 d]
  b1 : Blk W (w.heap.size + 1) 3 #[.int .i64 r]
  b2 : Blk W (w.heap.size + 1 + 1) 4 #[.bool o]
  b3 : Blk W (w.heap.size + 1 + 1 + 1) 3 #[.int .i64 v]
  b4 : Blk W (w.heap.size + 1 + 1 + 1 + 1) 4 #[.bool s]
  below : Below w.heap.size w W
section
variable {w W W' : World} {a b c d r v : Int} {o s : Bool}
theorem OS.only {T : Nat → Prop} (h : OS w a b c d r o v s W) (ho : Only T W W') (hT : ∀ k, k < w.heap.size + 5 → ¬ T k) : OS w a b c d r o v s W' :=
  ⟨h.b0.only ho (hT _ (by omega)), h.b1.only ho (hT _ (by omega)), h.b2.only ho (hT _ (by omega)), h.b3.only ho (hT _ (by omega)), h.b4.only ho (hT _ (by omega)), h.below.trans (Only.to_below ho (fun i hi => hT i (by omega)) h.below.size)⟩
theorem OS.putr (h : OS w a b c d r o v s W) (r' : Int) (o' : Bool) : OS w a b c d r' o' v s ((W.setCell ⟨w.heap.size + 1, 0, none⟩ (.int .i64 r')).setCell ⟨w.heap.size + 1 + 1, 0, none⟩ (.bool o')) := by
  have ho : Only (fun j => j = w.heap.size + 1 ∨ j = w.heap.size + 1 + 1) W ((W.setCell ⟨w.heap.size + 1, 0, none⟩ (.int .i64 r')).setCell ⟨w.heap.size + 1 + 1, 0, none⟩ (.bool o')) :=
    ((Only.refl (fun j => j = w.heap.size + 1 ∨ j = w.heap.size + 1 + 1) W).setCell (p := ⟨w.heap.size + 1, 0, none⟩) (.inl (.inl rfl)) _).setCell (p := ⟨w.heap.size + 1 + 1, 0, none⟩) (.inl (.inr rfl)) _
  exact ⟨h.b0.only ho (by omega), (h.b1.put 0 _).far (p := ⟨w.heap.size + 1 + 1, 0, none⟩) (by show w.heap.size + 1 ≠ w.heap.size + 1 + 1; omega) _, (h.b2.far (p := ⟨w.heap.size + 1, 0, none⟩) (by show w.heap.size + 1 + 1 ≠ w.heap.size + 1; omega) _).put 0 _, h.b3.only ho (by omega), h.b4.only ho (by omega), h.below.trans (Only.to_below ho (fun i hi => by omega) h.below.size)⟩
theorem OS.putv (h : OS w a b c d r o v s W) (v' : Int) (s' : Bool) : OS w a b c d r o v' s' ((W.setCell ⟨w.heap.size + 1 + 1 + 1, 0, none⟩ (.int .i64 v')).setCell ⟨w.heap.size + 1 + 1 + 1 + 1, 0, none⟩ (.bool s')) := by
  have ho : Only (fun j => j = w.heap.size + 1 + 1 + 1 ∨ j = w.heap.size + 1 + 1 + 1 + 1) W ((W.setCell ⟨w.heap.size + 1 + 1 + 1, 0, none⟩ (.int .i64 v')).setCell ⟨w.heap.size + 1 + 1 + 1 + 1, 0, none⟩ (.bool s')) :=
    ((Only.refl (fun j => j = w.heap.size + 1 + 1 + 1 ∨ j = w.heap.size + 1 + 1 + 1 + 1) W).setCell (p := ⟨w.heap.size + 1 + 1 + 1, 0, none⟩) (.inl (.inl rfl)) _).setCell (p := ⟨w.heap.size + 1 + 1 + 1 + 1, 0, none⟩) (.inl (.inr rfl)) _
  exact ⟨h.b0.only ho (by omega), h.b1.only ho (by omega), h.b2.only ho (by omega), (h.b3.put 0 _).far (p := ⟨w.heap.size + 1 + 1 + 1 + 1, 0, none⟩) (by show w.heap.size + 1 + 1 + 1 ≠ w.heap.size + 1 + 1 + 1 + 1; omega) _, (h.b4.far (p := ⟨w.heap.size + 1 + 1 + 1, 0, none⟩) (by show w.heap.size + 1 + 1 + 1 + 1 ≠ w.heap.size + 1 + 1 + 1; omega) _).put 0 _, h.below.trans (Only.to_below ho (fun i hi => by omega) h.below.size)⟩
theorem two_only (W : World) (x : Nat) (v u : Value) (T : Nat → Prop) (h1 : T x) (h2 : T (x + 1)) : Only T W ((W.setCell ⟨x, 0, none⟩ v).setCell ⟨x + 1, 0, none⟩ u) :=
  ((Only.refl T W).setCell (p := ⟨x, 0, none⟩) (.inl h1) _).setCell (p := ⟨x + 1, 0, none⟩) (.inl h2) _
end
/-- what the first m leaves tell -/
def OnJ (L : List Lf) (m : Nat) (v : Int) (s : Bool) : Prop := (m = 0 ∧ v = 0 ∧ s = false) ∨ (0 < m ∧ s = true ∧ ∀ i, i < m → ((L.getD i dfl).2.2.2 : Int) = v)
/-- what Only tells -/
def OnR (L : List Lf) (v : Int) (s : Bool) : Prop := OnJ L L.length v s ∨ (v = 0 ∧ s = false ∧ ∃ i j, i < L.length ∧ j < L.length ∧ (L.getD i dfl).2.2.2 ≠ (L.getD j dfl).2.2.2)
theorem OnJ.next {L : List Lf} {m : Nat} {v : Int} {s : Bool} {e : Lf} (h : OnJ L m v s) (hd : L.getD m dfl = e) (hv : s = false ∨ (e.2.2.2 : Int) = v) : OnJ L (m + 1) (e.2.2.2 : Nat) true := by
  refine .inr ⟨by omega, rfl, fun i hi => ?_⟩
  rcases Nat.lt_succ_iff_lt_or_eq.1 hi with h1 | rfl
  · rcases h with ⟨h0, -, -⟩ | ⟨-, hs, hall⟩
    · omega
    · rcases hv with hv | hv
      · rw [hs] at hv; cases hv
      · rw [hall i h1, hv]
  · rw [hd]
theorem OnJ.no {L : List Lf} {m : Nat} {v : Int} {e : Lf} (h : OnJ L m v true) (hm : m < L.length) (hd : L.getD m dfl = e) (hv : (e.2.2.2 : Int) ≠ v) : OnR L 0 false := by
  rcases h with ⟨-, -, h⟩ | ⟨h0, -, hall⟩
  · cases h
  · refine .inr ⟨rfl, rfl, 0, m, by omega, hm, fun q => hv ?_⟩
    rw [hd] at q
    have := hall 0 h0
    rw [q] at this
    exact this
set_option maxRecDepth 100000 in
set_option maxHeartbeats 4000000 in
theorem only_any (g k : Nat) (q : Q) (a b c d : Int) (w : World) (h : QAt w g k q) : Calls Try.prog 19 #[.pointer (some ⟨g, 0, none⟩), (.agg #[.int .i64 a, .int .i64 b, .int .i64 c, .int .i64 d])] w fun e w' => (∃ v s, e = .returned (.tuple #[.int .i64 v, .bool s]) ∧ OnR (lv q k 0 0 a b c d) v s) ∧ Below w.heap.size w w' := by
  obtain ⟨w2, hw2⟩ : ∃ w2, ((((w.alloc (.cells #[.int .i64 a, .int .i64 b, .int .i64 c, .int .i64 d] 42)).alloc (.cells #[.int .i64 0] 3)).alloc (.cells #[.bool false] 4)).alloc (.cells #[.int .i64 0] 3)).alloc (.cells #[.bool false] 4) = w2 := ⟨_, rfl⟩
  have A0 : OS w a b c d 0 false 0 false w2 := by
    rw [← hw2]
    refine ⟨((((Blk.new _ _ _).alloc _).alloc _).alloc _).alloc _, ?_, ?_, ?_, ?_, ((((made w _).alloc (by rw [asz]; omega) _).alloc (by rw [asz, asz]; omega) _).alloc (by rw [asz, asz, asz]; omega) _).alloc (by rw [asz, asz, asz, asz]; omega) _⟩
    · have := (((Blk.new (w.alloc (.cells #[.int .i64 a, .int .i64 b, .int .i64 c, .int .i64 d] 42)) 3 #[.int .i64 0]).alloc (.cells #[.bool false] 4)).alloc (.cells #[.int .i64 0] 3)).alloc (.cells #[.bool false] 4)
      rw [asz] at this
      exact this
    · have := ((Blk.new ((w.alloc (.cells #[.int .i64 a, .int .i64 b, .int .i64 c, .int .i64 d] 42)).alloc (.cells #[.int .i64 0] 3)) 4 #[.bool false]).alloc (.cells #[.int .i64 0] 3)).alloc (.cells #[.bool false] 4)
      rw [asz, asz] at this
      exact this
    · have := (Blk.new (((w.alloc (.cells #[.int .i64 a, .int .i64 b, .int .i64 c, .int .i64 d] 42)).alloc (.cells #[.int .i64 0] 3)).alloc (.cells #[.bool false] 4)) 3 #[.int .i64 0]).alloc (.cells #[.bool false] 4)
      rw [asz, asz, asz] at this
      exact this
    · have := Blk.new ((((w.alloc (.cells #[.int .i64 a, .int .i64 b, .int .i64 c, .int .i64 d] 42)).alloc (.cells #[.int .i64 0] 3)).alloc (.cells #[.bool false] 4)).alloc (.cells #[.int .i64 0] 3)) 4 #[.bool false]
      rw [asz, asz, asz, asz] at this
      exact this
  have Z2 := Lib.hid (show w2.heap.size = w.heap.size + 5 by rw [← hw2, asz, asz, asz, asz, asz])
  have A2 := Lib.hid A0
  have LM := Lib.hid (leaves_make g a b c d w2)
  have Q2 := Lib.hid (h.below A0.below)
  have GW := Lib.hid (And.intro h.lt (show ∀ m, q.blocks m → m < w.heap.size from fun m e => h.is.blk_lt e))
  have HW2 := Lib.hid hw2
  clear A0 h hw2
  refine (callsIn_wide (n := 3)).1 ?_
  refine callsIn_of_wp_marks Try.func19 rfl trivial ?_ rfl
  simp only [Try.ntmps19, List.size_toArray, List.length_cons, List.length_nil, Nat.reduceAdd, Nat.reduceSub, Array.replicate_succ, Array.replicate_zero, List.push_toArray, List.append_toArray, List.nil_append, List.cons_append]
  refine wpIn_wide.2 (calm_wp ?_)
  go_upto_region 2 with fail
  have hw2 := HW2.out
  simp only [hw2]
  clear hw2 HW2
  obtain ⟨x0, x1, x2, x3⟩ := A2.out.b0.four
  go_wp2_with fail
  refine LM.out.mono ?_
  rintro e w3 ⟨rfl, hx3, hb3⟩
  have X3 := Lib.hid hx3
  have A3 := Lib.hid (A2.out.only (T := fun k => w2.heap.size ≤ k) ((Only.refl _ w2).below hb3 (fun i hi h => h)) (fun k hk => by have := Z2.out; omega))
  have Q3 := Lib.hid (Q2.out.below hb3)
  have Z3 := Lib.hid (show w.heap.size + 5 ≤ w3.heap.size from by have := Z2.out; have := hb3.size; omega)
  clear hx3 hb3 LM A2 Q2 x0 x1 x2 x3
  go_wp2_with fail
  refine (wpIn_wide (n := 3)).1 ?_
  refine' wp_leaves5 w2.heap.size g k q a b c d rfl rfl X3.out Q3.out (fun m W => ∃ v s, OnJ (lv q k 0 0 a b c d) m v s ∧ OS w a b c d 0 false v s W) (fun c' W => c' = .ret ∧ OnR (lv q k 0 0 a b c d) 0 false ∧ ∃ v s, OS w a b c d 0 false v s W) (fun j => w.heap.size + 1 ≤ j ∧ j < w.heap.size + 5) _ ?hS ⟨0, false, .inl ⟨rfl, rfl, rfl⟩, A3.out⟩ ?hJs ?hEs ?assign ?body ?done ?stop
  case hS =>
    have z2 := Z2.out
    have z3 := Z3.out
    have gw := GW.out.1
    have hbl : ∀ j, w.heap.size ≤ j → ¬ q.blocks j := fun j hj e => by have := GW.out.2 j e; omega
    rintro j ⟨h1, h2⟩
    exact ⟨by omega, by omega, hbl _ (by omega), by omega, by omega⟩
  case hJs =>
    rintro m W W' ⟨v, s, h1, h2⟩ ho
    exact ⟨v, s, h1, h2.only ho (fun k hk => by have := Z3.out; omega)⟩
  case hEs =>
    rintro c W W' ⟨h1, h2, v, s, h3⟩ ho
    exact ⟨h1, h2, v, s, h3.only ho (fun k hk => by have := Z3.out; omega)⟩
  case assign =>
    intro d W K hK
    simp only [Lf.args, List.zip_toArray, List.zip_cons_cons, List.zip_nil_right, List.foldl_toArray, List.foldl_cons, List.foldl_nil, List.setIfInBounds_toArray, List.set_cons_succ, List.set_cons_zero]
    gi_wp2
    exact hK
  case body =>
    rintro m e Wc hm hd ⟨v, s, hj, ha⟩ hlt
    have v0 := ha.b3.cell 0
    have s0 := ha.b4.cell 0
    have fv := ha.b3.free 0
    have fs := ha.b4.free 0
    have r0 := ha.b1.cell 0
    have o0 := ha.b2.cell 0
    have fr := ha.b1.free 0
    have fo := ha.b2.free 0
    have FV := Lib.hid (ha.putv (e.2.2.2 : Nat) true)
    have FR := Lib.hid (ha.putr 0 false)
    have TV := Lib.hid (fun (x y : Value) => two_only Wc (w.heap.size + 1 + 1 + 1) x y (fun j => w.heap.size + 1 ≤ j ∧ j < w.heap.size + 5) (by omega) (by omega))
    have TR := Lib.hid (fun (x y : Value) => two_only Wc (w.heap.size + 1) x y (fun j => w.heap.size + 1 ≤ j ∧ j < w.heap.size + 5) (by omega) (by omega))
    cases s with
    | false =>
      have NX := Lib.hid (hj.next hd (.inl rfl))
      obtain ⟨d1, d2, d3, d4⟩ := e
      clear hm hd hj ha hlt
      gi_wp2
      exact ⟨TV.out _ _, _, .inr ⟨NX.out, FV.out⟩⟩
    | true =>
      by_cases hv : (e.2.2.2 : Int) = v
      · have NX := Lib.hid (hj.next hd (.inr hv))
        obtain ⟨d1, d2, d3, d4⟩ := e
        dsimp only at hv
        have q1 : ((d4 : Int) != v) = false := by simpa using hv
        have q2 : decide ((d4 : Int) = v) = true := by simpa using hv
        clear hv hm hd hj ha hlt
        gi_wp2
        exact ⟨TV.out _ _, _, .inr ⟨NX.out, FV.out⟩⟩
      · have NO := Lib.hid (hj.no hm hd hv)
        obtain ⟨d1, d2, d3, d4⟩ := e
        dsimp only at hv
        have q1 : ((d4 : Int) != v) = true := by simpa using hv
        have q2 : decide ((d4 : Int) = v) = false := by simpa using hv
        clear hv hm hd hj ha hlt
        gi_wp2
        exact ⟨TR.out _ _, rfl, NO.out, _, .inr FR.out⟩
  case done =>
    rintro W ⟨v, s, hj, ha⟩ hs hK
    have HR := Lib.hid (show OnR (lv q k 0 0 a b c d) v s from .inl hj)
    have hdr : Only (fun x => W.heap.size ≤ x) W W.drew := (Only.refl _ W).drewN 1
    have AD := Lib.hid (show OS w a b c d 0 false v s W.drew from ha.only hdr (fun x hx => by have := Z3.out; omega))
    have KW := Lib.hid (show W.drew.heap[w3.heap.size]? = some (.deferred (some [])) from hK)
    have P := AD.out.putr v s
    have KD := Lib.hid ((KeepsOthers.setCell W.drew ⟨w.heap.size + 1, 0, none⟩ (.int .i64 v)).same w3.heap.size _ KW.out rfl)
    have KD := Lib.hid ((KeepsOthers.setCell _ ⟨w.heap.size + 1 + 1, 0, none⟩ (.bool s)).same w3.heap.size _ KD.out rfl)
    have G0 := Lib.hid (P.b1.cell 0)
    have G1 := Lib.hid (P.b2.cell 0)
    have V0 := Lib.hid (P.b3.cell 0)
    have V1 := Lib.hid (P.b4.cell 0)
    have HQ := Lib.hid P.below
    have U0 := Lib.hid ((AD.out.b3.far (p := ⟨w.heap.size + 1, 0, none⟩) (by show w.heap.size + 1 + 1 + 1 ≠ w.heap.size + 1; omega) (.int .i64 v)).cell 0)
    have U1 := Lib.hid ((AD.out.b4.far (p := ⟨w.heap.size + 1, 0, none⟩) (by show w.heap.size + 1 + 1 + 1 + 1 ≠ w.heap.size + 1; omega) (.int .i64 v)).cell 0)
    have E1 := Lib.hid ((AD.out.b2.far (p := ⟨w.heap.size + 1, 0, none⟩) (by show w.heap.size + 1 + 1 ≠ w.heap.size + 1; omega) (.int .i64 v)).cell 0)
    have E2 := Lib.hid ((AD.out.b2.far (p := ⟨w.heap.size + 1, 0, none⟩) (by show w.heap.size + 1 + 1 ≠ w.heap.size + 1; omega) (.int .i64 v)).free 0)
    have DW := Lib.hid (show w.heap.size ≤ w3.heap.size from by have := Z3.out; omega)
    clear P hj ha hs hK hdr KW
    go_upto_region 7 with fail
    refine wp_region_held_drew (S := fun ws => ws.cell? ⟨w.heap.size + 1 + 1 + 1, 0, none⟩ = some (.int .i64 v) ∧ ws.cell? ⟨w.heap.size + 1 + 1 + 1 + 1, 0, none⟩ = some (.bool s)) (by kernel_rfl) ⟨AD.out.b3.cell 0, AD.out.b4.cell 0⟩ (fun hHeld => ?_)
    generalize W.drew = wd at *
    refine wpAnyH_take (i := 0) (v := ?_) rfl (by kernel_rfl) (by kernel_rfl) (by kernel_rfl) (fun _ _ _ h => h) (Or.inl ⟨by rfl, ?_⟩) (by assumption) ?_
    rotate_left
    · (intro w hSw; (try dsimp only at hSw); first | (go_simp; done) | (go_simp; with_reducible rfl))
    simp only [Act.put, List.getElem_toArray, List.getElem_cons_zero, List.getElem_cons_succ, List.setIfInBounds_toArray, List.set_cons_zero, List.set_cons_succ]
    refine wpAnyH_take (i := 1) (v := ?_) rfl (by kernel_rfl) (by kernel_rfl) (by kernel_rfl) (fun _ _ _ h => h) (Or.inl ⟨by rfl, ?_⟩) (by assumption) ?_
    rotate_left
    · (intro w hSw; (try dsimp only at hSw); first | (go_simp; done) | (go_simp; with_reducible rfl))
    simp only [Act.put, List.getElem_toArray, List.getElem_cons_zero, List.getElem_cons_succ, List.setIfInBounds_toArray, List.set_cons_zero, List.set_cons_succ]
    have r0 := AD.out.b1.cell 0
    have f0 := AD.out.b1.free 0
    refine wpAnyH_ready (rs := [2]) (by kernel_rfl) (by simp) ?_
    refine AllReadyH.cons rfl (fun K hK => ?_) AllReadyH.nil
    go_simp
    refine hK.out _ _ ⟨U0.out, U1.out⟩ (fun hHeld2 => ?_)
    clear hK K hHeld r0 f0
    have r1 := E1.out
    have f1 := E2.out
    refine wpAnyH_ready (rs := [3]) (by kernel_rfl) (by simp) ?_
    refine AllReadyH.cons rfl (fun K hK => ?_) AllReadyH.nil
    go_simp
    refine hK.out _ _ ⟨V0.out, V1.out⟩ (fun hHeld3 => ?_)
    clear hK K hHeld2 r1 f1
    refine wpAnyH_done (by kernel_rfl) ?_ _
    clear hHeld3
    go_wp2_with fail
    refine ⟨by simp, .inl ⟨_, _, rfl, run_takeDeferred KD.out, ?_⟩⟩
    have hc0 := cell_kept G0.out (grownBy_putObj' _ w3.heap.size (.deferred none)) (fun r e => by cases e; exact ⟨_, KD.out, rfl⟩)
    have hc1 := cell_kept G1.out (grownBy_putObj' _ w3.heap.size (.deferred none)) (fun r e => by cases e; exact ⟨_, KD.out, rfl⟩)
    refine ⟨.tuple #[.int .i64 v, .bool s], ?_, ⟨_, _, rfl, HR.out⟩, HQ.out.trans (belowK_b (w := w) (Nat.le_refl _) _ w3.heap.size _ _ DW.out KD.out rfl rfl)⟩
    simp [results, Try.f19, go_sem, hc0, hc1]
  case stop =>
    rintro c W ⟨rfl, hr, v, s, ha⟩ hs hK
    refine wpIn_wide.2 ?_
    have HR := Lib.hid hr
    have KD := Lib.hid hK
    have G0 := Lib.hid (ha.b1.cell 0)
    have G1 := Lib.hid (ha.b2.cell 0)
    have HQ := Lib.hid ha.below
    have DW := Lib.hid (show w.heap.size ≤ w3.heap.size from by have := Z3.out; omega)
    clear hr ha hs hK
    go_wp2_with fail
    refine ⟨by simp, .inl ⟨_, _, rfl, run_takeDeferred KD.out, ?_⟩⟩
    have hc0 := cell_kept G0.out (grownBy_putObj' _ w3.heap.size (.deferred none)) (fun r e => by cases e; exact ⟨_, KD.out, rfl⟩)
    have hc1 := cell_kept G1.out (grownBy_putObj' _ w3.heap.size (.deferred none)) (fun r e => by cases e; exact ⟨_, KD.out, rfl⟩)
    refine ⟨.tuple #[.int .i64 0, .bool false], ?_, ⟨_, _, rfl, HR.out⟩, HQ.out.trans (belowK_b (w := w) (Nat.le_refl _) _ w3.heap.size _ _ DW.out KD.out rfl rfl)⟩
    simp [results, Try.f19, go_sem, hc0, hc1]
end Go.Proofs.Ytpfnkmlfpkjkpaa.qd
