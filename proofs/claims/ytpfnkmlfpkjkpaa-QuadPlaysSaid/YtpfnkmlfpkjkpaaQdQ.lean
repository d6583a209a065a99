/-
  Quads: Any.
-/
import Derived.Test.YtpfnkmlfpkjkpaaQdP
import Derived.Test.YtpfnkmlfpkjkpaaBase2
namespace Go.Proofs.Ytpfnkmlfpkjkpaa.qd
open Go.RowKit Go.Shelf
open base (ret_bool ret_int made up Blk Only)
open rect rgm
set_option linter.unusedVariables false
set_option linter.unusedSimpArgs false
attribute [local go_sem] Oper.semAt_some

/-- the boxes of a call of Any -/
structure YS (w : World) (a b c d v : Int) (o : Bool) (W : World) : Prop where
  b0 : Blk W w.heap.size 42 #[.int .i64 a, .int .i64 b, .int .i64 c, .int .i64 d]
  b1 : Blk W (w.heap.size + 1) 3 #[.int .i64 v]
  b2 : Blk W (w.heap.size + 1 + 1) 4 #[.bool o]
  below : Below w.heap.size w W
section
variable {w W W' : World} {a b c d v : Int} {o : Bool}
theorem YS.only {T : Nat → Prop} (h : YS w a b c d v o W) (ho : Only T W W') (hT : ∀ k, k < w.heap.size + 3 → ¬ T k) : YS w a b c d v o W' :=
  ⟨h.b0.only ho (hT _ (by omega)), h.b1.only ho (hT _ (by omega)), h.b2.only ho (hT _ (by omega)), h.below.trans (Only.to_below ho (fun i hi => hT i (by omega)) h.below.size)⟩
theorem YS.put (h : YS w a b c d v o W) (o' : Bool) : YS w a b c d v o' (W.setCell ⟨w.heap.size + 1 + 1, 0, none⟩ (.bool o')) := by
  refine ⟨h.b0.far (p := ⟨w.heap.size + 1 + 1, 0, none⟩) (by show w.heap.size ≠ w.heap.size + 1 + 1; omega) _, h.b1.far (p := ⟨w.heap.size + 1 + 1, 0, none⟩) (by show w.heap.size + 1 ≠ w.heap.size + 1 + 1; omega) _, h.b2.put 0 _, h.below.setCell (p := ⟨w.heap.size + 1 + 1, 0, none⟩) (by show w.heap.size ≤ w.heap.size + 1 + 1; omega) _⟩
theorem one_only (W : World) (b : Nat) (v : Value) : Only (fun j => j = b) W (W.setCell ⟨b, 0, none⟩ v) := (Only.refl (fun j => j = b) W).setCell (p := ⟨b, 0, none⟩) (.inl rfl) _
end
def anyV (v : Int) (L : List Lf) : Bool := L.any (fun e => decide ((e.2.2.2 : Int) = v))
theorem anyV_no {v : Int} {L : List Lf} (h : ∀ m, m < L.length → ((L.getD m dfl).2.2.2 : Int) ≠ v) : anyV v L = false := by
  unfold anyV
  rw [List.any_eq_false]
  intro e he
  obtain ⟨m, hm, rfl⟩ := List.mem_iff_getElem.1 he
  have := h m hm
  rw [List.getD_eq_getElem?_getD, List.getElem?_eq_getElem hm, Option.getD_some] at this
  simpa using this
theorem anyV_yes {v : Int} {L : List Lf} {m : Nat} (hm : m < L.length) (h : ((L.getD m dfl).2.2.2 : Int) = v) : anyV v L = true := by
  unfold anyV
  rw [List.any_eq_true]
  refine ⟨L[m], List.getElem_mem hm, ?_⟩
  rw [List.getD_eq_getElem?_getD, List.getElem?_eq_getElem hm, Option.getD_some] at h
  simpa using h
set_option maxRecDepth 100000 in
set_option maxHeartbeats 4000000 in
theorem any_any (g k : Nat) (q : Q) (a b c d v : Int) (w : World) (h : QAt w g k q) : Calls Try.prog 20 #[.pointer (some ⟨g, 0, none⟩), (.agg #[.int .i64 a, .int .i64 b, .int .i64 c, .int .i64 d]), .int .i64 v] w fun e w' => e = .returned (.bool (anyV v (lv q k 0 0 a b c d))) ∧ Below w.heap.size w w' := by
  obtain ⟨w2, hw2⟩ : ∃ w2, ((w.alloc (.cells #[.int .i64 a, .int .i64 b, .int .i64 c, .int .i64 d] 42)).alloc (.cells #[.int .i64 v] 3)).alloc (.cells #[.bool false] 4) = w2 := ⟨_, rfl⟩
  have A0 : YS w a b c d v false w2 := by
    rw [← hw2]
    refine ⟨((Blk.new _ _ _).alloc _).alloc _, ?_, ?_, ((made w _).alloc (by rw [asz]; omega) _).alloc (by rw [asz, asz]; omega) _⟩
    · have := (Blk.new (w.alloc (.cells #[.int .i64 a, .int .i64 b, .int .i64 c, .int .i64 d] 42)) 3 #[.int .i64 v]).alloc (.cells #[.bool false] 4)
      rw [asz] at this
      exact this
    · have := Blk.new ((w.alloc (.cells #[.int .i64 a, .int .i64 b, .int .i64 c, .int .i64 d] 42)).alloc (.cells #[.int .i64 v] 3)) 4 #[.bool false]
      rw [asz, asz] at this
      exact this
  have Z2 := Lib.hid (show w2.heap.size = w.heap.size + 3 by rw [← hw2, asz, asz, asz])
  have A2 := Lib.hid A0
  have LM := Lib.hid (leaves_make g a b c d w2)
  have Q2 := Lib.hid (h.below A0.below)
  have GW := Lib.hid (And.intro h.lt (show ∀ m, q.blocks m → m < w.heap.size from fun m e => h.is.blk_lt e))
  obtain ⟨x0, x1, x2, x3⟩ := A0.b0.four
  clear A0 h
  refine (callsIn_wide (n := 3)).1 ?_
  refine callsIn_of_wp_marks Try.func20 rfl trivial ?_ rfl
  simp only [Try.ntmps20, List.size_toArray, List.length_cons, List.length_nil, Nat.reduceAdd, Nat.reduceSub, Array.replicate_succ, Array.replicate_zero, List.push_toArray, List.append_toArray, List.nil_append, List.cons_append]
  refine wpIn_wide.2 (calm_wp ?_)
  go_upto_region 1 with fail
  try simp only [hw2]
  clear hw2
  go_wp2_with fail
  refine LM.out.mono ?_
  rintro e w3 ⟨rfl, hx3, hb3⟩
  have X3 := Lib.hid hx3
  have A3 := Lib.hid (A2.out.only (T := fun k => w2.heap.size ≤ k) ((Only.refl _ w2).below hb3 (fun i hi h => h)) (fun k hk => by have := Z2.out; omega))
  have Q3 := Lib.hid (Q2.out.below hb3)
  have Z3 := Lib.hid (show w.heap.size + 3 ≤ w3.heap.size from by have := Z2.out; have := hb3.size; omega)
  clear hx3 hb3 LM A2 Q2 x0 x1 x2 x3
  go_wp2_with fail
  refine (wpIn_wide (n := 3)).1 ?_
  refine' wp_leaves5 w2.heap.size g k q a b c d rfl rfl X3.out Q3.out (fun m W => (∀ i, i < m → (((lv q k 0 0 a b c d).getD i dfl).2.2.2 : Int) ≠ v) ∧ YS w a b c d v false W) (fun c' W => c' = .ret ∧ anyV v (lv q k 0 0 a b c d) = true ∧ YS w a b c d v true W) (fun j => j = w.heap.size + 1 + 1) _ ?hS ⟨fun i hi => absurd hi (by omega), A3.out⟩ ?hJs ?hEs ?assign ?body ?done ?stop
  case hS =>
    have z2 := Z2.out
    have z3 := Z3.out
    have gw := GW.out.1
    have hbl : ∀ j, w.heap.size ≤ j → ¬ q.blocks j := fun j hj e => by have := GW.out.2 j e; omega
    rintro j rfl
    exact ⟨by omega, by omega, hbl _ (by omega), by omega, by omega⟩
  case hJs =>
    rintro m W W' ⟨h1, h2⟩ ho
    exact ⟨h1, h2.only ho (fun k hk => by have := Z3.out; omega)⟩
  case hEs =>
    rintro c W W' ⟨h1, h2, h3⟩ ho
    exact ⟨h1, h2, h3.only ho (fun k hk => by have := Z3.out; omega)⟩
  case assign =>
    intro d W K hK
    simp only [Lf.args, List.zip_toArray, List.zip_cons_cons, List.zip_nil_right, List.foldl_toArray, List.foldl_cons, List.foldl_nil, List.setIfInBounds_toArray, List.set_cons_succ, List.set_cons_zero]
    gi_wp2
    exact hK
  case body =>
    rintro m e Wc hm hd ⟨hno, ha⟩ hlt
    obtain ⟨d1, d2, d3, d4⟩ := e
    have c1 := ha.b1.cell 0
    have c2 := ha.b2.cell 0
    have f2 := ha.b2.free 0
    by_cases hv : (d4 : Int) = v
    · have FIN := Lib.hid (And.intro (anyV_yes (v := v) hm (by rw [hd]; exact hv)) (ha.put true))
      have q1 : ((d4 : Int) == v) = true := by simpa using hv
      have q2 : decide ((d4 : Int) = v) = true := by simpa using hv
      clear hv hm hd hno ha hlt
      gi_wp2
      exact ⟨one_only _ _ _, rfl, FIN.out⟩
    · have FIN := Lib.hid (show (∀ i, i < m + 1 → (((lv q k 0 0 a b c d).getD i dfl).2.2.2 : Int) ≠ v) ∧ YS w a b c d v false Wc from ⟨fun i hi => by
        rcases Nat.lt_succ_iff_lt_or_eq.1 hi with h | rfl
        · exact hno i h
        · rw [hd]; exact hv, ha⟩)
      have q1 : ((d4 : Int) == v) = false := by simpa using hv
      have q2 : decide ((d4 : Int) = v) = false := by simpa using hv
      clear hv hm hd hno ha hlt
      gi_wp2
      exact ⟨Only.refl _ _, FIN.out⟩
  case done =>
    rintro W ⟨hl, ha⟩ hs hK
    have HE := Lib.hid (anyV_no hl)
    have P := ha.put false
    have KD := Lib.hid (((KeepsOthers.setCell W ⟨w.heap.size + 1 + 1, 0, none⟩ (.bool false)).same w3.heap.size _ hK rfl))
    have G0 := Lib.hid (P.b2.cell 0)
    have HQ := Lib.hid P.below
    have DW := Lib.hid (show w.heap.size ≤ w3.heap.size from by have := Z3.out; omega)
    have c0 := ha.b2.cell 0
    have f0 := ha.b2.free 0
    clear P hl ha hs hK
    go_wp2_with fail
    refine ⟨by simp, .inl ⟨_, _, rfl, run_takeDeferred KD.out, ?_⟩⟩
    have hc0 := cell_kept G0.out (grownBy_putObj' _ w3.heap.size (.deferred none)) (fun r e => by cases e; exact ⟨_, KD.out, rfl⟩)
    refine ⟨.bool false, ?_, by rw [HE.out], HQ.out.trans (belowK_b (w := w) (Nat.le_refl _) _ w3.heap.size _ _ DW.out KD.out rfl rfl)⟩
    simp [results, Try.f20, go_sem, hc0]
  case stop =>
    rintro c W ⟨rfl, hne, ha⟩ hs hK
    refine wpIn_wide.2 ?_
    have HE := Lib.hid hne
    have KD := Lib.hid hK
    have G0 := Lib.hid (ha.b2.cell 0)
    have HQ := Lib.hid ha.below
    have DW := Lib.hid (show w.heap.size ≤ w3.heap.size from by have := Z3.out; omega)
    clear hne ha hs hK
    go_wp2_with fail
    refine ⟨by simp, .inl ⟨_, _, rfl, run_takeDeferred KD.out, ?_⟩⟩
    have hc0 := cell_kept G0.out (grownBy_putObj' _ w3.heap.size (.deferred none)) (fun r e => by cases e; exact ⟨_, KD.out, rfl⟩)
    refine ⟨.bool true, ?_, by rw [HE.out], HQ.out.trans (belowK_b (w := w) (Nat.le_refl _) _ w3.heap.size _ _ DW.out KD.out rfl rfl)⟩
    simp [results, Try.f20, go_sem, hc0]
end Go.Proofs.Ytpfnkmlfpkjkpaa.qd
