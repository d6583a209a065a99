/-
  Quads: At, Any.
-/
import Derived.Test.YtpfnkmlfpkjkpaaQdO
import Derived.Test.YtpfnkmlfpkjkpaaBase2
namespace Go.Proofs.Ytpfnkmlfpkjkpaa.qd
open Go.RowKit Go.Shelf
open base (ret_bool ret_int made up Blk Only)
open rect rgm
set_option linter.unusedVariables false
set_option linter.unusedSimpArgs false
attribute [local go_sem] Oper.semAt_some

def hv : List Lf → Nat
  | [] => 0
  | d :: _ => d.2.2.2
/-- two boxes of a call's own -/
structure AS (w : World) (v : Int) (o : Bool) (W : World) : Prop where
  b0 : Blk W w.heap.size 3 #[.int .i64 v]
  b1 : Blk W (w.heap.size + 1) 4 #[.bool o]
  below : Below w.heap.size w W
section
variable {w W W' : World} {v : Int} {o : Bool}
theorem AS.only {T : Nat → Prop} (h : AS w v o W) (ho : Only T W W') (hT : ∀ k, k < w.heap.size + 2 → ¬ T k) : AS w v o W' :=
  ⟨h.b0.only ho (hT _ (by omega)), h.b1.only ho (hT _ (by omega)), h.below.trans (Only.to_below ho (fun i hi => hT i (by omega)) h.below.size)⟩
theorem AS.put (h : AS w v o W) (v' : Int) (o' : Bool) : AS w v' o' ((W.setCell ⟨w.heap.size, 0, none⟩ (.int .i64 v')).setCell ⟨w.heap.size + 1, 0, none⟩ (.bool o')) := by
  refine ⟨((h.b0.put 0 _).far (p := ⟨w.heap.size + 1, 0, none⟩) (by show w.heap.size ≠ w.heap.size + 1; omega) _), ((h.b1.far (p := ⟨w.heap.size, 0, none⟩) (by show w.heap.size + 1 ≠ w.heap.size; omega) _).put 0 _), (h.below.setCell (p := ⟨w.heap.size, 0, none⟩) (by show w.heap.size ≤ w.heap.size; omega) _).setCell (p := ⟨w.heap.size + 1, 0, none⟩) (by show w.heap.size ≤ w.heap.size + 1; omega) _⟩
theorem as_only (W : World) (b : Nat) (v : Value) (o : Value) : Only (fun j => j = b ∨ j = b + 1) W ((W.setCell ⟨b, 0, none⟩ v).setCell ⟨b + 1, 0, none⟩ o) :=
  ((Only.refl (fun j => j = b ∨ j = b + 1) W).setCell (p := ⟨b, 0, none⟩) (.inl (.inl rfl)) _).setCell (p := ⟨b + 1, 0, none⟩) (.inl (.inr rfl)) _
end
set_option maxRecDepth 100000 in
set_option maxHeartbeats 4000000 in
theorem at_any (g k : Nat) (q : Q) (x y : Int) (w : World) (h : QAt w g k q) : Calls Try.prog 12 #[.pointer (some ⟨g, 0, none⟩), .int .i64 x, .int .i64 y] w fun e w' => e = .returned (.tuple #[.int .i64 (hv (lv q k 0 0 x y 1 1) : Nat), .bool !(lv q k 0 0 x y 1 1).isEmpty]) ∧ Below w.heap.size w w' := by
  obtain ⟨w2, hw2⟩ : ∃ w2, (w.alloc (.cells #[.int .i64 0] 3)).alloc (.cells #[.bool false] 4) = w2 := ⟨_, rfl⟩
  have A0 : AS w 0 false w2 := by
    rw [← hw2]
    refine ⟨(Blk.new _ _ _).alloc _, ?_, (made w _).alloc (by rw [asz]; omega) _⟩
    have := Blk.new (w.alloc (.cells #[.int .i64 0] 3)) 4 #[.bool false]
    rw [asz] at this
    exact this
  have Z2 := Lib.hid (show w2.heap.size = w.heap.size + 2 by rw [← hw2, asz, asz])
  have A2 := Lib.hid A0
  have LM := Lib.hid (leaves_make g x y 1 1 w2)
  have Q2 := Lib.hid (h.below A0.below)
  have GW := Lib.hid (And.intro h.lt (show ∀ m, q.blocks m → m < w.heap.size from fun m e => h.is.blk_lt e))
  clear A0 h
  refine (callsIn_wide (n := 3)).1 ?_
  refine callsIn_of_wp_marks Try.func12 rfl trivial ?_ rfl
  simp only [Try.ntmps12, List.size_toArray, List.length_cons, List.length_nil, Nat.reduceAdd, Nat.reduceSub, Array.replicate_succ, Array.replicate_zero, List.push_toArray, List.append_toArray, List.nil_append, List.cons_append]
  refine wpIn_wide.2 (calm_wp ?_)
  go_upto_region 1 with fail
  try simp only [hw2]
  clear hw2
  go_wp2_with fail
  refine LM.out.mono ?_
  rintro e w3 ⟨rfl, hx3, hb3⟩
  have X3 := Lib.hid hx3
  have A3 := Lib.hid (A2.out.only (T := fun k => w2.heap.size ≤ k) ((Only.refl _ w2).below hb3 (fun i hi h => h)) (fun k hk => by have := Z2.out; omega))
  have Q3 := Lib.hid (Q2.out.below hb3)
  have Z3 := Lib.hid (show w.heap.size + 2 ≤ w3.heap.size from by have := Z2.out; have := hb3.size; omega)
  clear hx3 hb3 LM A2 Q2
  go_wp2_with fail
  refine (wpIn_wide (n := 3)).1 ?_
  refine' wp_leaves5 w2.heap.size g k q x y 1 1 rfl rfl X3.out Q3.out (fun m W => m = 0 ∧ AS w 0 false W) (fun c W => c = .ret ∧ lv q k 0 0 x y 1 1 ≠ [] ∧ AS w (hv (lv q k 0 0 x y 1 1) : Nat) true W) (fun j => j = w.heap.size ∨ j = w.heap.size + 1) _ ?hS ⟨rfl, A3.out⟩ ?hJs ?hEs ?assign ?body ?done ?stop
  case hS =>
    have z2 := Z2.out
    have z3 := Z3.out
    have gw := GW.out.1
    have hbl : ∀ j, w.heap.size ≤ j → ¬ q.blocks j := fun j hj e => by have := GW.out.2 j e; omega
    rintro j (rfl | rfl)
    · exact ⟨by omega, by omega, hbl _ (by omega), by omega, by omega⟩
    · exact ⟨by omega, by omega, hbl _ (by omega), by omega, by omega⟩
  case hJs =>
    rintro m W W' ⟨h1, h2⟩ ho
    exact ⟨h1, h2.only ho (fun k hk => by have := Z3.out; omega)⟩
  case hEs =>
    rintro c W W' ⟨h1, h2, h3⟩ ho
    exact ⟨h1, h2, h3.only ho (fun k hk => by have := Z3.out; omega)⟩
  case assign =>
    intro d W K hK
    simp only [Lf.args, List.zip_toArray, List.zip_cons_cons, List.zip_nil_right, List.foldl_toArray, List.foldl_cons, List.foldl_nil, List.setIfInBounds_toArray, List.set_cons_succ, List.set_cons_zero]
    gi_wp2
    exact hK
  case body =>
    rintro m d Wc hm hd ⟨rfl, ha⟩ hlt
    have hv_ : hv (lv q k 0 0 x y 1 1) = d.2.2.2 ∧ lv q k 0 0 x y 1 1 ≠ [] := by
      cases hL : lv q k 0 0 x y 1 1 with
      | nil => rw [hL] at hm; exact absurd hm (Nat.lt_irrefl _)
      | cons e l =>
        rw [hL] at hd
        subst hd
        exact ⟨rfl, by simp⟩
    obtain ⟨d1, d2, d3, d4⟩ := d
    dsimp only at hv_
    have FIN := Lib.hid (show lv q k 0 0 x y 1 1 ≠ [] ∧ AS w (hv (lv q k 0 0 x y 1 1) : Nat) true _ from ⟨hv_.2, by rw [hv_.1]; exact ha.put (d4 : Nat) true⟩)
    have c0 := ha.b0.cell 0
    have c1 := ha.b1.cell 0
    have f0 := ha.b0.free 0
    have f1 := ha.b1.free 0
    clear hv_ hm hd ha hlt
    gi_wp2
    exact ⟨as_only _ _ _ _, rfl, FIN.out⟩
  case done =>
    rintro W ⟨hl, ha⟩ hs hK
    have HE := Lib.hid (List.length_eq_zero_iff.1 hl)
    have P := ha.put 0 false
    have KD := Lib.hid (((KeepsOthers.setCell W ⟨w.heap.size, 0, none⟩ (.int .i64 0)).same w3.heap.size _ hK rfl))
    have KD := Lib.hid ((KeepsOthers.setCell _ ⟨w.heap.size + 1, 0, none⟩ (.bool false)).same w3.heap.size _ KD.out rfl)
    have G0 := Lib.hid (P.b0.cell 0)
    have G1 := Lib.hid (P.b1.cell 0)
    have HQ := Lib.hid P.below
    have DW := Lib.hid (show w.heap.size ≤ w3.heap.size from by have := Z3.out; omega)
    have c0 := ha.b0.cell 0
    have c1 := ha.b1.cell 0
    have f0 := ha.b0.free 0
    have f1 := ha.b1.free 0
    clear P hl ha hs hK
    go_wp2_with fail
    refine ⟨by simp, .inl ⟨_, _, rfl, run_takeDeferred KD.out, ?_⟩⟩
    have hc0 := cell_kept G0.out (grownBy_putObj' _ w3.heap.size (.deferred none)) (fun r e => by cases e; exact ⟨_, KD.out, rfl⟩)
    have hc1 := cell_kept G1.out (grownBy_putObj' _ w3.heap.size (.deferred none)) (fun r e => by cases e; exact ⟨_, KD.out, rfl⟩)
    refine ⟨.tuple #[.int .i64 0, .bool false], ?_, by rw [HE.out]; rfl, HQ.out.trans (belowK_b (w := w) (Nat.le_refl _) _ w3.heap.size _ _ DW.out KD.out rfl rfl)⟩
    simp [results, Try.f12, go_sem, hc0, hc1]
  case stop =>
    rintro c W ⟨rfl, hne, ha⟩ hs hK
    refine wpIn_wide.2 ?_
    have HE := Lib.hid hne
    have KD := Lib.hid hK
    have G0 := Lib.hid (ha.b0.cell 0)
    have G1 := Lib.hid (ha.b1.cell 0)
    have HQ := Lib.hid ha.below
    have DW := Lib.hid (show w.heap.size ≤ w3.heap.size from by have := Z3.out; omega)
    clear hne ha hs hK
    go_wp2_with fail
    refine ⟨by simp, .inl ⟨_, _, rfl, run_takeDeferred KD.out, ?_⟩⟩
    have hc0 := cell_kept G0.out (grownBy_putObj' _ w3.heap.size (.deferred none)) (fun r e => by cases e; exact ⟨_, KD.out, rfl⟩)
    have hc1 := cell_kept G1.out (grownBy_putObj' _ w3.heap.size (.deferred none)) (fun r e => by cases e; exact ⟨_, KD.out, rfl⟩)
    refine ⟨.tuple #[.int .i64 (hv (lv q k 0 0 x y 1 1) : Nat), .bool true], ?_, ?_, HQ.out.trans (belowK_b (w := w) (Nat.le_refl _) _ w3.heap.size _ _ DW.out KD.out rfl rfl)⟩
    · simp [results, Try.f12, go_sem, hc0, hc1]
    · have : (lv q k 0 0 x y 1 1).isEmpty = false := by
        rw [← Bool.not_eq_true, List.isEmpty_iff]; exact HE.out
      rw [this]; rfl
end Go.Proofs.Ytpfnkmlfpkjkpaa.qd
