/-
  Quads: the leaves that a quad hands on.
-/
import Derived.Test.YtpfnkmlfpkjkpaaQdM
namespace Go.Proofs.Ytpfnkmlfpkjkpaa.qd
open Go.RowKit Go.Shelf
open base (ret_bool ret_int made up Blk Only)
open rect rgm
set_option linter.unusedVariables false
set_option linter.unusedSimpArgs false
attribute [local go_sem] Oper.semAt_some

/-- the boxes of leaves$1, from block B on -/
structure LBox (B g : Nat) (a b c d : Int) (W : World) : Prop where
  qb : Blk W B 25 #[.pointer (some ⟨g, 0, none⟩)]
  rb : Blk W (B + 1) 42 #[.int .i64 a, .int .i64 b, .int .i64 c, .int .i64 d]
section
variable {B g : Nat} {a b c d : Int} {W W' : World}
theorem LBox.only {T : Nat → Prop} (h : LBox B g a b c d W) (ho : Only T W W') (h1 : ¬ T B) (h2 : ¬ T (B + 1)) : LBox B g a b c d W' := ⟨h.qb.only ho h1, h.rb.only ho h2⟩
theorem LBox.below (h : LBox B g a b c d W) (hb : Below W.heap.size W W') : LBox B g a b c d W' := ⟨h.qb.below hb h.qb.lt, h.rb.below hb h.rb.lt⟩
end
set_option maxHeartbeats 2000000 in
theorem leaves_make (g : Nat) (a b c d : Int) (w : World) : Calls Try.prog 30 #[.pointer (some ⟨g, 0, none⟩), (.agg #[.int .i64 a, .int .i64 b, .int .i64 c, .int .i64 d])] w fun e w' => e = .returned (.func (.func 42) #[] #[.pointer (some ⟨w.heap.size, 0, none⟩), .pointer (some ⟨w.heap.size + 1, 0, none⟩)]) ∧ LBox w.heap.size g a b c d w' ∧ Below w.heap.size w w' := by
  have hm := Lib.hid (show Below w.heap.size w ((w.alloc (.cells #[.pointer (some ⟨g, 0, none⟩)] 25)).alloc (.cells #[.int .i64 a, .int .i64 b, .int .i64 c, .int .i64 d] 42)) from (made w _).alloc (by rw [asz]; omega) _)
  have bx := Lib.hid (show LBox w.heap.size g a b c d ((w.alloc (.cells #[.pointer (some ⟨g, 0, none⟩)] 25)).alloc (.cells #[.int .i64 a, .int .i64 b, .int .i64 c, .int .i64 d] 42)) from ⟨(Blk.new _ _ _).alloc _, by
    have := Blk.new (w.alloc (.cells #[.pointer (some ⟨g, 0, none⟩)] 25)) 42 #[.int .i64 a, .int .i64 b, .int .i64 c, .int .i64 d]
    rw [asz] at this
    exact this⟩)
  go_enter Try.func30, Try.ntmps30
  go_wp2_with fail
  go_ret
  exact ⟨rfl, bx.out, hm.out⟩
set_option maxHeartbeats 2000000 in
theorem squares_make (g k : Nat) (q : Q) (w : World) (h : QAt w g k q) : Calls Try.prog 14 #[.pointer (some ⟨g, 0, none⟩)] w fun e w' => ∃ B, e = .returned (.func (.func 42) #[] #[.pointer (some ⟨B, 0, none⟩), .pointer (some ⟨B + 1, 0, none⟩)]) ∧ w.heap.size ≤ B ∧ LBox B g 0 0 ((2 ^ k : Nat) : Int) ((2 ^ k : Nat) : Int) w' ∧ Below w.heap.size w w' := by
  have CB := Lib.hid (box_any g ((2 ^ k : Nat) : Int) w h.c0)
  clear h
  go_enter Try.func14, Try.ntmps14
  go_wp2_with fail
  refine CB.out.mono ?_
  rintro e w1 ⟨rfl, hb1⟩
  have H1 := Lib.hid hb1
  clear hb1
  have LM := Lib.hid (leaves_make g 0 0 ((2 ^ k : Nat) : Int) ((2 ^ k : Nat) : Int) w1)
  go_wp2_with fail
  refine LM.out.mono ?_
  rintro e w2 ⟨rfl, hx, hb2⟩
  have FIN := Lib.hid (And.intro H1.out.size (And.intro hx (up H1.out hb2 H1.out.size)))
  clear hb2 hx LM
  go_wp2_with fail
  go_ret
  exact ⟨_, rfl, FIN.out⟩
set_option maxRecDepth 100000 in
set_option maxHeartbeats 4000000 in
theorem leaves_it (B g k : Nat) (q : Q) (a b c d : Int) (l B0 : Nat) (J : Nat → World → Prop) (X : World → Prop) (S : Nat → Prop) (W : World)
    (hx : LBox B g a b c d W) (hq : QAt W g k q) (hS : ∀ j, S j → j < B0 ∧ j ≠ g ∧ ¬ q.blocks j ∧ j ≠ B ∧ j ≠ B + 1) (hB : B0 ≤ W.heap.size) (hj : J 0 W)
    (hJa : ∀ m W W', J m W → Below W.heap.size W W' → J m W')
    (hY : ∀ m W', m < (lv q k 0 0 a b c d).length → J m W' → YieldAt Fence.wide 0 Try.prog l ((lv q k 0 0 a b c d).getD m (0, 0, 0, 0)).args W' (WalkR J X S (m + 1) W')) :
    Calls Try.prog 42 #[.func (.yield l) #[] #[], .pointer (some ⟨B, 0, none⟩), .pointer (some ⟨B + 1, 0, none⟩)] W fun e W' => (∃ v, e = .returned v) ∧ (J (lv q k 0 0 a b c d).length W' ∨ X W') := by
  have WK := Lib.hid (fun (W' : World) (h : QAt W' g k q) (hB : B0 ≤ W'.heap.size) (hj : J 0 W') => walk_ok k q g 1 0 0 a b c d l B0 0 J X S W' h.is h.fits h.box (fun j hj => ⟨(hS j hj).1, (hS j hj).2.1, (hS j hj).2.2.1⟩) hB hj hJa (fun m W' h1 h2 => by
    rw [Nat.zero_add] at h2 ⊢
    exact hY m W' h1 h2))
  have hd := Below.refl W.heap.size W
  have hd1 : Below W.heap.size W W.drew := hd.drew
  have JD := Lib.hid (hJa _ _ _ hj hd1)
  have QD := Lib.hid (hq.below hd1)
  have XD := Lib.hid (hx.below hd1)
  have JA := Lib.hid hJa
  have HB := Lib.hid (show B0 ≤ W.drew.heap.size from Nat.le_trans hB hd1.size)
  have SS := Lib.hid hS
  have CB := Lib.hid (fun (W : World) (hc : W.cell? ⟨g, 0, none⟩ = some (.int .i64 ((2 ^ k : Nat) : Int))) => box_any g ((2 ^ k : Nat) : Int) W hc)
  clear hx hq hS hB hj hJa hY hd hd1
  go_enter Try.func42, Try.ntmps42
  go_upto_region 0 with fail
  refine wp_region_held_drew (S := fun ws => ws.cell? ⟨B, 0, none⟩ = some (.pointer (some ⟨g, 0, none⟩)) ∧ ws.cell? ⟨B + 1, 0, none⟩ = some (.int .i64 a) ∧ ws.cell? ⟨B + 1, 1, none⟩ = some (.int .i64 b) ∧ ws.cell? ⟨B + 1, 2, none⟩ = some (.int .i64 c) ∧ ws.cell? ⟨B + 1, 3, none⟩ = some (.int .i64 d)) (by kernel_rfl) ⟨XD.out.qb.cell 0, XD.out.rb.four⟩ (fun hHeld => ?_)
  generalize W.drew = wd at *
  refine wpAnyH_take (i := 0) (v := ?_) rfl (by kernel_rfl) (by kernel_rfl) (by kernel_rfl) (fun _ _ _ h => h) (Or.inl ⟨by rfl, ?_⟩) (by assumption) ?_
  rotate_left
  · (intro w hSw; (try dsimp only at hSw); first | (go_simp; done) | (go_simp; with_reducible rfl))
  simp only [Act.put, List.getElem_toArray, List.getElem_cons_zero, List.getElem_cons_succ, List.setIfInBounds_toArray, List.set_cons_zero, List.set_cons_succ]
  refine wpAnyH_take (i := 1) (v := ?_) rfl (by kernel_rfl) (by kernel_rfl) (by kernel_rfl) (fun _ _ _ h => h) (Or.inl ⟨by rfl, ?_⟩) (by assumption) ?_
  rotate_left
  · (intro w hSw; (try dsimp only at hSw); first | (go_simp; done) | (go_simp; with_reducible rfl))
  simp only [Act.put, List.getElem_toArray, List.getElem_cons_zero, List.getElem_cons_succ, List.setIfInBounds_toArray, List.set_cons_zero, List.set_cons_succ]
  refine wpAnyH_take (i := 2) (v := ?_) rfl (by kernel_rfl) (by kernel_rfl) (by kernel_rfl) (fun _ _ _ h => h) (Or.inl ⟨by rfl, ?_⟩) (by assumption) ?_
  rotate_left
  · (intro w hSw; (try dsimp only at hSw); first | (go_simp; done) | (go_simp; with_reducible rfl))
  simp only [Act.put, List.getElem_toArray, List.getElem_cons_zero, List.getElem_cons_succ, List.setIfInBounds_toArray, List.set_cons_zero, List.set_cons_succ]
  refine wpAnyH_take (i := 3) (v := ?_) rfl (by kernel_rfl) (by kernel_rfl) (by kernel_rfl) (fun _ _ _ h => h) (Or.inl ⟨by rfl, ?_⟩) (by assumption) ?_
  rotate_left
  · (intro w hSw; (try dsimp only at hSw); first | (go_simp; done) | (go_simp; with_reducible rfl))
  simp only [Act.put, List.getElem_toArray, List.getElem_cons_zero, List.getElem_cons_succ, List.setIfInBounds_toArray, List.set_cons_zero, List.set_cons_succ]
  refine wpAnyH_take (i := 5) (v := ?_) rfl (by kernel_rfl) (by kernel_rfl) (by kernel_rfl) (fun _ _ _ h => h) (Or.inl ⟨by rfl, ?_⟩) (by assumption) ?_
  rotate_left
  · (intro w hSw; (try dsimp only at hSw); first | (go_simp; done) | (go_simp; with_reducible rfl))
  simp only [Act.put, List.getElem_toArray, List.getElem_cons_zero, List.getElem_cons_succ, List.setIfInBounds_toArray, List.set_cons_zero, List.set_cons_succ]
  refine wpAnyH_take (i := 6) (v := ?_) rfl (by kernel_rfl) (by kernel_rfl) (by kernel_rfl) (fun _ _ _ h => h) (Or.inl ⟨by rfl, ?_⟩) (by assumption) ?_
  rotate_left
  · (intro w hSw; (try dsimp only at hSw); first | (go_simp; done) | (go_simp; with_reducible rfl))
  simp only [Act.put, List.getElem_toArray, List.getElem_cons_zero, List.getElem_cons_succ, List.setIfInBounds_toArray, List.set_cons_zero, List.set_cons_succ]
  refine wpAnyH_ready (rs := [4]) (by kernel_rfl) (by simp) ?_
  refine AllReadyH.cons rfl (fun K hK => ?_) AllReadyH.nil
  go_simp
  refine (CB.out _ QD.out.c0).mono ?_
  rintro e w3 ⟨rfl, hb3⟩
  have X3 := Lib.hid (XD.out.below hb3)
  have Q3 := Lib.hid (QD.out.below hb3)
  have J3 := Lib.hid (JA.out _ _ _ JD.out hb3)
  have B3 := Lib.hid (Nat.le_trans HB.out hb3.size)
  refine hK.out _ _ ⟨X3.out.qb.cell 0, X3.out.rb.four⟩ (fun hHeld2 => ?_)
  clear hK K hHeld hb3
  refine wpAnyH_ready (rs := [7]) (by kernel_rfl) (by simp) ?_
  refine AllReadyH.cons rfl (fun K hK => ?_) AllReadyH.nil
  go_simp
  refine (WK.out _ Q3.out B3.out J3.out).mono ?_
  rintro e w7 (⟨rfl, hj7, ho7⟩ | ⟨rfl, hx7, ho7⟩)
  · have X7 := X3.out.only ho7 (fun e => (SS.out _ e).2.2.2.1 rfl) (fun e => (SS.out _ e).2.2.2.2 rfl)
    rw [Nat.zero_add] at hj7
    have J7 := Lib.hid hj7
    refine hK.out _ _ ⟨X7.qb.cell 0, X7.rb.four⟩ (fun hHeld => ?_)
    clear hK K hHeld2 hj7 ho7 X7
    refine wpAnyH_done (by kernel_rfl) ?_ _
    clear hHeld
    go_wp2_with fail
    go_end0
    exact ⟨⟨_, rfl⟩, .inl J7.out⟩
  · have X7 := X3.out.only ho7 (fun e => (SS.out _ e).2.2.2.1 rfl) (fun e => (SS.out _ e).2.2.2.2 rfl)
    have J7 := Lib.hid hx7
    refine hK.out _ _ ⟨X7.qb.cell 0, X7.rb.four⟩ (fun hHeld => ?_)
    clear hK K hHeld2 hx7 ho7 X7
    refine wpAnyH_done (by kernel_rfl) ?_ _
    clear hHeld
    go_wp2_with fail
    go_end0
    exact ⟨⟨_, rfl⟩, .inr J7.out⟩
end Go.Proofs.Ytpfnkmlfpkjkpaa.qd
