/-
  RectTiles: one may stop behind the first tile.
-/
import Derived.Test.YtognbljpmhhbkaaTilesB
namespace Go.Proofs.Ytognbljpmhhbkaa.tiles
open Go.RowKit Go.Shelf
open rect
open base (Blk Only up made)
set_option linter.unusedVariables false
set_option linter.unusedSimpArgs false
attribute [local go_sem] Oper.semAt_some

/-- A post without a panic. -/
def calm (Q : Exit → Act → World → Prop) : Exit → Act → World → Prop
  | .panic _, _, _ => False
  | e, a, w => Q e a w
theorem calm_ret (Q : Exit → Act → World → Prop) (a : Act) (w : World) : calm Q .ret a w = Q .ret a w := rfl
theorem calm_normal (Q : Exit → Act → World → Prop) (a : Act) (w : World) : calm Q .normal a w = Q .normal a w := rfl
theorem calm_wp {P : Program} {c : Code} {Q : Exit → Act → World → Prop} {a : Act} {w : World} (h : c.wp P (calm Q) a w) : c.wp P Q a w :=
  Code.wp_mono (fun e a w q => by cases e <;> first | exact q | exact False.elim q) h
theorem upto_one {x y u : Int} {k : Nat} {q : Int × Int} (h : [q] = upto x y u k) : q = (x, y) := by
  have hl := congrArg List.length h
  rw [upto_length] at hl
  simp at hl
  subst hl
  simp [upto, tile] at h
  exact h
set_option maxRecDepth 100000 in
set_option maxHeartbeats 2000000 in
theorem first_yes (x y u z : Int) (w : World) (hr : rightB x y u z = true) (N : Nat) (hN1 : 1 ≤ N) (hN : N ≤ 65536) (hNz : (N : Int) = u * z) : Calls Try.prog 17 #[(.agg #[.int .i64 x, .int .i64 y, .int .i64 u, .int .i64 z])] w fun e w' => e = .returned (.bool true) ∧ Below w.heap.size w w' := by
  have hm := made w (.cells #[.int .i64 x, .int .i64 y, .int .i64 u, .int .i64 z] 23)
  have hm2 : Below w.heap.size w ((w.alloc (.cells #[.int .i64 x, .int .i64 y, .int .i64 u, .int .i64 z] 23)).alloc (.cells #[.bool false] 4)) := hm.alloc (by rw [asz]; omega) _
  have bx : Blk ((w.alloc (.cells #[.int .i64 x, .int .i64 y, .int .i64 u, .int .i64 z] 23)).alloc (.cells #[.bool false] 4)) w.heap.size 23 #[.int .i64 x, .int .i64 y, .int .i64 u, .int .i64 z] := (Blk.new _ _ _).alloc _
  have by_ : Blk ((w.alloc (.cells #[.int .i64 x, .int .i64 y, .int .i64 u, .int .i64 z] 23)).alloc (.cells #[.bool false] 4)) (w.heap.size + 1) 4 #[.bool false] := by
    have := Blk.new (w.alloc (.cells #[.int .i64 x, .int .i64 y, .int .i64 u, .int .i64 z] 23)) 4 #[.bool false]
    rw [asz] at this
    exact this
  have hs2 : ((w.alloc (.cells #[.int .i64 x, .int .i64 y, .int .i64 u, .int .i64 z] 23)).alloc (.cells #[.bool false] 4)).heap.size = w.heap.size + 2 := by rw [asz, asz]
  have b0 := bx.cell 0
  have b1 := bx.cell 1
  have b2 := bx.cell 2
  have b3 := bx.cell 3
  have BX := Lib.hid bx
  have BY := Lib.hid by_
  have H2 := Lib.hid hm2
  have S2 := Lib.hid hs2
  have MK := Lib.hid (fun ws => make_any x y u z ws)
  have hry := right_yes hr
  have AR := Lib.hid (fun ws => (show Calls Try.prog 12 #[(.agg #[.int .i64 x, .int .i64 y, .int .i64 u, .int .i64 z])] ws fun e w' => e = .returned (.int .i64 (N : Nat)) ∧ Below ws.heap.size ws w' by rw [hNz]; exact area_yes x y u z ws hr))
  have HR := Lib.hid (show ∀ k, k < N → (0 ≤ x ∧ x ≤ 256 ∧ 0 ≤ y ∧ y ≤ 256 ∧ 1 ≤ u ∧ u ≤ 256) from fun _ _ => by omega)
  clear hm hm2 bx by_ hs2 hry hr hNz
  refine (callsIn_wide (n := 3)).1 ?_
  refine callsIn_of_wp_marks Try.func17 rfl trivial ?_ rfl
  simp only [Try.ntmps17, List.size_toArray, List.length_cons, List.length_nil, Nat.reduceAdd, Nat.reduceSub, Array.replicate_succ, Array.replicate_zero, List.push_toArray, List.append_toArray, List.nil_append, List.cons_append]
  refine wpIn_wide.2 ?_
  go_wp2_with fail
  generalize ((w.alloc (.cells #[.int .i64 x, .int .i64 y, .int .i64 u, .int .i64 z] 23)).alloc (.cells #[.bool false] 4)) = w2 at *
  refine (MK.out _).mono ?_
  rintro e w3 ⟨rfl, hbl, hb3⟩
  have BL := Lib.hid hbl
  have B3 := Lib.hid (up H2.out hb3 H2.out.size)
  have BX3 := Lib.hid (BX.out.below hb3 BX.out.lt)
  have BY3 := Lib.hid (BY.out.below hb3 BY.out.lt)
  have S3 := Lib.hid hb3.size
  clear hbl hb3 b0 b1 b2 b3 BX BY
  have hnn := fun ws => neq_nil w2.heap.size ws
  go_wp2_with fail
  have K3 := S3.out
  rw [S2.out] at K3
  have K2 := S2.out
  refine (wpIn_wide (n := 3)).1 ?_
  refine wpIn_rangeFunc_ownF rfl (by omega) (gf := 27) (lb := #[.pointer (some ⟨w2.heap.size, 0, none⟩)]) rfl trivial (enters_of Try.func27 (by kernel_rfl) rfl)
    (stops (3 - 1) (by omega) x y u z N AR.out HR.out hN w2.heap.size w3 BL.out) kb_t (kb_b BL.out.lt) (Below.refl _ _) (fun _ => rfl)
    (fun pre W => pre = [] ∧ Below w3.heap.size w3 W)
    (fun c pre W => (c = .ret ∧ ∃ q : Int × Int, pre = [q] ∧ W.cell? ⟨w.heap.size + 1, 0, none⟩ = some (.bool (q.1 == x && q.2 == y))) ∧ Below w.heap.size w W)
    (OwnFrom.and (Own.from (fun s A B row hs hg hr => hs) _) (ownFrom_below (Nat.le_refl _) (Nat.le_refl _)))
    (fun c => OwnFrom.and (Own.from (fun s A B row hs hg hr => ⟨hs.1, hs.2.choose, hs.2.choose_spec.1, cell_kept hs.2.choose_spec.2 hg hr⟩) _) (ownFrom_below (Nat.le_refl _) (by omega)))
    ⟨rfl, Below.refl _ _⟩
    (fun p => { tmps := #[(.agg #[.int .i64 x, .int .i64 y, .int .i64 u, .int .i64 z]), .pointer (some ⟨w.heap.size, 0, none⟩), .pointer (some ⟨w.heap.size + 1, 0, none⟩), .func (.func 27) #[] #[.pointer (some ⟨w2.heap.size, 0, none⟩)], .int .i64 p.1, .int .i64 p.2, (.agg #[.int .i64 x, .int .i64 y, .int .i64 u, .int .i64 z]), .func (.func 27) #[] #[.pointer (some ⟨w2.heap.size, 0, none⟩)], .func (.func 27) #[] #[.pointer (some ⟨w2.heap.size, 0, none⟩)], .bool true, .func (.func 27) #[] #[.pointer (some ⟨w2.heap.size, 0, none⟩)], .int .i64 p.1, .int .i64 p.2, undef, undef, undef, undef, undef, undef, undef, undef, undef, undef], defers := [] }) ?assign ?body ?done ?stop
  case assign =>
    rintro l ⟨p1, p2⟩ W K hK
    clear K2 K3
    simp only [encs, List.zip_toArray, List.zip_cons_cons, List.zip_nil_right, List.foldl_toArray, List.foldl_cons, List.foldl_nil, List.setIfInBounds_toArray, List.set_cons_succ, List.set_cons_zero]
    gi_wp2
    exact hK
  case body =>
    rintro l pre ⟨p1, p2⟩ W ⟨rfl, hb⟩ hlt
    have bx := BX3.out.below hb BX3.out.lt
    have by_ := BY3.out.below hb BY3.out.lt
    have b0 := bx.cell 0
    have b1 := bx.cell 1
    have d0 := by_.cell 0
    have f0 := by_.free 0
    have HB := Lib.hid (up B3.out hb B3.out.size)
    have HP := Lib.hid (fun v => by_.put 0 v)
    clear bx by_ hb
    dsimp only
    by_cases q1 : p1 = x
    · have e1 : (p1 == x) = true := by simpa using q1
      by_cases q2 : p2 = y
      · have e2 : (p2 == y) = true := by simpa using q2
        gi_wp2
        exact ⟨KeepsOthers.setCell _ _ _, ⟨rfl, (p1, p2), rfl, ((HP.out _).cell 0).trans (by simp [e1, e2])⟩, HB.out.setCell (p := ⟨w.heap.size + 1, 0, none⟩) (by show _ ≤ w.heap.size + 1; omega) _⟩
      · have e2 : (p2 == y) = false := by simpa using q2
        gi_wp2
        exact ⟨KeepsOthers.setCell _ _ _, ⟨rfl, (p1, p2), rfl, ((HP.out _).cell 0).trans (by simp [e1, e2])⟩, HB.out.setCell (p := ⟨w.heap.size + 1, 0, none⟩) (by show _ ≤ w.heap.size + 1; omega) _⟩
    · have e1 : (p1 == x) = false := by simpa using q1
      gi_wp2
      exact ⟨KeepsOthers.setCell _ _ _, ⟨rfl, (p1, p2), rfl, ((HP.out _).cell 0).trans (by simp [e1])⟩, HB.out.setCell (p := ⟨w.heap.size + 1, 0, none⟩) (by show _ ≤ w.heap.size + 1; omega) _⟩
  case done =>
    rintro D xs W hD hS ⟨h0, hB⟩ hK
    rw [hS] at h0
    have := congrArg List.length h0
    rw [upto_length] at this
    simp at this
    omega
  case stop =>
    rintro D c pre W hD ⟨k, hk, hpre⟩ ⟨⟨rfl, q, rfl, hc⟩, hB⟩ hK
    have hq := upto_one hpre
    subst hq
    gi_wp2
    refine ⟨by simp, .inl ⟨_, _, rfl, run_takeDeferred hK, ?_⟩⟩
    have hc5 := cell_kept hc (grownBy_putObj' _ D (.deferred none)) (fun r e => by cases e; exact ⟨_, hK, rfl⟩)
    refine ⟨.bool true, ?_, rfl, hB.trans (belowK_b (w := w) (Nat.le_refl _) W D _ _ (by omega) hK rfl rfl)⟩
    simp [results, Try.f17, go_sem, hc5]
end Go.Proofs.Ytognbljpmhhbkaa.tiles
