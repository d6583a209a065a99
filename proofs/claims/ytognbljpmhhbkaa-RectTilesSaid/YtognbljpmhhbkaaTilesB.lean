/-
  RectTiles: the count of no tiles, the first tile, what is small.
-/
import Derived.Test.YtognbljpmhhbkaaTiles
import Derived.Test.YtognbljpmhhbkaaRectE
namespace Go.Proofs.Ytognbljpmhhbkaa.tiles
open Go.RowKit Go.Shelf
open rect
open base (Blk Only up made)
set_option linter.unusedVariables false
set_option linter.unusedSimpArgs false
attribute [local go_sem] Oper.semAt_some

set_option maxHeartbeats 1000000 in
theorem make_any (x y u z : Int) (w : World) : Calls Try.prog 16 #[(.agg #[.int .i64 x, .int .i64 y, .int .i64 u, .int .i64 z])] w fun e w' => e = .returned (.func (.func 27) #[] #[.pointer (some ⟨w.heap.size, 0, none⟩)]) ∧ Blk w' w.heap.size 23 #[.int .i64 x, .int .i64 y, .int .i64 u, .int .i64 z] ∧ Below w.heap.size w w' := by
  have hm := Lib.hid (made w (.cells #[.int .i64 x, .int .i64 y, .int .i64 u, .int .i64 z] 23))
  have bx := Lib.hid (Blk.new w 23 #[.int .i64 x, .int .i64 y, .int .i64 u, .int .i64 z])
  go_enter Try.func16, Try.ntmps16
  go_wp2_with fail
  go_ret
  exact ⟨rfl, bx.out, hm.out⟩
theorem neq_nil (b : Nat) (w : World) : (binOp .neq 34 (.func (.func 27) #[] #[.pointer (some ⟨b, 0, none⟩)]) .nilFunc).run Try.prog w = .ok (.bool true) w := by first | kernel_rfl | rfl
theorem asz (w : World) (o : Obj) : (w.alloc o).heap.size = w.heap.size + 1 := by first | exact Array.size_push _ | simp
set_option maxRecDepth 100000 in
set_option maxHeartbeats 2000000 in
theorem count_none (x y u z : Int) (w : World) (hr : rightB x y u z = false) : Calls Try.prog 13 #[(.agg #[.int .i64 x, .int .i64 y, .int .i64 u, .int .i64 z])] w fun e w' => e = .returned (.int .i64 0) ∧ Below w.heap.size w w' := by
  have hm := made w (.cells #[.int .i64 x, .int .i64 y, .int .i64 u, .int .i64 z] 23)
  have hm2 : Below w.heap.size w ((w.alloc (.cells #[.int .i64 x, .int .i64 y, .int .i64 u, .int .i64 z] 23)).alloc (.cells #[.int .i64 0] 3)) := hm.alloc (by rw [asz]; omega) _
  have bx : Blk ((w.alloc (.cells #[.int .i64 x, .int .i64 y, .int .i64 u, .int .i64 z] 23)).alloc (.cells #[.int .i64 0] 3)) w.heap.size 23 #[.int .i64 x, .int .i64 y, .int .i64 u, .int .i64 z] := (Blk.new _ _ _).alloc _
  have by_ : Blk ((w.alloc (.cells #[.int .i64 x, .int .i64 y, .int .i64 u, .int .i64 z] 23)).alloc (.cells #[.int .i64 0] 3)) (w.heap.size + 1) 3 #[.int .i64 0] := by
    have := Blk.new (w.alloc (.cells #[.int .i64 x, .int .i64 y, .int .i64 u, .int .i64 z] 23)) 3 #[.int .i64 0]
    rw [asz] at this
    exact this
  have hs2 : ((w.alloc (.cells #[.int .i64 x, .int .i64 y, .int .i64 u, .int .i64 z] 23)).alloc (.cells #[.int .i64 0] 3)).heap.size = w.heap.size + 2 := by rw [asz, asz]
  have b0 := bx.cell 0
  have b1 := bx.cell 1
  have b2 := bx.cell 2
  have b3 := bx.cell 3
  have BY := Lib.hid by_
  have H2 := Lib.hid hm2
  have S2 := Lib.hid hs2
  have MK := Lib.hid (fun ws => make_any x y u z ws)
  have AR := Lib.hid (fun ws => (show Calls Try.prog 12 #[(.agg #[.int .i64 x, .int .i64 y, .int .i64 u, .int .i64 z])] ws fun e w' => e = .returned (.int .i64 (0 : Nat)) ∧ Below ws.heap.size ws w' from area_no x y u z ws hr))
  clear hm hm2 bx by_ hs2
  refine (callsIn_wide (n := 3)).1 ?_
  refine callsIn_of_wp_marks Try.func13 rfl trivial ?_ rfl
  simp only [Try.ntmps13, List.size_toArray, List.length_cons, List.length_nil, Nat.reduceAdd, Nat.reduceSub, Array.replicate_succ, Array.replicate_zero, List.push_toArray, List.append_toArray, List.nil_append, List.cons_append]
  refine wpIn_wide.2 ?_
  go_wp2_with fail
  generalize ((w.alloc (.cells #[.int .i64 x, .int .i64 y, .int .i64 u, .int .i64 z] 23)).alloc (.cells #[.int .i64 0] 3)) = w2 at *
  refine (MK.out _).mono ?_
  rintro e w3 ⟨rfl, hbl, hb3⟩
  have BL := Lib.hid hbl
  have B3 := Lib.hid (up H2.out hb3 H2.out.size)
  have BY3 := Lib.hid (BY.out.below hb3 BY.out.lt)
  have S3 := Lib.hid hb3.size
  clear hbl hb3 b0 b1 b2 b3
  have hnn := fun ws => neq_nil w2.heap.size ws
  go_wp2_with fail
  have K3 := S3.out
  rw [S2.out] at K3
  have K2 := S2.out
  refine (wpIn_wide (n := 3)).1 ?_
  refine wpIn_rangeFunc_ownF rfl (by omega) (gf := 27) (lb := #[.pointer (some ⟨w2.heap.size, 0, none⟩)]) rfl trivial (enters_of Try.func27 (by kernel_rfl) rfl)
    (stops (3 - 1) (by omega) x y u z 0 AR.out (fun k hk => absurd hk (by omega)) (by omega) w2.heap.size w3 BL.out) kb_t (kb_b BL.out.lt) (Below.refl _ _) (fun _ => rfl)
    (fun pre W => W.cell? ⟨w.heap.size + 1, 0, none⟩ = some (.int .i64 0) ∧ Below w.heap.size w W)
    (fun _ _ _ => False)
    (OwnFrom.and (Own.from (fun s A B row hs hg hr => cell_kept hs hg hr) _) (ownFrom_below (Nat.le_refl _) (by omega)))
    (fun _ _ _ _ _ hs _ _ => hs)
    ⟨BY3.out.cell 0, B3.out⟩
    (fun p => { tmps := #[(.agg #[.int .i64 x, .int .i64 y, .int .i64 u, .int .i64 z]), .pointer (some ⟨w.heap.size, 0, none⟩), .int .i64 0, .pointer (some ⟨w.heap.size + 1, 0, none⟩), .func (.func 27) #[] #[.pointer (some ⟨w2.heap.size, 0, none⟩)], (.agg #[.int .i64 x, .int .i64 y, .int .i64 u, .int .i64 z]), .func (.func 27) #[] #[.pointer (some ⟨w2.heap.size, 0, none⟩)], .func (.func 27) #[] #[.pointer (some ⟨w2.heap.size, 0, none⟩)], .bool true, .func (.func 27) #[] #[.pointer (some ⟨w2.heap.size, 0, none⟩)], .int .i64 p.1, .int .i64 p.2, undef, undef, undef], defers := [] }) ?assign ?body ?done ?stop
  case assign =>
    intro l q W K hK
    gi_wp2
    simpa [encs] using hK
  case body =>
    rintro l pre q W _ hlt
    exact absurd hlt (by omega)
  case done =>
    rintro D xs W hD rfl ⟨hc, hB⟩ hK
    go_wp2
    refine ⟨by simp, .inl ⟨_, _, rfl, run_takeDeferred hK, ?_⟩⟩
    exact ⟨_, results_tmp rfl _ _ _, rfl, hB.trans (belowK_b (w := w) (Nat.le_refl _) W D _ _ (by omega) hK rfl rfl)⟩
  case stop =>
    rintro D c pre W _ _ h _
    exact h.elim
set_option maxHeartbeats 1000000 in
theorem small_any (x y u z : Int) (hx : -9223372036854775808 ≤ x) (w : World) (hr : rightB x y u z = true) (b : Bool) (hb : b = decide (u ≤ 24 ∧ z ≤ 24)) : Calls Try.prog 15 #[(.agg #[.int .i64 x, .int .i64 y, .int .i64 u, .int .i64 z])] w fun e w' => e = .returned (.bool b) ∧ Below w.heap.size w w' := by
  have hm := made w (.cells #[.int .i64 x, .int .i64 y, .int .i64 u, .int .i64 z] 23)
  have bx : Blk (w.alloc (.cells #[.int .i64 x, .int .i64 y, .int .i64 u, .int .i64 z] 23)) w.heap.size 23 #[.int .i64 x, .int .i64 y, .int .i64 u, .int .i64 z] := Blk.new _ _ _
  have BX := Lib.hid bx
  have HM := Lib.hid hm
  have b0 := bx.cell 0
  have b1 := bx.cell 1
  have b2 := bx.cell 2
  have b3 := bx.cell 3
  have RF := Lib.hid (fun ws => ref_any x y u z ws)
  have RR := Lib.hid (fun ws => rright_any x y u z hx ws)
  rw [hr] at RR
  clear hm bx hr hx
  have HBB := Lib.hid hb
  clear hb
  generalize hw1 : w.alloc (.cells #[.int .i64 x, .int .i64 y, .int .i64 u, .int .i64 z] 23) = w1 at *
  go_enter Try.func15, Try.ntmps15
  go_wp2_with (rw [hw1])
  refine (RF.out _).mono ?_
  rintro e w2 ⟨rfl, hb2⟩
  have B2 := Lib.hid hb2
  clear hb2
  go_wp2_with fail
  refine (RR.out _).mono ?_
  rintro e w3 ⟨rfl, hb3⟩
  have B3 := Lib.hid (up B2.out hb3 B2.out.size)
  have bx := BX.out.below B3.out BX.out.lt
  clear b0 b1 b2 b3 hb3
  have c2 := bx.cell 2
  have c3 := bx.cell 3
  clear bx
  by_cases q1 : u ≤ 24
  · by_cases q2 : z ≤ 24
    · obtain rfl : b = true := by rw [HBB.out]; exact decide_eq_true ⟨q1, q2⟩
      clear HBB
      go_wp2_with fail
      go_ret
      exact ⟨by first | rfl | simp [q2], up HM.out B3.out HM.out.size⟩
    · obtain rfl : b = false := by rw [HBB.out]; exact decide_eq_false (fun r => q2 r.2)
      clear HBB
      go_wp2_with fail
      go_ret
      exact ⟨by first | rfl | exact base.ret_bool (by simp; omega), up HM.out B3.out HM.out.size⟩
  · obtain rfl : b = false := by rw [HBB.out]; exact decide_eq_false (fun r => q1 r.1)
    clear HBB
    go_wp2_with fail
    go_ret
    exact ⟨by first | rfl | exact base.ret_bool (by simp; omega), up HM.out B3.out HM.out.size⟩
end Go.Proofs.Ytognbljpmhhbkaa.tiles
