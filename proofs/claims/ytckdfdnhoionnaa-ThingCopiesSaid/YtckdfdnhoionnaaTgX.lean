/-
  One call of both, where the things' own memory and the list's begin at different blocks.
-/
import Derived.Test.YtckdfdnhoionnaaTgW
namespace Go.Proofs.Ytckdfdnhoionnaa.tg
open Go.RowKit
open base (ret_bool ret_int made up Blk Only)
open rk mk il nm
set_option linter.unusedVariables false
set_option linter.unusedSimpArgs false
variable {Bx B g m K : Nat} {w w1 w2 w5 w' : World} {L : List Th} {nx : Int}

def StepQ (Bx B g m : Nat) (s : St) (K : Nat) (w : World) (e : Ending) (w' : World) : Prop :=
  ∃ v, e = .returned (.tuple #[.agg #[v, .int .i64 s.2], .bool true]) ∧ rk.Own E6 w' Bx 43 v s.1 ∧ TAt w' B g m s.1 s.2 K ∧ Ch B PK w w'
set_option maxRecDepth 100000 in
set_option maxHeartbeats 4000000 in
theorem stepq_make (A : Option Addr) (c : Nat) (id ow kd hs sl : Int) (nm : ByteArray) (w : World) (ht : TAt w B g m L nx K) (ho : rk.Own E6 w Bx 43 (.slice A L.length c) L) (G : Gd (L, nx)) (hl : L.length ≤ 4096) (hK : K ≤ 90000) (hB : B ≤ w.heap.size) (hX : Bx ≤ w.heap.size) (hn : nm.size ≤ 9223372036854775807) (how : (Lit.int .i64 ow).wf = true) :
    Calls Try.prog 11 #[.pointer (some ⟨g, 0, none⟩), .agg #[.slice A L.length c, .int .i64 nx], .agg #[.int .i64 1, .int .i64 id, .int .i64 ow, .string nm, .int .i64 kd, .int .i64 hs, .int .i64 sl]] w (StepQ Bx B g m (make (L, nx) nm ow).1 (K + 2) w) := by
  obtain ⟨k, hk⟩ : ∃ k : Int, k = 1 := ⟨_, rfl⟩
  rw [← hk]
  have hm1 : Below w.heap.size w (w.alloc (.cells #[.slice A L.length c, .int .i64 nx] 29)) := made w _
  have hm2 : Below w.heap.size w ((w.alloc (.cells #[.slice A L.length c, .int .i64 nx] 29)).alloc (.cells #[.int .i64 k, .int .i64 id, .int .i64 ow, .string nm, .int .i64 kd, .int .i64 hs, .int .i64 sl] 33)) := hm1.alloc (by rw [asz]; omega) _
  have hm3 : Below w.heap.size w (((w.alloc (.cells #[.slice A L.length c, .int .i64 nx] 29)).alloc (.cells #[.int .i64 k, .int .i64 id, .int .i64 ow, .string nm, .int .i64 kd, .int .i64 hs, .int .i64 sl] 33)).alloc (.cells #[.slice none 0 0, .int .i64 0] 29)) := hm2.alloc (by rw [asz, asz]; omega) _
  have bx : Blk (((w.alloc (.cells #[.slice A L.length c, .int .i64 nx] 29)).alloc (.cells #[.int .i64 k, .int .i64 id, .int .i64 ow, .string nm, .int .i64 kd, .int .i64 hs, .int .i64 sl] 33)).alloc (.cells #[.slice none 0 0, .int .i64 0] 29)) w.heap.size 29 #[.slice A L.length c, .int .i64 nx] := ((Blk.new _ _ _).alloc _).alloc _
  have bo : Blk (((w.alloc (.cells #[.slice A L.length c, .int .i64 nx] 29)).alloc (.cells #[.int .i64 k, .int .i64 id, .int .i64 ow, .string nm, .int .i64 kd, .int .i64 hs, .int .i64 sl] 33)).alloc (.cells #[.slice none 0 0, .int .i64 0] 29)) (w.heap.size + 1) 33 #[.int .i64 k, .int .i64 id, .int .i64 ow, .string nm, .int .i64 kd, .int .i64 hs, .int .i64 sl] := by
    have := (Blk.new (w.alloc (.cells #[.slice A L.length c, .int .i64 nx] 29)) 33 #[.int .i64 k, .int .i64 id, .int .i64 ow, .string nm, .int .i64 kd, .int .i64 hs, .int .i64 sl]).alloc (.cells #[.slice none 0 0, .int .i64 0] 29)
    rw [asz] at this
    exact this
  have br : Blk (((w.alloc (.cells #[.slice A L.length c, .int .i64 nx] 29)).alloc (.cells #[.int .i64 k, .int .i64 id, .int .i64 ow, .string nm, .int .i64 kd, .int .i64 hs, .int .i64 sl] 33)).alloc (.cells #[.slice none 0 0, .int .i64 0] 29)) (w.heap.size + 1 + 1) 29 #[.slice none 0 0, .int .i64 0] := by
    have := Blk.new ((w.alloc (.cells #[.slice A L.length c, .int .i64 nx] 29)).alloc (.cells #[.int .i64 k, .int .i64 id, .int .i64 ow, .string nm, .int .i64 kd, .int .i64 hs, .int .i64 sl] 33)) 29 #[.slice none 0 0, .int .i64 0]
    rw [asz, asz] at this
    exact this
  have BX := Lib.hid bx
  have BO := Lib.hid bo
  have BR := Lib.hid br
  have M := Lib.hid hm3
  have HO := Lib.hid (ho.below hm3)
  have HT := Lib.hid (ht.below hm3)
  have HB := Lib.hid hB
  have HX := Lib.hid hX
  have GD := Lib.hid G
  have b0 := bx.cell 0
  have b1 := bx.cell 1
  have o0 := bo.cell 0
  have o1 := bo.cell 1
  have o2 := bo.cell 2
  have o3 := bo.cell 3
  have o4 := bo.cell 4
  have o5 := bo.cell 5
  have o6 := bo.cell 6
  have r0 := br.cell 0
  have r1 := br.cell 1
  have f0 := br.free 0
  have f1 := br.free 1
  clear ho ht hB hX hm1 hm2 hm3 bx bo br G
  generalize hw2 : ((w.alloc (.cells #[.slice A L.length c, .int .i64 nx] 29)).alloc (.cells #[.int .i64 k, .int .i64 id, .int .i64 ow, .string nm, .int .i64 kd, .int .i64 hs, .int .i64 sl] 33)).alloc (.cells #[.slice none 0 0, .int .i64 0] 29) = w2 at *
  subst hk
  have RM := Lib.hid (rmake_any A c L nx nm ow Bx w2 HO.out (by omega) ⟨by have := GD.out.nx; dsimp only at this; omega, by have := GD.out.nx; dsimp only at this; omega⟩ hn (Nat.le_trans HX.out M.out.size))
  have MK := Lib.hid (fun ws (h : TAt ws B g m L nx K) (hb : B ≤ ws.heap.size) => make_any nm ow h hn how hl GD.out hK hb)
  generalize make (L, nx) nm ow = r at *
  go_enter Try.func11, Try.ntmps11
  go_wp2_with (rw [hw2])
  refine RM.out.mono ?_
  rintro e w5 ⟨v5, rfl, o5', b5⟩
  obtain ⟨A5, c5, rfl, -⟩ := o5'.open_
  have hl5 : r.1.1.length = r.1.1.length := rfl
  have BO5 := (BO.out.below b5 BO.out.lt)
  have BR5 := (BR.out.below b5 BR.out.lt)
  have B5 := up M.out b5 M.out.size
  have T5 := HT.out.below b5
  have mk6 := made w5 (.cells #[.slice A5 r.1.1.length c5, .int .i64 r.1.2] 29)
  have by6 : Blk (w5.alloc (.cells #[.slice A5 r.1.1.length c5, .int .i64 r.1.2] 29)) w5.heap.size 29 #[.slice A5 r.1.1.length c5, .int .i64 r.1.2] := Blk.new _ _ _
  have BY6 := Lib.hid by6
  have BO6 := Lib.hid (BO5.below mk6 BO5.lt)
  have BR6 := Lib.hid (BR5.below mk6 BR5.lt)
  have B6 := Lib.hid (up B5 mk6 B5.size)
  have T6 := Lib.hid (T5.below mk6)
  have O6 := Lib.hid (o5'.below mk6)
  have LTR := Lib.hid (show w.heap.size + 1 + 1 < w5.heap.size from BR5.lt)
  clear o5' b5 BO5 BR5 B5 T5 mk6 by6 hl5 b0 b1 o0 o1 o2 o3 o4 o5 o6 r0 r1 f0 f1
  have o0 := BO6.out.cell 0
  have o1 := BO6.out.cell 1
  have o2 := BO6.out.cell 2
  have o3 := BO6.out.cell 3
  have o4 := BO6.out.cell 4
  have o5 := BO6.out.cell 5
  have o6 := BO6.out.cell 6
  go_wp2_with fail
  generalize w5.alloc (.cells #[.slice A5 r.1.1.length c5, .int .i64 r.1.2] 29) = w6 at *
  refine (MK.out _ T6.out (Nat.le_trans HB.out B6.out.size)).mono ?_
  rintro e w7 ⟨rfl, t7, c7⟩
  have BY7 := Lib.hid (c7.blk BY6.out (by rfl))
  have BR7 := Lib.hid (c7.blk BR6.out (by rfl))
  have O7 := Lib.hid (c7.own O6.out (fun _ => by rfl))
  have T7 := Lib.hid t7
  have C7 := Lib.hid ((Ch.of_below B PK B6.out).trans c7)
  clear t7 c7 o0 o1 o2 o3 o4 o5 o6
  have y0 := BY7.out.cell 0
  have y1 := BY7.out.cell 1
  have r0 := BR7.out.cell 0
  have r1 := BR7.out.cell 1
  have f0 := BR7.out.free 0
  have f1 := BR7.out.free 1
  have ea : (r.2.1 == r.2.1) = true := by simp
  have eb : (r.2.2 == r.2.2) = true := by simp
  go_wp2_with fail
  have K := blk2 BR7.out (.slice A5 r.1.1.length c5) (.int .i64 r.1.2)
  have g0 := K.cell 0
  have g1 := K.cell 1
  refine bodyPost_ret (v := .tuple #[.agg #[.slice A5 r.1.1.length c5, .int .i64 r.1.2], .bool true]) (by simp [results, Try.results11, go_sem, g0, g1]) rfl ?_
  exact ⟨_, rfl, own2 O7.out BR7.out (by decide) _ _, T7.out.ch BR7.out (by decide) (by decide) (by decide) _ _, C7.out.late (by omega) _ _⟩
set_option maxRecDepth 100000 in
set_option maxHeartbeats 4000000 in
theorem stepq_move (A : Option Addr) (c : Nat) (id ow kd hs sl : Int) (nm : ByteArray) (w : World) (ht : TAt w B g m L nx K) (ho : rk.Own E6 w Bx 43 (.slice A L.length c) L) (G : Gd (L, nx)) (hl : L.length ≤ 4096) (hK : K ≤ 90000) (hB : B ≤ w.heap.size) (hX : Bx ≤ w.heap.size) (hp : wp ⟨kd, hs, sl⟩) :
    Calls Try.prog 11 #[.pointer (some ⟨g, 0, none⟩), .agg #[.slice A L.length c, .int .i64 nx], .agg #[.int .i64 2, .int .i64 id, .int .i64 ow, .string nm, .int .i64 kd, .int .i64 hs, .int .i64 sl]] w (StepQ Bx B g m (move (L, nx) id ⟨kd, hs, sl⟩ ow).1 (K + 2) w) := by
  obtain ⟨k, hk⟩ : ∃ k : Int, k = 2 := ⟨_, rfl⟩
  rw [← hk]
  have hm1 : Below w.heap.size w (w.alloc (.cells #[.slice A L.length c, .int .i64 nx] 29)) := made w _
  have hm2 : Below w.heap.size w ((w.alloc (.cells #[.slice A L.length c, .int .i64 nx] 29)).alloc (.cells #[.int .i64 k, .int .i64 id, .int .i64 ow, .string nm, .int .i64 kd, .int .i64 hs, .int .i64 sl] 33)) := hm1.alloc (by rw [asz]; omega) _
  have hm3 : Below w.heap.size w (((w.alloc (.cells #[.slice A L.length c, .int .i64 nx] 29)).alloc (.cells #[.int .i64 k, .int .i64 id, .int .i64 ow, .string nm, .int .i64 kd, .int .i64 hs, .int .i64 sl] 33)).alloc (.cells #[.slice none 0 0, .int .i64 0] 29)) := hm2.alloc (by rw [asz, asz]; omega) _
  have bx : Blk (((w.alloc (.cells #[.slice A L.length c, .int .i64 nx] 29)).alloc (.cells #[.int .i64 k, .int .i64 id, .int .i64 ow, .string nm, .int .i64 kd, .int .i64 hs, .int .i64 sl] 33)).alloc (.cells #[.slice none 0 0, .int .i64 0] 29)) w.heap.size 29 #[.slice A L.length c, .int .i64 nx] := ((Blk.new _ _ _).alloc _).alloc _
  have bo : Blk (((w.alloc (.cells #[.slice A L.length c, .int .i64 nx] 29)).alloc (.cells #[.int .i64 k, .int .i64 id, .int .i64 ow, .string nm, .int .i64 kd, .int .i64 hs, .int .i64 sl] 33)).alloc (.cells #[.slice none 0 0, .int .i64 0] 29)) (w.heap.size + 1) 33 #[.int .i64 k, .int .i64 id, .int .i64 ow, .string nm, .int .i64 kd, .int .i64 hs, .int .i64 sl] := by
    have := (Blk.new (w.alloc (.cells #[.slice A L.length c, .int .i64 nx] 29)) 33 #[.int .i64 k, .int .i64 id, .int .i64 ow, .string nm, .int .i64 kd, .int .i64 hs, .int .i64 sl]).alloc (.cells #[.slice none 0 0, .int .i64 0] 29)
    rw [asz] at this
    exact this
  have br : Blk (((w.alloc (.cells #[.slice A L.length c, .int .i64 nx] 29)).alloc (.cells #[.int .i64 k, .int .i64 id, .int .i64 ow, .string nm, .int .i64 kd, .int .i64 hs, .int .i64 sl] 33)).alloc (.cells #[.slice none 0 0, .int .i64 0] 29)) (w.heap.size + 1 + 1) 29 #[.slice none 0 0, .int .i64 0] := by
    have := Blk.new ((w.alloc (.cells #[.slice A L.length c, .int .i64 nx] 29)).alloc (.cells #[.int .i64 k, .int .i64 id, .int .i64 ow, .string nm, .int .i64 kd, .int .i64 hs, .int .i64 sl] 33)) 29 #[.slice none 0 0, .int .i64 0]
    rw [asz, asz] at this
    exact this
  have BX := Lib.hid bx
  have BO := Lib.hid bo
  have BR := Lib.hid br
  have M := Lib.hid hm3
  have HO := Lib.hid (ho.below hm3)
  have HT := Lib.hid (ht.below hm3)
  have HB := Lib.hid hB
  have HX := Lib.hid hX
  have GD := Lib.hid G
  have b0 := bx.cell 0
  have b1 := bx.cell 1
  have o0 := bo.cell 0
  have o1 := bo.cell 1
  have o2 := bo.cell 2
  have o3 := bo.cell 3
  have o4 := bo.cell 4
  have o5 := bo.cell 5
  have o6 := bo.cell 6
  have r0 := br.cell 0
  have r1 := br.cell 1
  have f0 := br.free 0
  have f1 := br.free 1
  clear ho ht hB hX hm1 hm2 hm3 bx bo br G
  generalize hw2 : ((w.alloc (.cells #[.slice A L.length c, .int .i64 nx] 29)).alloc (.cells #[.int .i64 k, .int .i64 id, .int .i64 ow, .string nm, .int .i64 kd, .int .i64 hs, .int .i64 sl] 33)).alloc (.cells #[.slice none 0 0, .int .i64 0] 29) = w2 at *
  subst hk
  have RM := Lib.hid (rmove_any A c L nx id ⟨kd, hs, sl⟩ ow Bx w2 HO.out (by omega) (Nat.le_trans HX.out M.out.size))
  have MK := Lib.hid (fun ws (h : TAt ws B g m L nx K) (hb : B ≤ ws.heap.size) => move_any id ⟨kd, hs, sl⟩ ow h GD.out (by omega) hp hK hb)
  generalize move (L, nx) id ⟨kd, hs, sl⟩ ow = r at *
  try dsimp only [pv] at RM MK
  go_enter Try.func11, Try.ntmps11
  go_wp2_with (rw [hw2])
  refine RM.out.mono ?_
  rintro e w5 ⟨v5, rfl, o5', b5⟩
  obtain ⟨A5, c5, rfl, -⟩ := o5'.open_
  have hl5 : r.1.1.length = r.1.1.length := rfl
  have BO5 := (BO.out.below b5 BO.out.lt)
  have BR5 := (BR.out.below b5 BR.out.lt)
  have B5 := up M.out b5 M.out.size
  have T5 := HT.out.below b5
  have mk6 := made w5 (.cells #[.slice A5 r.1.1.length c5, .int .i64 r.1.2] 29)
  have by6 : Blk (w5.alloc (.cells #[.slice A5 r.1.1.length c5, .int .i64 r.1.2] 29)) w5.heap.size 29 #[.slice A5 r.1.1.length c5, .int .i64 r.1.2] := Blk.new _ _ _
  have BY6 := Lib.hid by6
  have BO6 := Lib.hid (BO5.below mk6 BO5.lt)
  have BR6 := Lib.hid (BR5.below mk6 BR5.lt)
  have B6 := Lib.hid (up B5 mk6 B5.size)
  have T6 := Lib.hid (T5.below mk6)
  have O6 := Lib.hid (o5'.below mk6)
  have LTR := Lib.hid (show w.heap.size + 1 + 1 < w5.heap.size from BR5.lt)
  clear o5' b5 BO5 BR5 B5 T5 mk6 by6 hl5 b0 b1 o0 o1 o2 o3 o4 o5 o6 r0 r1 f0 f1
  have o0 := BO6.out.cell 0
  have o1 := BO6.out.cell 1
  have o2 := BO6.out.cell 2
  have o3 := BO6.out.cell 3
  have o4 := BO6.out.cell 4
  have o5 := BO6.out.cell 5
  have o6 := BO6.out.cell 6
  go_wp2_with fail
  have KS := Lib.hid (fun ws (h1 : Blk ws w5.heap.size 29 #[.slice A5 r.1.1.length c5, .int .i64 r.1.2]) (h2 : Blk ws (w.heap.size + 1) 33 #[.int .i64 2, .int .i64 id, .int .i64 ow, .string nm, .int .i64 kd, .int .i64 hs, .int .i64 sl]) => (show ws.cell? ⟨w5.heap.size, 0, none⟩ = some (.slice A5 r.1.1.length c5) ∧ ws.cell? ⟨w5.heap.size, 1, none⟩ = some (.int .i64 r.1.2) ∧ ws.cell? ⟨w.heap.size + 1, 1, none⟩ = some (.int .i64 id) ∧ ws.cell? ⟨w.heap.size + 1, 2, none⟩ = some (.int .i64 ow) ∧ ws.cell? ⟨w.heap.size + 1, 4, none⟩ = some (.int .i64 kd) ∧ ws.cell? ⟨w.heap.size + 1, 5, none⟩ = some (.int .i64 hs) ∧ ws.cell? ⟨w.heap.size + 1, 6, none⟩ = some (.int .i64 sl) from
    ⟨h1.cell 0, h1.cell 1, h2.cell 1, h2.cell 2, h2.cell 4, h2.cell 5, h2.cell 6⟩))
  generalize w5.alloc (.cells #[.slice A5 r.1.1.length c5, .int .i64 r.1.2] 29) = w6 at *
  have hd := (Below.refl w6.heap.size w6).drew
  have BY6' := Lib.hid (BY6.out.below hd BY6.out.lt)
  have BO6' := Lib.hid (BO6.out.below hd BO6.out.lt)
  have BR6' := Lib.hid (BR6.out.below hd BR6.out.lt)
  have B6' := Lib.hid (up B6.out hd B6.out.size)
  have T6' := Lib.hid (T6.out.below hd)
  have O6' := Lib.hid (O6.out.below hd)
  clear hd BY6 BO6 BR6 B6 T6 O6 o0 o1 o2 o3 o4 o5 o6
  refine wp_region_held_drew (S := fun ws => ws.cell? ⟨w5.heap.size, 0, none⟩ = some (.slice A5 r.1.1.length c5) ∧ ws.cell? ⟨w5.heap.size, 1, none⟩ = some (.int .i64 r.1.2) ∧ ws.cell? ⟨w.heap.size + 1, 1, none⟩ = some (.int .i64 id) ∧ ws.cell? ⟨w.heap.size + 1, 2, none⟩ = some (.int .i64 ow) ∧ ws.cell? ⟨w.heap.size + 1, 4, none⟩ = some (.int .i64 kd) ∧ ws.cell? ⟨w.heap.size + 1, 5, none⟩ = some (.int .i64 hs) ∧ ws.cell? ⟨w.heap.size + 1, 6, none⟩ = some (.int .i64 sl)) (by kernel_rfl) (KS.out _ BY6'.out BO6'.out) (fun hHeld => ?_)
  refine wpAnyH_take (i := 0) (v := ?_) rfl (by kernel_rfl) (by kernel_rfl) (by kernel_rfl) (fun _ _ _ h => h) (Or.inl ⟨by rfl, ?_⟩) (by assumption) ?_
  rotate_left
  · (intro w hSw; (try dsimp only at hSw); first | (go_simp; done) | (go_simp; with_reducible rfl))
  simp only [Act.put, List.getElem_toArray, List.getElem_cons_zero, List.getElem_cons_succ, List.setIfInBounds_toArray, List.set_cons_zero, List.set_cons_succ]
  refine wpAnyH_take (i := 1) (v := ?_) rfl (by kernel_rfl) (by kernel_rfl) (by kernel_rfl) (fun _ _ _ h => h) (Or.inl ⟨by rfl, ?_⟩) (by assumption) ?_
  rotate_left
  · (intro w hSw; (try dsimp only at hSw); first | (go_simp; done) | (go_simp; with_reducible rfl))
  simp only [Act.put, List.getElem_toArray, List.getElem_cons_zero, List.getElem_cons_succ, List.setIfInBounds_toArray, List.set_cons_zero, List.set_cons_succ]
  refine wpAnyH_take (i := 2) (v := ?_) rfl (by kernel_rfl) (by kernel_rfl) (by kernel_rfl) (fun _ _ _ h => h) (Or.inl ⟨by rfl, ?_⟩) (by assumption) ?_
  rotate_left
  · (intro w hSw; (try dsimp only at hSw); first | (go_simp; done) | (go_simp; with_reducible rfl))
  simp only [Act.put, List.getElem_toArray, List.getElem_cons_zero, List.getElem_cons_succ, List.setIfInBounds_toArray, List.set_cons_zero, List.set_cons_succ]
  refine wpAnyH_take (i := 3) (v := ?_) rfl (by kernel_rfl) (by kernel_rfl) (by kernel_rfl) (fun _ _ _ h => h) (Or.inl ⟨by rfl, ?_⟩) (by assumption) ?_
  rotate_left
  · (intro w hSw; (try dsimp only at hSw); first | (go_simp; done) | (go_simp; with_reducible rfl))
  simp only [Act.put, List.getElem_toArray, List.getElem_cons_zero, List.getElem_cons_succ, List.setIfInBounds_toArray, List.set_cons_zero, List.set_cons_succ]
  refine wpAnyH_take (i := 4) (v := ?_) rfl (by kernel_rfl) (by kernel_rfl) (by kernel_rfl) (fun _ _ _ h => h) (Or.inl ⟨by rfl, ?_⟩) (by assumption) ?_
  rotate_left
  · (intro w hSw; (try dsimp only at hSw); first | (go_simp; done) | (go_simp; with_reducible rfl))
  simp only [Act.put, List.getElem_toArray, List.getElem_cons_zero, List.getElem_cons_succ, List.setIfInBounds_toArray, List.set_cons_zero, List.set_cons_succ]
  refine wpAnyH_take (i := 5) (v := ?_) rfl (by kernel_rfl) (by kernel_rfl) (by kernel_rfl) (fun _ _ _ h => h) (Or.inl ⟨by rfl, ?_⟩) (by assumption) ?_
  rotate_left
  · (intro w hSw; (try dsimp only at hSw); first | (go_simp; done) | (go_simp; with_reducible rfl))
  simp only [Act.put, List.getElem_toArray, List.getElem_cons_zero, List.getElem_cons_succ, List.setIfInBounds_toArray, List.set_cons_zero, List.set_cons_succ]
  refine wpAnyH_take (i := 6) (v := ?_) rfl (by kernel_rfl) (by kernel_rfl) (by kernel_rfl) (fun _ _ _ h => h) (Or.inl ⟨by rfl, ?_⟩) (by assumption) ?_
  rotate_left
  · (intro w hSw; (try dsimp only at hSw); first | (go_simp; done) | (go_simp; with_reducible rfl))
  simp only [Act.put, List.getElem_toArray, List.getElem_cons_zero, List.getElem_cons_succ, List.setIfInBounds_toArray, List.set_cons_zero, List.set_cons_succ]
  refine wpAnyH_take (i := 7) (v := ?_) rfl (by kernel_rfl) (by kernel_rfl) (by kernel_rfl) (fun _ _ _ h => h) (Or.inl ⟨by rfl, ?_⟩) (by assumption) ?_
  rotate_left
  · (intro w hSw; (try dsimp only at hSw); first | (go_simp; done) | (go_simp; with_reducible rfl))
  simp only [Act.put, List.getElem_toArray, List.getElem_cons_zero, List.getElem_cons_succ, List.setIfInBounds_toArray, List.set_cons_zero, List.set_cons_succ]
  refine wpAnyH_take (i := 9) (v := ?_) rfl (by kernel_rfl) (by kernel_rfl) (by kernel_rfl) (fun _ _ _ h => h) (Or.inl ⟨by rfl, ?_⟩) (by assumption) ?_
  rotate_left
  · (intro w hSw; (try dsimp only at hSw); first | (go_simp; done) | (go_simp; with_reducible rfl))
  simp only [Act.put, List.getElem_toArray, List.getElem_cons_zero, List.getElem_cons_succ, List.setIfInBounds_toArray, List.set_cons_zero, List.set_cons_succ]
  generalize w6.drew = w6 at *
  refine wpAnyH_ready (rs := [8]) (by kernel_rfl) (by simp) ?_
  refine AllReadyH.cons rfl (fun K hK => ?_) AllReadyH.nil
  go_simp
  go_wp2_with (go_at_call 28; refine (MK.out _ T6'.out (Nat.le_trans HB.out B6'.out.size)).mono ?_; rintro e w7 ⟨rfl, t7, c7⟩)
  have BY7 := Lib.hid (c7.blk BY6'.out (by rfl))
  have BO7 := Lib.hid (c7.blk BO6'.out (by rfl))
  have BR7 := Lib.hid (c7.blk BR6'.out (by rfl))
  have O7 := Lib.hid (c7.own O6'.out (fun _ => by rfl))
  have T7 := Lib.hid t7
  have C7 := Lib.hid ((Ch.of_below B PK B6'.out).trans c7)
  clear t7 c7
  refine hK.out _ _ (KS.out _ BY7.out BO7.out) (fun hH1 => ?_)
  clear hK K hHeld
  have eb : (r.2 == r.2) = true := by simp
  refine wpAnyH_take (i := 10) (v := ?_) rfl (by kernel_rfl) (by kernel_rfl) (by kernel_rfl) (fun _ _ _ h => h) (Or.inl ⟨by rfl, ?_⟩) (by assumption) ?_
  rotate_left
  · (intro w hSw; (try dsimp only at hSw); first | (go_simp; done) | (go_simp; with_reducible rfl))
  simp only [Act.put, List.getElem_toArray, List.getElem_cons_zero, List.getElem_cons_succ, List.setIfInBounds_toArray, List.set_cons_zero, List.set_cons_succ]
  have r0 := BR7.out.cell 0
  have r1 := BR7.out.cell 1
  have f0 := BR7.out.free 0
  have f1 := BR7.out.free 1
  have S9 : Only (fun j => j = w.heap.size + 1 + 1) w7 ((w7.setCell ⟨w.heap.size + 1 + 1, 0, none⟩ (.slice A5 r.1.1.length c5)).setCell ⟨w.heap.size + 1 + 1, 1, none⟩ (.int .i64 r.1.2)) := ((Only.refl (fun j => j = w.heap.size + 1 + 1) w7).setCell (p := ⟨w.heap.size + 1 + 1, 0, none⟩) (.inl rfl) _).setCell (p := ⟨w.heap.size + 1 + 1, 1, none⟩) (.inl rfl) _
  have BY9 := Lib.hid (BY7.out.only S9 (by have := LTR.out; omega))
  have BO9 := Lib.hid (BO7.out.only S9 (by omega))
  have K9 := Lib.hid (blk2 BR7.out (.slice A5 r.1.1.length c5) (.int .i64 r.1.2))
  have O9 := Lib.hid (own2 O7.out BR7.out (by decide) (.slice A5 r.1.1.length c5) (.int .i64 r.1.2))
  have T9 := Lib.hid (T7.out.ch BR7.out (by decide) (by decide) (by decide) (.slice A5 r.1.1.length c5) (.int .i64 r.1.2))
  have C9 := Lib.hid (C7.out.late (b := w.heap.size + 1 + 1) (by omega) (.slice A5 r.1.1.length c5) (.int .i64 r.1.2))
  clear S9
  refine wpAnyH_ready (rs := [11]) (by kernel_rfl) (by simp) ?_
  refine AllReadyH.cons rfl (fun K hK => ?_) AllReadyH.nil
  go_simp
  refine hK.out _ _ (KS.out _ BY9.out BO9.out) (fun hH2 => ?_)
  clear hK K hH1 r0 r1 f0 f1
  refine wpAnyH_take (i := 12) (v := ?_) rfl (by kernel_rfl) (by kernel_rfl) (by kernel_rfl) (fun _ _ _ h => h) (Or.inl ⟨by rfl, ?_⟩) (by assumption) ?_
  rotate_left
  · (intro w hSw; (try dsimp only at hSw); first | (go_simp; done) | (go_simp; with_reducible rfl))
  simp only [Act.put, List.getElem_toArray, List.getElem_cons_zero, List.getElem_cons_succ, List.setIfInBounds_toArray, List.set_cons_zero, List.set_cons_succ]
  refine wpAnyH_done (by kernel_rfl) ?_ _
  clear hH2 KS
  generalize (w7.setCell ⟨w.heap.size + 1 + 1, 0, none⟩ (.slice A5 r.1.1.length c5)).setCell ⟨w.heap.size + 1 + 1, 1, none⟩ (.int .i64 r.1.2) = w9 at *
  have g0 := K9.out.cell 0
  have g1 := K9.out.cell 1
  go_wp2_with fail
  refine bodyPost_ret (v := .tuple #[.agg #[.slice A5 r.1.1.length c5, .int .i64 r.1.2], .bool true]) (by simp [results, Try.results11, go_sem, g0, g1]) rfl ?_
  exact ⟨_, rfl, O9.out, T9.out, C9.out⟩
set_option maxRecDepth 100000 in
set_option maxHeartbeats 4000000 in
theorem stepq_destroy (A : Option Addr) (c : Nat) (id ow kd hs sl : Int) (nm : ByteArray) (w : World) (ht : TAt w B g m L nx K) (ho : rk.Own E6 w Bx 43 (.slice A L.length c) L) (G : Gd (L, nx)) (hl : L.length ≤ 4096) (hK : K ≤ 90000) (hB : B ≤ w.heap.size) (hX : Bx ≤ w.heap.size) :
    Calls Try.prog 11 #[.pointer (some ⟨g, 0, none⟩), .agg #[.slice A L.length c, .int .i64 nx], .agg #[.int .i64 3, .int .i64 id, .int .i64 ow, .string nm, .int .i64 kd, .int .i64 hs, .int .i64 sl]] w (StepQ Bx B g m (destroy (L, nx) id).1 (K + 2) w) := by
  obtain ⟨k, hk⟩ : ∃ k : Int, k = 3 := ⟨_, rfl⟩
  rw [← hk]
  have hm1 : Below w.heap.size w (w.alloc (.cells #[.slice A L.length c, .int .i64 nx] 29)) := made w _
  have hm2 : Below w.heap.size w ((w.alloc (.cells #[.slice A L.length c, .int .i64 nx] 29)).alloc (.cells #[.int .i64 k, .int .i64 id, .int .i64 ow, .string nm, .int .i64 kd, .int .i64 hs, .int .i64 sl] 33)) := hm1.alloc (by rw [asz]; omega) _
  have hm3 : Below w.heap.size w (((w.alloc (.cells #[.slice A L.length c, .int .i64 nx] 29)).alloc (.cells #[.int .i64 k, .int .i64 id, .int .i64 ow, .string nm, .int .i64 kd, .int .i64 hs, .int .i64 sl] 33)).alloc (.cells #[.slice none 0 0, .int .i64 0] 29)) := hm2.alloc (by rw [asz, asz]; omega) _
  have bx : Blk (((w.alloc (.cells #[.slice A L.length c, .int .i64 nx] 29)).alloc (.cells #[.int .i64 k, .int .i64 id, .int .i64 ow, .string nm, .int .i64 kd, .int .i64 hs, .int .i64 sl] 33)).alloc (.cells #[.slice none 0 0, .int .i64 0] 29)) w.heap.size 29 #[.slice A L.length c, .int .i64 nx] := ((Blk.new _ _ _).alloc _).alloc _
  have bo : Blk (((w.alloc (.cells #[.slice A L.length c, .int .i64 nx] 29)).alloc (.cells #[.int .i64 k, .int .i64 id, .int .i64 ow, .string nm, .int .i64 kd, .int .i64 hs, .int .i64 sl] 33)).alloc (.cells #[.slice none 0 0, .int .i64 0] 29)) (w.heap.size + 1) 33 #[.int .i64 k, .int .i64 id, .int .i64 ow, .string nm, .int .i64 kd, .int .i64 hs, .int .i64 sl] := by
    have := (Blk.new (w.alloc (.cells #[.slice A L.length c, .int .i64 nx] 29)) 33 #[.int .i64 k, .int .i64 id, .int .i64 ow, .string nm, .int .i64 kd, .int .i64 hs, .int .i64 sl]).alloc (.cells #[.slice none 0 0, .int .i64 0] 29)
    rw [asz] at this
    exact this
  have br : Blk (((w.alloc (.cells #[.slice A L.length c, .int .i64 nx] 29)).alloc (.cells #[.int .i64 k, .int .i64 id, .int .i64 ow, .string nm, .int .i64 kd, .int .i64 hs, .int .i64 sl] 33)).alloc (.cells #[.slice none 0 0, .int .i64 0] 29)) (w.heap.size + 1 + 1) 29 #[.slice none 0 0, .int .i64 0] := by
    have := Blk.new ((w.alloc (.cells #[.slice A L.length c, .int .i64 nx] 29)).alloc (.cells #[.int .i64 k, .int .i64 id, .int .i64 ow, .string nm, .int .i64 kd, .int .i64 hs, .int .i64 sl] 33)) 29 #[.slice none 0 0, .int .i64 0]
    rw [asz, asz] at this
    exact this
  have BX := Lib.hid bx
  have BO := Lib.hid bo
  have BR := Lib.hid br
  have M := Lib.hid hm3
  have HO := Lib.hid (ho.below hm3)
  have HT := Lib.hid (ht.below hm3)
  have HB := Lib.hid hB
  have HX := Lib.hid hX
  have GD := Lib.hid G
  have b0 := bx.cell 0
  have b1 := bx.cell 1
  have o0 := bo.cell 0
  have o1 := bo.cell 1
  have o2 := bo.cell 2
  have o3 := bo.cell 3
  have o4 := bo.cell 4
  have o5 := bo.cell 5
  have o6 := bo.cell 6
  have r0 := br.cell 0
  have r1 := br.cell 1
  have f0 := br.free 0
  have f1 := br.free 1
  clear ho ht hB hX hm1 hm2 hm3 bx bo br G
  generalize hw2 : ((w.alloc (.cells #[.slice A L.length c, .int .i64 nx] 29)).alloc (.cells #[.int .i64 k, .int .i64 id, .int .i64 ow, .string nm, .int .i64 kd, .int .i64 hs, .int .i64 sl] 33)).alloc (.cells #[.slice none 0 0, .int .i64 0] 29) = w2 at *
  subst hk
  have RM := Lib.hid (rdestroy_any A c L nx id Bx w2 HO.out (by omega) (Nat.le_trans HX.out M.out.size))
  have MK := Lib.hid (fun ws (h : TAt ws B g m L nx K) (hb : B ≤ ws.heap.size) => (destroy_any id h GD.out (by omega) (by omega) hb).mono (fun e w' ⟨a, b, cc⟩ => (show Did1 B g m (destroy (L, nx) id) (K + 2) ws e w' from ⟨a, b.mono (by omega), cc⟩)))
  generalize destroy (L, nx) id = r at *
  try dsimp only [pv] at RM MK
  go_enter Try.func11, Try.ntmps11
  go_wp2_with (rw [hw2])
  refine RM.out.mono ?_
  rintro e w5 ⟨v5, rfl, o5', b5⟩
  obtain ⟨A5, c5, rfl, -⟩ := o5'.open_
  have hl5 : r.1.1.length = r.1.1.length := rfl
  have BO5 := (BO.out.below b5 BO.out.lt)
  have BR5 := (BR.out.below b5 BR.out.lt)
  have B5 := up M.out b5 M.out.size
  have T5 := HT.out.below b5
  have mk6 := made w5 (.cells #[.slice A5 r.1.1.length c5, .int .i64 r.1.2] 29)
  have by6 : Blk (w5.alloc (.cells #[.slice A5 r.1.1.length c5, .int .i64 r.1.2] 29)) w5.heap.size 29 #[.slice A5 r.1.1.length c5, .int .i64 r.1.2] := Blk.new _ _ _
  have BY6 := Lib.hid by6
  have BO6 := Lib.hid (BO5.below mk6 BO5.lt)
  have BR6 := Lib.hid (BR5.below mk6 BR5.lt)
  have B6 := Lib.hid (up B5 mk6 B5.size)
  have T6 := Lib.hid (T5.below mk6)
  have O6 := Lib.hid (o5'.below mk6)
  have LTR := Lib.hid (show w.heap.size + 1 + 1 < w5.heap.size from BR5.lt)
  clear o5' b5 BO5 BR5 B5 T5 mk6 by6 hl5 b0 b1 o0 o1 o2 o3 o4 o5 o6 r0 r1 f0 f1
  have o0 := BO6.out.cell 0
  have o1 := BO6.out.cell 1
  have o2 := BO6.out.cell 2
  have o3 := BO6.out.cell 3
  have o4 := BO6.out.cell 4
  have o5 := BO6.out.cell 5
  have o6 := BO6.out.cell 6
  go_wp2_with fail
  have KS := Lib.hid (fun ws (h1 : Blk ws w5.heap.size 29 #[.slice A5 r.1.1.length c5, .int .i64 r.1.2]) (h2 : Blk ws (w.heap.size + 1) 33 #[.int .i64 3, .int .i64 id, .int .i64 ow, .string nm, .int .i64 kd, .int .i64 hs, .int .i64 sl]) => (show ws.cell? ⟨w5.heap.size, 0, none⟩ = some (.slice A5 r.1.1.length c5) ∧ ws.cell? ⟨w5.heap.size, 1, none⟩ = some (.int .i64 r.1.2) ∧ ws.cell? ⟨w.heap.size + 1, 1, none⟩ = some (.int .i64 id) ∧ ws.cell? ⟨w.heap.size + 1, 2, none⟩ = some (.int .i64 ow) ∧ ws.cell? ⟨w.heap.size + 1, 4, none⟩ = some (.int .i64 kd) ∧ ws.cell? ⟨w.heap.size + 1, 5, none⟩ = some (.int .i64 hs) ∧ ws.cell? ⟨w.heap.size + 1, 6, none⟩ = some (.int .i64 sl) from
    ⟨h1.cell 0, h1.cell 1, h2.cell 1, h2.cell 2, h2.cell 4, h2.cell 5, h2.cell 6⟩))
  generalize w5.alloc (.cells #[.slice A5 r.1.1.length c5, .int .i64 r.1.2] 29) = w6 at *
  have hd := (Below.refl w6.heap.size w6).drew
  have BY6' := Lib.hid (BY6.out.below hd BY6.out.lt)
  have BO6' := Lib.hid (BO6.out.below hd BO6.out.lt)
  have BR6' := Lib.hid (BR6.out.below hd BR6.out.lt)
  have B6' := Lib.hid (up B6.out hd B6.out.size)
  have T6' := Lib.hid (T6.out.below hd)
  have O6' := Lib.hid (O6.out.below hd)
  clear hd BY6 BO6 BR6 B6 T6 O6 o0 o1 o2 o3 o4 o5 o6
  refine wp_region_held_drew (S := fun ws => ws.cell? ⟨w5.heap.size, 0, none⟩ = some (.slice A5 r.1.1.length c5) ∧ ws.cell? ⟨w5.heap.size, 1, none⟩ = some (.int .i64 r.1.2) ∧ ws.cell? ⟨w.heap.size + 1, 1, none⟩ = some (.int .i64 id) ∧ ws.cell? ⟨w.heap.size + 1, 2, none⟩ = some (.int .i64 ow) ∧ ws.cell? ⟨w.heap.size + 1, 4, none⟩ = some (.int .i64 kd) ∧ ws.cell? ⟨w.heap.size + 1, 5, none⟩ = some (.int .i64 hs) ∧ ws.cell? ⟨w.heap.size + 1, 6, none⟩ = some (.int .i64 sl)) (by kernel_rfl) (KS.out _ BY6'.out BO6'.out) (fun hHeld => ?_)
  refine wpAnyH_take (i := 0) (v := ?_) rfl (by kernel_rfl) (by kernel_rfl) (by kernel_rfl) (fun _ _ _ h => h) (Or.inl ⟨by rfl, ?_⟩) (by assumption) ?_
  rotate_left
  · (intro w hSw; (try dsimp only at hSw); first | (go_simp; done) | (go_simp; with_reducible rfl))
  simp only [Act.put, List.getElem_toArray, List.getElem_cons_zero, List.getElem_cons_succ, List.setIfInBounds_toArray, List.set_cons_zero, List.set_cons_succ]
  refine wpAnyH_take (i := 1) (v := ?_) rfl (by kernel_rfl) (by kernel_rfl) (by kernel_rfl) (fun _ _ _ h => h) (Or.inl ⟨by rfl, ?_⟩) (by assumption) ?_
  rotate_left
  · (intro w hSw; (try dsimp only at hSw); first | (go_simp; done) | (go_simp; with_reducible rfl))
  simp only [Act.put, List.getElem_toArray, List.getElem_cons_zero, List.getElem_cons_succ, List.setIfInBounds_toArray, List.set_cons_zero, List.set_cons_succ]
  refine wpAnyH_take (i := 2) (v := ?_) rfl (by kernel_rfl) (by kernel_rfl) (by kernel_rfl) (fun _ _ _ h => h) (Or.inl ⟨by rfl, ?_⟩) (by assumption) ?_
  rotate_left
  · (intro w hSw; (try dsimp only at hSw); first | (go_simp; done) | (go_simp; with_reducible rfl))
  simp only [Act.put, List.getElem_toArray, List.getElem_cons_zero, List.getElem_cons_succ, List.setIfInBounds_toArray, List.set_cons_zero, List.set_cons_succ]
  refine wpAnyH_take (i := 3) (v := ?_) rfl (by kernel_rfl) (by kernel_rfl) (by kernel_rfl) (fun _ _ _ h => h) (Or.inl ⟨by rfl, ?_⟩) (by assumption) ?_
  rotate_left
  · (intro w hSw; (try dsimp only at hSw); first | (go_simp; done) | (go_simp; with_reducible rfl))
  simp only [Act.put, List.getElem_toArray, List.getElem_cons_zero, List.getElem_cons_succ, List.setIfInBounds_toArray, List.set_cons_zero, List.set_cons_succ]
  refine wpAnyH_take (i := 5) (v := ?_) rfl (by kernel_rfl) (by kernel_rfl) (by kernel_rfl) (fun _ _ _ h => h) (Or.inl ⟨by rfl, ?_⟩) (by assumption) ?_
  rotate_left
  · (intro w hSw; (try dsimp only at hSw); first | (go_simp; done) | (go_simp; with_reducible rfl))
  simp only [Act.put, List.getElem_toArray, List.getElem_cons_zero, List.getElem_cons_succ, List.setIfInBounds_toArray, List.set_cons_zero, List.set_cons_succ]
  generalize w6.drew = w6 at *
  refine wpAnyH_ready (rs := [4]) (by kernel_rfl) (by simp) ?_
  refine AllReadyH.cons rfl (fun K hK => ?_) AllReadyH.nil
  go_simp
  go_wp2_with (go_at_call 33; refine (MK.out _ T6'.out (Nat.le_trans HB.out B6'.out.size)).mono ?_; rintro e w7 ⟨rfl, t7, c7⟩)
  have BY7 := Lib.hid (c7.blk BY6'.out (by rfl))
  have BO7 := Lib.hid (c7.blk BO6'.out (by rfl))
  have BR7 := Lib.hid (c7.blk BR6'.out (by rfl))
  have O7 := Lib.hid (c7.own O6'.out (fun _ => by rfl))
  have T7 := Lib.hid t7
  have C7 := Lib.hid ((Ch.of_below B PK B6'.out).trans c7)
  clear t7 c7
  refine hK.out _ _ (KS.out _ BY7.out BO7.out) (fun hH1 => ?_)
  clear hK K hHeld
  have eb : (r.2 == r.2) = true := by simp
  refine wpAnyH_take (i := 6) (v := ?_) rfl (by kernel_rfl) (by kernel_rfl) (by kernel_rfl) (fun _ _ _ h => h) (Or.inl ⟨by rfl, ?_⟩) (by assumption) ?_
  rotate_left
  · (intro w hSw; (try dsimp only at hSw); first | (go_simp; done) | (go_simp; with_reducible rfl))
  simp only [Act.put, List.getElem_toArray, List.getElem_cons_zero, List.getElem_cons_succ, List.setIfInBounds_toArray, List.set_cons_zero, List.set_cons_succ]
  have r0 := BR7.out.cell 0
  have r1 := BR7.out.cell 1
  have f0 := BR7.out.free 0
  have f1 := BR7.out.free 1
  have S9 : Only (fun j => j = w.heap.size + 1 + 1) w7 ((w7.setCell ⟨w.heap.size + 1 + 1, 0, none⟩ (.slice A5 r.1.1.length c5)).setCell ⟨w.heap.size + 1 + 1, 1, none⟩ (.int .i64 r.1.2)) := ((Only.refl (fun j => j = w.heap.size + 1 + 1) w7).setCell (p := ⟨w.heap.size + 1 + 1, 0, none⟩) (.inl rfl) _).setCell (p := ⟨w.heap.size + 1 + 1, 1, none⟩) (.inl rfl) _
  have BY9 := Lib.hid (BY7.out.only S9 (by have := LTR.out; omega))
  have BO9 := Lib.hid (BO7.out.only S9 (by omega))
  have K9 := Lib.hid (blk2 BR7.out (.slice A5 r.1.1.length c5) (.int .i64 r.1.2))
  have O9 := Lib.hid (own2 O7.out BR7.out (by decide) (.slice A5 r.1.1.length c5) (.int .i64 r.1.2))
  have T9 := Lib.hid (T7.out.ch BR7.out (by decide) (by decide) (by decide) (.slice A5 r.1.1.length c5) (.int .i64 r.1.2))
  have C9 := Lib.hid (C7.out.late (b := w.heap.size + 1 + 1) (by omega) (.slice A5 r.1.1.length c5) (.int .i64 r.1.2))
  clear S9
  refine wpAnyH_ready (rs := [7]) (by kernel_rfl) (by simp) ?_
  refine AllReadyH.cons rfl (fun K hK => ?_) AllReadyH.nil
  go_simp
  refine hK.out _ _ (KS.out _ BY9.out BO9.out) (fun hH2 => ?_)
  clear hK K hH1 r0 r1 f0 f1
  refine wpAnyH_take (i := 8) (v := ?_) rfl (by kernel_rfl) (by kernel_rfl) (by kernel_rfl) (fun _ _ _ h => h) (Or.inl ⟨by rfl, ?_⟩) (by assumption) ?_
  rotate_left
  · (intro w hSw; (try dsimp only at hSw); first | (go_simp; done) | (go_simp; with_reducible rfl))
  simp only [Act.put, List.getElem_toArray, List.getElem_cons_zero, List.getElem_cons_succ, List.setIfInBounds_toArray, List.set_cons_zero, List.set_cons_succ]
  refine wpAnyH_done (by kernel_rfl) ?_ _
  clear hH2 KS
  generalize (w7.setCell ⟨w.heap.size + 1 + 1, 0, none⟩ (.slice A5 r.1.1.length c5)).setCell ⟨w.heap.size + 1 + 1, 1, none⟩ (.int .i64 r.1.2) = w9 at *
  have g0 := K9.out.cell 0
  have g1 := K9.out.cell 1
  go_wp2_with fail
  refine bodyPost_ret (v := .tuple #[.agg #[.slice A5 r.1.1.length c5, .int .i64 r.1.2], .bool true]) (by simp [results, Try.results11, go_sem, g0, g1]) rfl ?_
  exact ⟨_, rfl, O9.out, T9.out, C9.out⟩
set_option maxRecDepth 100000 in
set_option maxHeartbeats 4000000 in
theorem stepq_else (k : Int) (A : Option Addr) (c : Nat) (id ow kd hs sl : Int) (nm : ByteArray) (w : World) (ht : TAt w B g m L nx K) (ho : rk.Own E6 w Bx 43 (.slice A L.length c) L) (G : Gd (L, nx)) (hl : L.length ≤ 4096) (hK : K ≤ 90000) (hB : B ≤ w.heap.size) (hX : Bx ≤ w.heap.size) (h1 : k ≠ 1) (h2 : k ≠ 2) (h3 : k ≠ 3) :
    Calls Try.prog 11 #[.pointer (some ⟨g, 0, none⟩), .agg #[.slice A L.length c, .int .i64 nx], .agg #[.int .i64 k, .int .i64 id, .int .i64 ow, .string nm, .int .i64 kd, .int .i64 hs, .int .i64 sl]] w (StepQ Bx B g m (L, nx) (K + 2) w) := by
  have hm1 : Below w.heap.size w (w.alloc (.cells #[.slice A L.length c, .int .i64 nx] 29)) := made w _
  have hm2 : Below w.heap.size w ((w.alloc (.cells #[.slice A L.length c, .int .i64 nx] 29)).alloc (.cells #[.int .i64 k, .int .i64 id, .int .i64 ow, .string nm, .int .i64 kd, .int .i64 hs, .int .i64 sl] 33)) := hm1.alloc (by rw [asz]; omega) _
  have hm3 : Below w.heap.size w (((w.alloc (.cells #[.slice A L.length c, .int .i64 nx] 29)).alloc (.cells #[.int .i64 k, .int .i64 id, .int .i64 ow, .string nm, .int .i64 kd, .int .i64 hs, .int .i64 sl] 33)).alloc (.cells #[.slice none 0 0, .int .i64 0] 29)) := hm2.alloc (by rw [asz, asz]; omega) _
  have bx : Blk (((w.alloc (.cells #[.slice A L.length c, .int .i64 nx] 29)).alloc (.cells #[.int .i64 k, .int .i64 id, .int .i64 ow, .string nm, .int .i64 kd, .int .i64 hs, .int .i64 sl] 33)).alloc (.cells #[.slice none 0 0, .int .i64 0] 29)) w.heap.size 29 #[.slice A L.length c, .int .i64 nx] := ((Blk.new _ _ _).alloc _).alloc _
  have bo : Blk (((w.alloc (.cells #[.slice A L.length c, .int .i64 nx] 29)).alloc (.cells #[.int .i64 k, .int .i64 id, .int .i64 ow, .string nm, .int .i64 kd, .int .i64 hs, .int .i64 sl] 33)).alloc (.cells #[.slice none 0 0, .int .i64 0] 29)) (w.heap.size + 1) 33 #[.int .i64 k, .int .i64 id, .int .i64 ow, .string nm, .int .i64 kd, .int .i64 hs, .int .i64 sl] := by
    have := (Blk.new (w.alloc (.cells #[.slice A L.length c, .int .i64 nx] 29)) 33 #[.int .i64 k, .int .i64 id, .int .i64 ow, .string nm, .int .i64 kd, .int .i64 hs, .int .i64 sl]).alloc (.cells #[.slice none 0 0, .int .i64 0] 29)
    rw [asz] at this
    exact this
  have br : Blk (((w.alloc (.cells #[.slice A L.length c, .int .i64 nx] 29)).alloc (.cells #[.int .i64 k, .int .i64 id, .int .i64 ow, .string nm, .int .i64 kd, .int .i64 hs, .int .i64 sl] 33)).alloc (.cells #[.slice none 0 0, .int .i64 0] 29)) (w.heap.size + 1 + 1) 29 #[.slice none 0 0, .int .i64 0] := by
    have := Blk.new ((w.alloc (.cells #[.slice A L.length c, .int .i64 nx] 29)).alloc (.cells #[.int .i64 k, .int .i64 id, .int .i64 ow, .string nm, .int .i64 kd, .int .i64 hs, .int .i64 sl] 33)) 29 #[.slice none 0 0, .int .i64 0]
    rw [asz, asz] at this
    exact this
  have BX := Lib.hid bx
  have BO := Lib.hid bo
  have BR := Lib.hid br
  have M := Lib.hid hm3
  have HO := Lib.hid (ho.below hm3)
  have HT := Lib.hid (ht.below hm3)
  have HB := Lib.hid hB
  have HX := Lib.hid hX
  have GD := Lib.hid G
  have b0 := bx.cell 0
  have b1 := bx.cell 1
  have o0 := bo.cell 0
  have o1 := bo.cell 1
  have o2 := bo.cell 2
  have o3 := bo.cell 3
  have o4 := bo.cell 4
  have o5 := bo.cell 5
  have o6 := bo.cell 6
  have r0 := br.cell 0
  have r1 := br.cell 1
  have f0 := br.free 0
  have f1 := br.free 1
  clear ho ht hB hX hm1 hm2 hm3 bx bo br G
  generalize hw2 : ((w.alloc (.cells #[.slice A L.length c, .int .i64 nx] 29)).alloc (.cells #[.int .i64 k, .int .i64 id, .int .i64 ow, .string nm, .int .i64 kd, .int .i64 hs, .int .i64 sl] 33)).alloc (.cells #[.slice none 0 0, .int .i64 0] 29) = w2 at *
  have q1 : (k == 1) = false := by simpa using h1
  have q2 : (k == 2) = false := by simpa using h2
  have q3 : (k == 3) = false := by simpa using h3
  clear h1 h2 h3
  go_enter Try.func11, Try.ntmps11
  go_wp2_with (rw [hw2])
  have K := blk2 BR.out (.slice A L.length c) (.int .i64 nx)
  have g0 := K.cell 0
  have g1 := K.cell 1
  refine bodyPost_ret (v := .tuple #[.agg #[.slice A L.length c, .int .i64 nx], .bool true]) (by simp [results, Try.results11, go_sem, g0, g1]) rfl ?_
  exact ⟨_, rfl, own2 HO.out BR.out (by decide) _ _, (HT.out.ch BR.out (by decide) (by decide) (by decide) _ _).mono (by omega), (Ch.of_below B PK M.out).late (by omega) _ _⟩
theorem stepq_any (A : Option Addr) (c : Nat) (o : OpR) (hok : o.Ok) (w : World) (ht : TAt w B g m L nx K) (ho : rk.Own E6 w Bx 43 (.slice A L.length c) L) (G : Gd (L, nx)) (hl : L.length ≤ 4096) (hK : K ≤ 90000) (hB : B ≤ w.heap.size) (hX : Bx ≤ w.heap.size) :
    Calls Try.prog 11 #[.pointer (some ⟨g, 0, none⟩), .agg #[.slice A L.length c, .int .i64 nx], .agg #[.int .i64 o.k, .int .i64 o.id, .int .i64 o.ow, .string o.nm, .int .i64 o.kd, .int .i64 o.hs, .int .i64 o.sl]] w (StepQ Bx B g m (stepS (L, nx) o) (K + 2) w) := by
  have hn : o.nm.size ≤ 9223372036854775807 := by have := hok.wn; unfold maxLen at this; omega
  unfold stepS
  by_cases h1 : o.k = 1
  · rw [if_pos h1, h1]
    exact stepq_make A c o.id o.ow o.kd o.hs o.sl o.nm w ht ho G hl hK hB hX hn hok.wo
  rw [if_neg h1]
  by_cases h2 : o.k = 2
  · rw [if_pos h2, h2]
    exact stepq_move A c o.id o.ow o.kd o.hs o.sl o.nm w ht ho G hl hK hB hX hok.wp
  rw [if_neg h2]
  by_cases h3 : o.k = 3
  · rw [if_pos h3, h3]
    exact stepq_destroy A c o.id o.ow o.kd o.hs o.sl o.nm w ht ho G hl hK hB hX
  rw [if_neg h3]
  exact stepq_else o.k A c o.id o.ow o.kd o.hs o.sl o.nm w ht ho G hl hK hB hX h1 h2 h3
end Go.Proofs.Ytckdfdnhoionnaa.tg
