/-
  One call of both: the deeds and the list.
-/
import Derived.Test.YtmnkkdalobdabaaDeedI
import Derived.Test.YtmnkkdalobdabaaDeedH
namespace Go.Proofs.Ytmnkkdalobdabaa.dd
open Go.RowKit
open base (ret_bool ret_int made up Blk Only Nums)
open rk
set_option linter.unusedVariables false
set_option linter.unusedSimpArgs false

theorem own_tch {w w' : World} {B g : Nat} {v : Value} {L : List D} {cs : Array Value} (h : Own E3 w B 45 v L) (hg : Blk w g 58 cs) (ht : Tch g w w') : Own E3 w' B 45 v L := h.only ht (by
  intro k hk
  obtain ⟨_, _, cs', h1⟩ := h.lt' k hk
  rintro (q | ⟨cs2, q⟩)
  · exact ty_ne h1 hg (by decide) q
  · exact ty_ne h1 q (by decide) rfl)
theorem DAt.blk {w : World} {B g : Nat} {L : List D} {nx : Int} (h : DAt w B g L nx) : ∃ cs, Blk w g 58 cs := by
  obtain ⟨v, h1, _⟩ := h.ex
  exact ⟨_, h1⟩
def stepS (s : St) (k a b : Int) : St := if k = 1 then (issue s a b).1 else if k = 2 then (move s a b).1 else if k = 3 then (void s a).1 else s
def StepP (B g : Nat) (s : St) (w : World) (e : Ending) (w' : World) : Prop :=
  ∃ v, e = .returned (.tuple #[.agg #[v, .int .i64 s.2], .bool true]) ∧ DAt w' B g s.1 s.2 ∧ Own E3 w' B 45 v s.1 ∧ Below B w w' ∧ Tch g w w'
theorem Tch.later {g : Nat} {w w4 w5 : World} (hb : Below w.heap.size w w4) (h : Tch g w4 w5) : Tch g w w5 :=
  Only.trans (Only.below (Only.refl _ w) hb (fun i h1 h2 => by omega)) h (fun i hi hs => hs.imp id (fun ⟨cs, q⟩ => ⟨cs, (hb.block i hi).symm.trans q⟩))
theorem DAt.set2 {w : World} {B g r : Nat} {L : List D} {nx : Int} {t : TypeId} {cs : Array Value} (h : DAt w B g L nx) (hb : Blk w r t cs) (h1 : t ≠ 58) (h2 : t ≠ 40) (v0 v1 : Value) : DAt ((w.setCell ⟨r, 0, none⟩ v0).setCell ⟨r, 1, none⟩ v1) B g L nx := by
  obtain ⟨v, hk, ho⟩ := h.ex
  have hne := ty_ne hk hb (fun e => h1 e.symm)
  exact ⟨⟨v, (hk.far (p := ⟨r, 0, none⟩) hne v0).far (p := ⟨r, 1, none⟩) hne v1, own2 ho hb (fun e => h2 e.symm) v0 v1⟩, h.ge⟩

set_option maxRecDepth 100000 in
set_option maxHeartbeats 4000000 in
theorem step_issue (A : Option Addr) (c : Nat) (L : List D) (nx a b : Int) (B g : Nat) (w : World) (hd : DAt w B g L nx) (ho : Own E3 w B 45 (.slice A L.length c) L) (hl : L.length ≤ 100000) (hn : 0 ≤ nx ∧ nx ≤ 4398046511104) (hB : B ≤ w.heap.size) :
    Calls Try.prog 11 #[.pointer (some ⟨g, 0, none⟩), .agg #[.slice A L.length c, .int .i64 nx], .agg #[.int .i64 1, .int .i64 a, .int .i64 b]] w (StepP B g (issue (L, nx) a b).1 w) := by
  have hm1 : Below w.heap.size w (w.alloc (.cells #[.slice A L.length c, .int .i64 nx] 28)) := made w _
  have hm2 : Below w.heap.size w ((w.alloc (.cells #[.slice A L.length c, .int .i64 nx] 28)).alloc (.cells #[.int .i64 1, .int .i64 a, .int .i64 b] 30)) := hm1.alloc (by rw [asz]; omega) _
  have hm3 : Below w.heap.size w (((w.alloc (.cells #[.slice A L.length c, .int .i64 nx] 28)).alloc (.cells #[.int .i64 1, .int .i64 a, .int .i64 b] 30)).alloc (.cells #[.slice none 0 0, .int .i64 0] 28)) := hm2.alloc (by rw [asz, asz]; omega) _
  have bx : Blk (((w.alloc (.cells #[.slice A L.length c, .int .i64 nx] 28)).alloc (.cells #[.int .i64 1, .int .i64 a, .int .i64 b] 30)).alloc (.cells #[.slice none 0 0, .int .i64 0] 28)) w.heap.size 28 #[.slice A L.length c, .int .i64 nx] := ((Blk.new _ _ _).alloc _).alloc _
  have bo : Blk (((w.alloc (.cells #[.slice A L.length c, .int .i64 nx] 28)).alloc (.cells #[.int .i64 1, .int .i64 a, .int .i64 b] 30)).alloc (.cells #[.slice none 0 0, .int .i64 0] 28)) (w.heap.size + 1) 30 #[.int .i64 1, .int .i64 a, .int .i64 b] := by
    have := (Blk.new (w.alloc (.cells #[.slice A L.length c, .int .i64 nx] 28)) 30 #[.int .i64 1, .int .i64 a, .int .i64 b]).alloc (.cells #[.slice none 0 0, .int .i64 0] 28)
    rw [asz] at this
    exact this
  have br : Blk (((w.alloc (.cells #[.slice A L.length c, .int .i64 nx] 28)).alloc (.cells #[.int .i64 1, .int .i64 a, .int .i64 b] 30)).alloc (.cells #[.slice none 0 0, .int .i64 0] 28)) (w.heap.size + 1 + 1) 28 #[.slice none 0 0, .int .i64 0] := by
    have := Blk.new ((w.alloc (.cells #[.slice A L.length c, .int .i64 nx] 28)).alloc (.cells #[.int .i64 1, .int .i64 a, .int .i64 b] 30)) 28 #[.slice none 0 0, .int .i64 0]
    rw [asz, asz] at this
    exact this
  have BX := Lib.hid bx
  have BO := Lib.hid bo
  have BR := Lib.hid br
  have M := Lib.hid hm3
  have HO := Lib.hid (ho.below hm3)
  have HD := Lib.hid (hd.below hm3)
  have HB := Lib.hid hB
  have x0 := bx.cell 0
  have x1 := bx.cell 1
  have o0 := bo.cell 0
  have o1 := bo.cell 1
  have o2 := bo.cell 2
  clear ho hd hB hm1 hm2 hm3 bx bo br
  generalize hw2 : (((w.alloc (.cells #[.slice A L.length c, .int .i64 nx] 28)).alloc (.cells #[.int .i64 1, .int .i64 a, .int .i64 b] 30)).alloc (.cells #[.slice none 0 0, .int .i64 0] 28)) = w2 at *
  have RI := Lib.hid (rissue_any A c L nx a b B w2 HO.out hl hn (Nat.le_trans HB.out M.out.size))
  have IG := Lib.hid (fun ws (h : DAt ws B g L nx) (h2 : B ≤ ws.heap.size) => issue_any B g L nx a b ws h hl hn h2)
  generalize issue (L, nx) a b = r at *
  obtain ⟨⟨L3, n3⟩, id3, er3⟩ := r
  go_enter Try.func11, Try.ntmps11
  go_wp2_with (rw [hw2])
  refine RI.out.mono ?_
  rintro e w3 ⟨v3, rfl, ho3, hb3⟩
  have HD3 := Lib.hid (HD.out.below hb3)
  have BO3 := Lib.hid (BO.out.below hb3 BO.out.lt)
  have BR3 := Lib.hid (BR.out.below hb3 BR.out.lt)
  have B3 := Lib.hid (up M.out hb3 M.out.size)
  have R3 := Lib.hid hb3.size
  obtain ⟨A3, c3, rfl, -⟩ := ho3.open_
  have O3 := Lib.hid ho3
  have hm4 := made w3 (.cells #[.slice A3 L3.length c3, .int .i64 n3] 28)
  have HD4 := Lib.hid (HD3.out.below hm4)
  have BY4 := Lib.hid (Blk.new w3 28 #[.slice A3 L3.length c3, .int .i64 n3])
  have BO4 := Lib.hid (BO3.out.below hm4 BO3.out.lt)
  have BR4 := Lib.hid (BR3.out.below hm4 BR3.out.lt)
  have B4 := Lib.hid (up B3.out hm4 B3.out.size)
  have O4 := Lib.hid (O3.out.below hm4)
  clear ho3 hb3 hm4 x0 x1 o0 o1 o2 HD3 BO3 BR3 O3 B3
  generalize hw4 : w3.alloc (.cells #[.slice A3 L3.length c3, .int .i64 n3] 28) = w4 at *
  have o1 := BO4.out.cell 1
  have o2 := BO4.out.cell 2
  have IM := Lib.hid (IG.out w4 HD4.out (Nat.le_trans HB.out B4.out.size))
  go_wp2_with (rw [hw4])
  refine IM.out.mono ?_
  rintro e w5 ⟨rfl, hd5, hb5, ht5⟩
  clear o1 o2
  have hT := ht5
  have B5 := Lib.hid ((B4.out.mono HB.out).trans hb5)
  have D5 := Lib.hid hd5
  have T5 := Lib.hid (Tch.later B4.out ht5)
  obtain ⟨csg, hcsg⟩ := HD4.out.blk
  have O5 := Lib.hid (own_tch O4.out hcsg ht5)
  have BY5 := Lib.hid (ht5.blk BY4.out (ty_ne BY4.out hcsg (by decide)) (by decide))
  have BR5 := Lib.hid (ht5.blk BR4.out (ty_ne BR4.out hcsg (by decide)) (by decide))
  have BO5 := Lib.hid (ht5.blk BO4.out (ty_ne BO4.out hcsg (by decide)) (by decide))
  have y0 := BY5.out.cell 0
  have y1 := BY5.out.cell 1
  have r0 := BR5.out.cell 0
  have r1 := BR5.out.cell 1
  have f0 := BR5.out.free 0
  have f1 := BR5.out.free 1
  clear hT hd5 hb5 ht5 IG IM RI
  go_wp2_with fail
  have K := blk2 BR5.out (.slice A3 L3.length c3) (.int .i64 n3)
  have P5 := Lib.hid (own2 O5.out BR5.out (by decide) (.slice A3 L3.length c3) (.int .i64 n3))
  have T6 := Lib.hid ((T5.out.setCell (p := ⟨w.heap.size + 1 + 1, 0, none⟩) (.inr (show w.heap.size ≤ w.heap.size + 1 + 1 by omega)) (.slice A3 L3.length c3)).setCell (p := ⟨w.heap.size + 1 + 1, 1, none⟩) (.inr (show w.heap.size ≤ w.heap.size + 1 + 1 by omega)) (.int .i64 n3))
  have D6 := Lib.hid (D5.out.set2 BR5.out (by decide) (by decide) (.slice A3 L3.length c3) (.int .i64 n3))
  have Q5 := Lib.hid (below2 B5.out (show B ≤ w.heap.size + 1 + 1 from Nat.le_trans HB.out (by omega)) (.slice A3 L3.length c3) (.int .i64 n3))
  have g0 := K.cell 0
  have g1 := K.cell 1
  refine bodyPost_ret (v := .tuple #[.agg #[.slice A3 L3.length c3, .int .i64 n3], .bool true]) (by simp [results, Try.results11, go_sem, g0, g1]) rfl ?_
  exact ⟨_, rfl, D6.out, P5.out, Q5.out, T6.out⟩

set_option maxRecDepth 100000 in
set_option maxHeartbeats 4000000 in
theorem step_move (A : Option Addr) (c : Nat) (L : List D) (nx a b : Int) (B g : Nat) (w : World) (hd : DAt w B g L nx) (ho : Own E3 w B 45 (.slice A L.length c) L) (hl : L.length ≤ 100000) (hn : 0 ≤ nx ∧ nx ≤ 4398046511104) (hB : B ≤ w.heap.size) :
    Calls Try.prog 11 #[.pointer (some ⟨g, 0, none⟩), .agg #[.slice A L.length c, .int .i64 nx], .agg #[.int .i64 2, .int .i64 a, .int .i64 b]] w (StepP B g (move (L, nx) a b).1 w) := by
  have hm1 : Below w.heap.size w (w.alloc (.cells #[.slice A L.length c, .int .i64 nx] 28)) := made w _
  have hm2 : Below w.heap.size w ((w.alloc (.cells #[.slice A L.length c, .int .i64 nx] 28)).alloc (.cells #[.int .i64 2, .int .i64 a, .int .i64 b] 30)) := hm1.alloc (by rw [asz]; omega) _
  have hm3 : Below w.heap.size w (((w.alloc (.cells #[.slice A L.length c, .int .i64 nx] 28)).alloc (.cells #[.int .i64 2, .int .i64 a, .int .i64 b] 30)).alloc (.cells #[.slice none 0 0, .int .i64 0] 28)) := hm2.alloc (by rw [asz, asz]; omega) _
  have bx : Blk (((w.alloc (.cells #[.slice A L.length c, .int .i64 nx] 28)).alloc (.cells #[.int .i64 2, .int .i64 a, .int .i64 b] 30)).alloc (.cells #[.slice none 0 0, .int .i64 0] 28)) w.heap.size 28 #[.slice A L.length c, .int .i64 nx] := ((Blk.new _ _ _).alloc _).alloc _
  have bo : Blk (((w.alloc (.cells #[.slice A L.length c, .int .i64 nx] 28)).alloc (.cells #[.int .i64 2, .int .i64 a, .int .i64 b] 30)).alloc (.cells #[.slice none 0 0, .int .i64 0] 28)) (w.heap.size + 1) 30 #[.int .i64 2, .int .i64 a, .int .i64 b] := by
    have := (Blk.new (w.alloc (.cells #[.slice A L.length c, .int .i64 nx] 28)) 30 #[.int .i64 2, .int .i64 a, .int .i64 b]).alloc (.cells #[.slice none 0 0, .int .i64 0] 28)
    rw [asz] at this
    exact this
  have br : Blk (((w.alloc (.cells #[.slice A L.length c, .int .i64 nx] 28)).alloc (.cells #[.int .i64 2, .int .i64 a, .int .i64 b] 30)).alloc (.cells #[.slice none 0 0, .int .i64 0] 28)) (w.heap.size + 1 + 1) 28 #[.slice none 0 0, .int .i64 0] := by
    have := Blk.new ((w.alloc (.cells #[.slice A L.length c, .int .i64 nx] 28)).alloc (.cells #[.int .i64 2, .int .i64 a, .int .i64 b] 30)) 28 #[.slice none 0 0, .int .i64 0]
    rw [asz, asz] at this
    exact this
  have BX := Lib.hid bx
  have BO := Lib.hid bo
  have BR := Lib.hid br
  have M := Lib.hid hm3
  have HO := Lib.hid (ho.below hm3)
  have HD := Lib.hid (hd.below hm3)
  have HB := Lib.hid hB
  have x0 := bx.cell 0
  have x1 := bx.cell 1
  have o0 := bo.cell 0
  have o1 := bo.cell 1
  have o2 := bo.cell 2
  clear ho hd hB hm1 hm2 hm3 bx bo br
  generalize hw2 : (((w.alloc (.cells #[.slice A L.length c, .int .i64 nx] 28)).alloc (.cells #[.int .i64 2, .int .i64 a, .int .i64 b] 30)).alloc (.cells #[.slice none 0 0, .int .i64 0] 28)) = w2 at *
  have RI := Lib.hid (rmove_any A c L nx a b B w2 HO.out hl (Nat.le_trans HB.out M.out.size))
  have IG := Lib.hid (fun ws (h : DAt ws B g L nx) (h2 : B ≤ ws.heap.size) => move_any B g L nx a b ws h hl h2)
  generalize move (L, nx) a b = r at *
  obtain ⟨⟨L3, n3⟩, er3⟩ := r
  go_enter Try.func11, Try.ntmps11
  go_wp2_with (rw [hw2])
  refine RI.out.mono ?_
  rintro e w3 ⟨v3, rfl, ho3, hb3⟩
  have HD3 := Lib.hid (HD.out.below hb3)
  have BO3 := Lib.hid (BO.out.below hb3 BO.out.lt)
  have BR3 := Lib.hid (BR.out.below hb3 BR.out.lt)
  have B3 := Lib.hid (up M.out hb3 M.out.size)
  have R3 := Lib.hid hb3.size
  obtain ⟨A3, c3, rfl, -⟩ := ho3.open_
  have O3 := Lib.hid ho3
  have hm4 := made w3 (.cells #[.slice A3 L3.length c3, .int .i64 n3] 28)
  have HD4 := Lib.hid (HD3.out.below hm4)
  have BY4 := Lib.hid (Blk.new w3 28 #[.slice A3 L3.length c3, .int .i64 n3])
  have BO4 := Lib.hid (BO3.out.below hm4 BO3.out.lt)
  have BR4 := Lib.hid (BR3.out.below hm4 BR3.out.lt)
  have B4 := Lib.hid (up B3.out hm4 B3.out.size)
  have O4 := Lib.hid (O3.out.below hm4)
  clear ho3 hb3 hm4 x0 x1 o0 o1 o2 HD3 BO3 BR3 O3 B3
  generalize hw4 : w3.alloc (.cells #[.slice A3 L3.length c3, .int .i64 n3] 28) = w4 at *
  have IM := Lib.hid (IG.out w4.drew (HD4.out.below ((Below.refl _ _).drew)) (Nat.le_trans HB.out B4.out.size))
  have SS := Lib.hid (show w4.drew.cell? ⟨w3.heap.size, 0, none⟩ = some (.slice A3 L3.length c3) ∧ w4.drew.cell? ⟨w3.heap.size, 1, none⟩ = some (.int .i64 n3) ∧ w4.drew.cell? ⟨w.heap.size + 1, 1, none⟩ = some (.int .i64 a) ∧ w4.drew.cell? ⟨w.heap.size + 1, 2, none⟩ = some (.int .i64 b) from ⟨BY4.out.cell 0, BY4.out.cell 1, BO4.out.cell 1, BO4.out.cell 2⟩)
  go_wp2_with (rw [hw4])
  refine wp_region_held_drew (S := (fun ws => ws.cell? ⟨w3.heap.size, 0, none⟩ = some (.slice A3 L3.length c3) ∧ ws.cell? ⟨w3.heap.size, 1, none⟩ = some (.int .i64 n3) ∧ ws.cell? ⟨w.heap.size + 1, 1, none⟩ = some (.int .i64 a) ∧ ws.cell? ⟨w.heap.size + 1, 2, none⟩ = some (.int .i64 b))) (by kernel_rfl) SS.out (fun hHeld => ?_)
  refine wpAnyH_take (i := 0) (v := ?_) rfl (by kernel_rfl) (by kernel_rfl) (by kernel_rfl) (fun _ _ _ h => h) (Or.inl ⟨by rfl, ?_⟩) (by assumption) ?_
  rotate_left
  · (intro w hSw; (try dsimp only at hSw); first | (go_simp; done) | (go_simp; with_reducible rfl))
  simp only [Act.put, List.getElem_toArray, List.getElem_cons_zero, List.getElem_cons_succ, List.setIfInBounds_toArray, List.set_cons_zero, List.set_cons_succ]
  refine wpAnyH_take (i := 1) (v := ?_) rfl (by kernel_rfl) (by kernel_rfl) (by kernel_rfl) (fun _ _ _ h => h) (Or.inl ⟨by rfl, ?_⟩) (by assumption) ?_
  rotate_left
  · (intro w hSw; (try dsimp only at hSw); first | (go_simp; done) | (go_simp; with_reducible rfl))
  simp only [Act.put, List.getElem_toArray, List.getElem_cons_zero, List.getElem_cons_succ, List.setIfInBounds_toArray, List.set_cons_zero, List.set_cons_succ]
  refine wpAnyH_take (i := 2) (v := ?_) rfl (by kernel_rfl) (by kernel_rfl) (by kernel_rfl) (fun _ _ _ h => h) (Or.inl ⟨by rfl, ?_⟩) (by assumption) ?_
  rotate_left
  · (intro w hSw; (try dsimp only at hSw); first | (go_simp; done) | (go_simp; with_reducible rfl))
  simp only [Act.put, List.getElem_toArray, List.getElem_cons_zero, List.getElem_cons_succ, List.setIfInBounds_toArray, List.set_cons_zero, List.set_cons_succ]
  refine wpAnyH_take (i := 3) (v := ?_) rfl (by kernel_rfl) (by kernel_rfl) (by kernel_rfl) (fun _ _ _ h => h) (Or.inl ⟨by rfl, ?_⟩) (by assumption) ?_
  rotate_left
  · (intro w hSw; (try dsimp only at hSw); first | (go_simp; done) | (go_simp; with_reducible rfl))
  simp only [Act.put, List.getElem_toArray, List.getElem_cons_zero, List.getElem_cons_succ, List.setIfInBounds_toArray, List.set_cons_zero, List.set_cons_succ]
  refine wpAnyH_take (i := 4) (v := ?_) rfl (by kernel_rfl) (by kernel_rfl) (by kernel_rfl) (fun _ _ _ h => h) (Or.inl ⟨by rfl, ?_⟩) (by assumption) ?_
  rotate_left
  · (intro w hSw; (try dsimp only at hSw); first | (go_simp; done) | (go_simp; with_reducible rfl))
  simp only [Act.put, List.getElem_toArray, List.getElem_cons_zero, List.getElem_cons_succ, List.setIfInBounds_toArray, List.set_cons_zero, List.set_cons_succ]
  refine wpAnyH_take (i := 5) (v := ?_) rfl (by kernel_rfl) (by kernel_rfl) (by kernel_rfl) (fun _ _ _ h => h) (Or.inl ⟨by rfl, ?_⟩) (by assumption) ?_
  rotate_left
  · (intro w hSw; (try dsimp only at hSw); first | (go_simp; done) | (go_simp; with_reducible rfl))
  simp only [Act.put, List.getElem_toArray, List.getElem_cons_zero, List.getElem_cons_succ, List.setIfInBounds_toArray, List.set_cons_zero, List.set_cons_succ]
  refine wpAnyH_take (i := 7) (v := ?_) rfl (by kernel_rfl) (by kernel_rfl) (by kernel_rfl) (fun _ _ _ h => h) (Or.inl ⟨by rfl, ?_⟩) (by assumption) ?_
  rotate_left
  · (intro w hSw; (try dsimp only at hSw); first | (go_simp; done) | (go_simp; with_reducible rfl))
  simp only [Act.put, List.getElem_toArray, List.getElem_cons_zero, List.getElem_cons_succ, List.setIfInBounds_toArray, List.set_cons_zero, List.set_cons_succ]
  refine wpAnyH_ready (rs := [6]) (by kernel_rfl) (by simp) ?_
  refine AllReadyH.cons rfl (fun K hK => ?_) AllReadyH.nil
  go_simp
  go_wp2_with (go_at_call 29; refine IM.out.mono ?_; rintro e w5 ⟨rfl, hd5, hb5, ht5⟩)
  have hT := ht5
  have B5 := Lib.hid ((B4.out.mono HB.out).drew.trans hb5)
  have D5 := Lib.hid hd5
  have T5 := Lib.hid (Tch.later B4.out.drew ht5)
  obtain ⟨csg, hcsg⟩ := (HD4.out.below ((Below.refl _ _).drew)).blk
  have O5 := Lib.hid (own_tch (rk.Own.below O4.out ((Below.refl _ _).drew)) hcsg ht5)
  have BY5 := Lib.hid (ht5.blk (BY4.out.drewN 1) (ty_ne (BY4.out.drewN 1) hcsg (by decide)) (by decide))
  have BR5 := Lib.hid (ht5.blk (BR4.out.drewN 1) (ty_ne (BR4.out.drewN 1) hcsg (by decide)) (by decide))
  have BO5 := Lib.hid (ht5.blk (BO4.out.drewN 1) (ty_ne (BO4.out.drewN 1) hcsg (by decide)) (by decide))
  have y0 := BY5.out.cell 0
  have y1 := BY5.out.cell 1
  have r0 := BR5.out.cell 0
  have r1 := BR5.out.cell 1
  have f0 := BR5.out.free 0
  have f1 := BR5.out.free 1
  have S5 := Lib.hid (show w5.cell? ⟨w3.heap.size, 0, none⟩ = some (.slice A3 L3.length c3) ∧ w5.cell? ⟨w3.heap.size, 1, none⟩ = some (.int .i64 n3) ∧ w5.cell? ⟨w.heap.size + 1, 1, none⟩ = some (.int .i64 a) ∧ w5.cell? ⟨w.heap.size + 1, 2, none⟩ = some (.int .i64 b) from ⟨BY5.out.cell 0, BY5.out.cell 1, BO5.out.cell 1, BO5.out.cell 2⟩)
  refine hK.out _ _ S5.out (fun hH1 => ?_)
  clear hK K hHeld hT hd5 hb5 ht5 IM IG RI y0 y1
  refine wpAnyH_take (i := 8) (v := ?_) rfl (by kernel_rfl) (by kernel_rfl) (by kernel_rfl) (fun _ _ _ h => h) (Or.inl ⟨by rfl, ?_⟩) (by assumption) ?_
  rotate_left
  · (intro w hSw; (try dsimp only at hSw); first | (go_simp; done) | (go_simp; with_reducible rfl))
  simp only [Act.put, List.getElem_toArray, List.getElem_cons_zero, List.getElem_cons_succ, List.setIfInBounds_toArray, List.set_cons_zero, List.set_cons_succ]
  have P5 := Lib.hid (own2 O5.out BR5.out (by decide) (.slice A3 L3.length c3) (.int .i64 n3))
  have T6 := Lib.hid ((T5.out.setCell (p := ⟨w.heap.size + 1 + 1, 0, none⟩) (.inr (show w.heap.size ≤ w.heap.size + 1 + 1 by omega)) (.slice A3 L3.length c3)).setCell (p := ⟨w.heap.size + 1 + 1, 1, none⟩) (.inr (show w.heap.size ≤ w.heap.size + 1 + 1 by omega)) (.int .i64 n3))
  have D6 := Lib.hid (D5.out.set2 BR5.out (by decide) (by decide) (.slice A3 L3.length c3) (.int .i64 n3))
  have Q5 := Lib.hid (below2 B5.out (show B ≤ w.heap.size + 1 + 1 from Nat.le_trans HB.out (by omega)) (.slice A3 L3.length c3) (.int .i64 n3))
  have hne : w3.heap.size ≠ w.heap.size + 1 + 1 := by
    have h1 := BR.out.lt
    have h2 := R3.out
    omega
  have S6 := Lib.hid (show ((w5.setCell ⟨w.heap.size + 1 + 1, 0, none⟩ (.slice A3 L3.length c3)).setCell ⟨w.heap.size + 1 + 1, 1, none⟩ (.int .i64 n3)).cell? ⟨w3.heap.size, 0, none⟩ = some (.slice A3 L3.length c3) ∧ ((w5.setCell ⟨w.heap.size + 1 + 1, 0, none⟩ (.slice A3 L3.length c3)).setCell ⟨w.heap.size + 1 + 1, 1, none⟩ (.int .i64 n3)).cell? ⟨w3.heap.size, 1, none⟩ = some (.int .i64 n3) ∧ ((w5.setCell ⟨w.heap.size + 1 + 1, 0, none⟩ (.slice A3 L3.length c3)).setCell ⟨w.heap.size + 1 + 1, 1, none⟩ (.int .i64 n3)).cell? ⟨w.heap.size + 1, 1, none⟩ = some (.int .i64 a) ∧ ((w5.setCell ⟨w.heap.size + 1 + 1, 0, none⟩ (.slice A3 L3.length c3)).setCell ⟨w.heap.size + 1 + 1, 1, none⟩ (.int .i64 n3)).cell? ⟨w.heap.size + 1, 2, none⟩ = some (.int .i64 b) from
    ⟨((BY5.out.far (p := ⟨w.heap.size + 1 + 1, 0, none⟩) hne _).far (p := ⟨w.heap.size + 1 + 1, 1, none⟩) hne _).cell 0, ((BY5.out.far (p := ⟨w.heap.size + 1 + 1, 0, none⟩) hne _).far (p := ⟨w.heap.size + 1 + 1, 1, none⟩) hne _).cell 1,
     ((BO5.out.far (p := ⟨w.heap.size + 1 + 1, 0, none⟩) (show w.heap.size + 1 ≠ w.heap.size + 1 + 1 by omega) _).far (p := ⟨w.heap.size + 1 + 1, 1, none⟩) (show w.heap.size + 1 ≠ w.heap.size + 1 + 1 by omega) _).cell 1, ((BO5.out.far (p := ⟨w.heap.size + 1 + 1, 0, none⟩) (show w.heap.size + 1 ≠ w.heap.size + 1 + 1 by omega) _).far (p := ⟨w.heap.size + 1 + 1, 1, none⟩) (show w.heap.size + 1 ≠ w.heap.size + 1 + 1 by omega) _).cell 2⟩)
  clear hne
  refine wpAnyH_ready (rs := [9]) (by kernel_rfl) (by simp) ?_
  refine AllReadyH.cons rfl (fun K hK => ?_) AllReadyH.nil
  go_simp
  refine hK.out _ _ S6.out (fun hH2 => ?_)
  clear hK K hH1
  refine wpAnyH_take (i := 10) (v := ?_) rfl (by kernel_rfl) (by kernel_rfl) (by kernel_rfl) (fun _ _ _ h => h) (Or.inl ⟨by rfl, ?_⟩) (by assumption) ?_
  rotate_left
  · (intro w hSw; (try dsimp only at hSw); first | (go_simp; done) | (go_simp; with_reducible rfl))
  simp only [Act.put, List.getElem_toArray, List.getElem_cons_zero, List.getElem_cons_succ, List.setIfInBounds_toArray, List.set_cons_zero, List.set_cons_succ]
  refine wpAnyH_done (by kernel_rfl) ?_ _
  clear hH2 r0 r1 f0 f1
  have KK := Lib.hid (blk2 BR5.out (.slice A3 L3.length c3) (.int .i64 n3))
  generalize ((w5.setCell ⟨w.heap.size + 1 + 1, 0, none⟩ (.slice A3 L3.length c3)).setCell ⟨w.heap.size + 1 + 1, 1, none⟩ (.int .i64 n3)) = w6 at *
  have g0 := KK.out.cell 0
  have g1 := KK.out.cell 1
  go_wp2_with fail
  refine bodyPost_ret (v := .tuple #[.agg #[.slice A3 L3.length c3, .int .i64 n3], .bool true]) (by simp [results, Try.results11, go_sem, g0, g1]) rfl ?_
  exact ⟨_, rfl, D6.out, P5.out, Q5.out, T6.out⟩

set_option maxRecDepth 100000 in
set_option maxHeartbeats 4000000 in
theorem step_void (A : Option Addr) (c : Nat) (L : List D) (nx a b : Int) (B g : Nat) (w : World) (hd : DAt w B g L nx) (ho : Own E3 w B 45 (.slice A L.length c) L) (hl : L.length ≤ 100000) (hn : 0 ≤ nx ∧ nx ≤ 4398046511104) (hB : B ≤ w.heap.size) :
    Calls Try.prog 11 #[.pointer (some ⟨g, 0, none⟩), .agg #[.slice A L.length c, .int .i64 nx], .agg #[.int .i64 3, .int .i64 a, .int .i64 b]] w (StepP B g (void (L, nx) a).1 w) := by
  have hm1 : Below w.heap.size w (w.alloc (.cells #[.slice A L.length c, .int .i64 nx] 28)) := made w _
  have hm2 : Below w.heap.size w ((w.alloc (.cells #[.slice A L.length c, .int .i64 nx] 28)).alloc (.cells #[.int .i64 3, .int .i64 a, .int .i64 b] 30)) := hm1.alloc (by rw [asz]; omega) _
  have hm3 : Below w.heap.size w (((w.alloc (.cells #[.slice A L.length c, .int .i64 nx] 28)).alloc (.cells #[.int .i64 3, .int .i64 a, .int .i64 b] 30)).alloc (.cells #[.slice none 0 0, .int .i64 0] 28)) := hm2.alloc (by rw [asz, asz]; omega) _
  have bx : Blk (((w.alloc (.cells #[.slice A L.length c, .int .i64 nx] 28)).alloc (.cells #[.int .i64 3, .int .i64 a, .int .i64 b] 30)).alloc (.cells #[.slice none 0 0, .int .i64 0] 28)) w.heap.size 28 #[.slice A L.length c, .int .i64 nx] := ((Blk.new _ _ _).alloc _).alloc _
  have bo : Blk (((w.alloc (.cells #[.slice A L.length c, .int .i64 nx] 28)).alloc (.cells #[.int .i64 3, .int .i64 a, .int .i64 b] 30)).alloc (.cells #[.slice none 0 0, .int .i64 0] 28)) (w.heap.size + 1) 30 #[.int .i64 3, .int .i64 a, .int .i64 b] := by
    have := (Blk.new (w.alloc (.cells #[.slice A L.length c, .int .i64 nx] 28)) 30 #[.int .i64 3, .int .i64 a, .int .i64 b]).alloc (.cells #[.slice none 0 0, .int .i64 0] 28)
    rw [asz] at this
    exact this
  have br : Blk (((w.alloc (.cells #[.slice A L.length c, .int .i64 nx] 28)).alloc (.cells #[.int .i64 3, .int .i64 a, .int .i64 b] 30)).alloc (.cells #[.slice none 0 0, .int .i64 0] 28)) (w.heap.size + 1 + 1) 28 #[.slice none 0 0, .int .i64 0] := by
    have := Blk.new ((w.alloc (.cells #[.slice A L.length c, .int .i64 nx] 28)).alloc (.cells #[.int .i64 3, .int .i64 a, .int .i64 b] 30)) 28 #[.slice none 0 0, .int .i64 0]
    rw [asz, asz] at this
    exact this
  have BX := Lib.hid bx
  have BO := Lib.hid bo
  have BR := Lib.hid br
  have M := Lib.hid hm3
  have HO := Lib.hid (ho.below hm3)
  have HD := Lib.hid (hd.below hm3)
  have HB := Lib.hid hB
  have x0 := bx.cell 0
  have x1 := bx.cell 1
  have o0 := bo.cell 0
  have o1 := bo.cell 1
  have o2 := bo.cell 2
  clear ho hd hB hm1 hm2 hm3 bx bo br
  generalize hw2 : (((w.alloc (.cells #[.slice A L.length c, .int .i64 nx] 28)).alloc (.cells #[.int .i64 3, .int .i64 a, .int .i64 b] 30)).alloc (.cells #[.slice none 0 0, .int .i64 0] 28)) = w2 at *
  have RI := Lib.hid (rvoid_any A c L nx a B w2 HO.out hl (Nat.le_trans HB.out M.out.size))
  have IG := Lib.hid (fun ws (h : DAt ws B g L nx) (h2 : B ≤ ws.heap.size) => void_any B g L nx a ws h hl h2)
  generalize void (L, nx) a = r at *
  obtain ⟨⟨L3, n3⟩, er3⟩ := r
  go_enter Try.func11, Try.ntmps11
  go_wp2_with (rw [hw2])
  refine RI.out.mono ?_
  rintro e w3 ⟨v3, rfl, ho3, hb3⟩
  have HD3 := Lib.hid (HD.out.below hb3)
  have BO3 := Lib.hid (BO.out.below hb3 BO.out.lt)
  have BR3 := Lib.hid (BR.out.below hb3 BR.out.lt)
  have B3 := Lib.hid (up M.out hb3 M.out.size)
  have R3 := Lib.hid hb3.size
  obtain ⟨A3, c3, rfl, -⟩ := ho3.open_
  have O3 := Lib.hid ho3
  have hm4 := made w3 (.cells #[.slice A3 L3.length c3, .int .i64 n3] 28)
  have HD4 := Lib.hid (HD3.out.below hm4)
  have BY4 := Lib.hid (Blk.new w3 28 #[.slice A3 L3.length c3, .int .i64 n3])
  have BO4 := Lib.hid (BO3.out.below hm4 BO3.out.lt)
  have BR4 := Lib.hid (BR3.out.below hm4 BR3.out.lt)
  have B4 := Lib.hid (up B3.out hm4 B3.out.size)
  have O4 := Lib.hid (O3.out.below hm4)
  clear ho3 hb3 hm4 x0 x1 o0 o1 o2 HD3 BO3 BR3 O3 B3
  generalize hw4 : w3.alloc (.cells #[.slice A3 L3.length c3, .int .i64 n3] 28) = w4 at *
  have IM := Lib.hid (IG.out w4.drew (HD4.out.below ((Below.refl _ _).drew)) (Nat.le_trans HB.out B4.out.size))
  have SS := Lib.hid (show w4.drew.cell? ⟨w3.heap.size, 0, none⟩ = some (.slice A3 L3.length c3) ∧ w4.drew.cell? ⟨w3.heap.size, 1, none⟩ = some (.int .i64 n3) ∧ w4.drew.cell? ⟨w.heap.size + 1, 1, none⟩ = some (.int .i64 a) ∧ w4.drew.cell? ⟨w.heap.size + 1, 2, none⟩ = some (.int .i64 b) from ⟨BY4.out.cell 0, BY4.out.cell 1, BO4.out.cell 1, BO4.out.cell 2⟩)
  go_wp2_with (rw [hw4])
  refine wp_region_held_drew (S := (fun ws => ws.cell? ⟨w3.heap.size, 0, none⟩ = some (.slice A3 L3.length c3) ∧ ws.cell? ⟨w3.heap.size, 1, none⟩ = some (.int .i64 n3) ∧ ws.cell? ⟨w.heap.size + 1, 1, none⟩ = some (.int .i64 a) ∧ ws.cell? ⟨w.heap.size + 1, 2, none⟩ = some (.int .i64 b))) (by kernel_rfl) SS.out (fun hHeld => ?_)
  refine wpAnyH_take (i := 0) (v := ?_) rfl (by kernel_rfl) (by kernel_rfl) (by kernel_rfl) (fun _ _ _ h => h) (Or.inl ⟨by rfl, ?_⟩) (by assumption) ?_
  rotate_left
  · (intro w hSw; (try dsimp only at hSw); first | (go_simp; done) | (go_simp; with_reducible rfl))
  simp only [Act.put, List.getElem_toArray, List.getElem_cons_zero, List.getElem_cons_succ, List.setIfInBounds_toArray, List.set_cons_zero, List.set_cons_succ]
  refine wpAnyH_take (i := 1) (v := ?_) rfl (by kernel_rfl) (by kernel_rfl) (by kernel_rfl) (fun _ _ _ h => h) (Or.inl ⟨by rfl, ?_⟩) (by assumption) ?_
  rotate_left
  · (intro w hSw; (try dsimp only at hSw); first | (go_simp; done) | (go_simp; with_reducible rfl))
  simp only [Act.put, List.getElem_toArray, List.getElem_cons_zero, List.getElem_cons_succ, List.setIfInBounds_toArray, List.set_cons_zero, List.set_cons_succ]
  refine wpAnyH_take (i := 2) (v := ?_) rfl (by kernel_rfl) (by kernel_rfl) (by kernel_rfl) (fun _ _ _ h => h) (Or.inl ⟨by rfl, ?_⟩) (by assumption) ?_
  rotate_left
  · (intro w hSw; (try dsimp only at hSw); first | (go_simp; done) | (go_simp; with_reducible rfl))
  simp only [Act.put, List.getElem_toArray, List.getElem_cons_zero, List.getElem_cons_succ, List.setIfInBounds_toArray, List.set_cons_zero, List.set_cons_succ]
  refine wpAnyH_take (i := 3) (v := ?_) rfl (by kernel_rfl) (by kernel_rfl) (by kernel_rfl) (fun _ _ _ h => h) (Or.inl ⟨by rfl, ?_⟩) (by assumption) ?_
  rotate_left
  · (intro w hSw; (try dsimp only at hSw); first | (go_simp; done) | (go_simp; with_reducible rfl))
  simp only [Act.put, List.getElem_toArray, List.getElem_cons_zero, List.getElem_cons_succ, List.setIfInBounds_toArray, List.set_cons_zero, List.set_cons_succ]
  refine wpAnyH_take (i := 5) (v := ?_) rfl (by kernel_rfl) (by kernel_rfl) (by kernel_rfl) (fun _ _ _ h => h) (Or.inl ⟨by rfl, ?_⟩) (by assumption) ?_
  rotate_left
  · (intro w hSw; (try dsimp only at hSw); first | (go_simp; done) | (go_simp; with_reducible rfl))
  simp only [Act.put, List.getElem_toArray, List.getElem_cons_zero, List.getElem_cons_succ, List.setIfInBounds_toArray, List.set_cons_zero, List.set_cons_succ]
  refine wpAnyH_ready (rs := [4]) (by kernel_rfl) (by simp) ?_
  refine AllReadyH.cons rfl (fun K hK => ?_) AllReadyH.nil
  go_simp
  go_wp2_with (go_at_call 24; refine IM.out.mono ?_; rintro e w5 ⟨rfl, hd5, hb5, ht5⟩)
  have hT := ht5
  have B5 := Lib.hid ((B4.out.mono HB.out).drew.trans hb5)
  have D5 := Lib.hid hd5
  have T5 := Lib.hid (Tch.later B4.out.drew ht5)
  obtain ⟨csg, hcsg⟩ := (HD4.out.below ((Below.refl _ _).drew)).blk
  have O5 := Lib.hid (own_tch (rk.Own.below O4.out ((Below.refl _ _).drew)) hcsg ht5)
  have BY5 := Lib.hid (ht5.blk (BY4.out.drewN 1) (ty_ne (BY4.out.drewN 1) hcsg (by decide)) (by decide))
  have BR5 := Lib.hid (ht5.blk (BR4.out.drewN 1) (ty_ne (BR4.out.drewN 1) hcsg (by decide)) (by decide))
  have BO5 := Lib.hid (ht5.blk (BO4.out.drewN 1) (ty_ne (BO4.out.drewN 1) hcsg (by decide)) (by decide))
  have y0 := BY5.out.cell 0
  have y1 := BY5.out.cell 1
  have r0 := BR5.out.cell 0
  have r1 := BR5.out.cell 1
  have f0 := BR5.out.free 0
  have f1 := BR5.out.free 1
  have S5 := Lib.hid (show w5.cell? ⟨w3.heap.size, 0, none⟩ = some (.slice A3 L3.length c3) ∧ w5.cell? ⟨w3.heap.size, 1, none⟩ = some (.int .i64 n3) ∧ w5.cell? ⟨w.heap.size + 1, 1, none⟩ = some (.int .i64 a) ∧ w5.cell? ⟨w.heap.size + 1, 2, none⟩ = some (.int .i64 b) from ⟨BY5.out.cell 0, BY5.out.cell 1, BO5.out.cell 1, BO5.out.cell 2⟩)
  refine hK.out _ _ S5.out (fun hH1 => ?_)
  clear hK K hHeld hT hd5 hb5 ht5 IM IG RI y0 y1
  refine wpAnyH_take (i := 6) (v := ?_) rfl (by kernel_rfl) (by kernel_rfl) (by kernel_rfl) (fun _ _ _ h => h) (Or.inl ⟨by rfl, ?_⟩) (by assumption) ?_
  rotate_left
  · (intro w hSw; (try dsimp only at hSw); first | (go_simp; done) | (go_simp; with_reducible rfl))
  simp only [Act.put, List.getElem_toArray, List.getElem_cons_zero, List.getElem_cons_succ, List.setIfInBounds_toArray, List.set_cons_zero, List.set_cons_succ]
  have P5 := Lib.hid (own2 O5.out BR5.out (by decide) (.slice A3 L3.length c3) (.int .i64 n3))
  have T6 := Lib.hid ((T5.out.setCell (p := ⟨w.heap.size + 1 + 1, 0, none⟩) (.inr (show w.heap.size ≤ w.heap.size + 1 + 1 by omega)) (.slice A3 L3.length c3)).setCell (p := ⟨w.heap.size + 1 + 1, 1, none⟩) (.inr (show w.heap.size ≤ w.heap.size + 1 + 1 by omega)) (.int .i64 n3))
  have D6 := Lib.hid (D5.out.set2 BR5.out (by decide) (by decide) (.slice A3 L3.length c3) (.int .i64 n3))
  have Q5 := Lib.hid (below2 B5.out (show B ≤ w.heap.size + 1 + 1 from Nat.le_trans HB.out (by omega)) (.slice A3 L3.length c3) (.int .i64 n3))
  have hne : w3.heap.size ≠ w.heap.size + 1 + 1 := by
    have h1 := BR.out.lt
    have h2 := R3.out
    omega
  have S6 := Lib.hid (show ((w5.setCell ⟨w.heap.size + 1 + 1, 0, none⟩ (.slice A3 L3.length c3)).setCell ⟨w.heap.size + 1 + 1, 1, none⟩ (.int .i64 n3)).cell? ⟨w3.heap.size, 0, none⟩ = some (.slice A3 L3.length c3) ∧ ((w5.setCell ⟨w.heap.size + 1 + 1, 0, none⟩ (.slice A3 L3.length c3)).setCell ⟨w.heap.size + 1 + 1, 1, none⟩ (.int .i64 n3)).cell? ⟨w3.heap.size, 1, none⟩ = some (.int .i64 n3) ∧ ((w5.setCell ⟨w.heap.size + 1 + 1, 0, none⟩ (.slice A3 L3.length c3)).setCell ⟨w.heap.size + 1 + 1, 1, none⟩ (.int .i64 n3)).cell? ⟨w.heap.size + 1, 1, none⟩ = some (.int .i64 a) ∧ ((w5.setCell ⟨w.heap.size + 1 + 1, 0, none⟩ (.slice A3 L3.length c3)).setCell ⟨w.heap.size + 1 + 1, 1, none⟩ (.int .i64 n3)).cell? ⟨w.heap.size + 1, 2, none⟩ = some (.int .i64 b) from
    ⟨((BY5.out.far (p := ⟨w.heap.size + 1 + 1, 0, none⟩) hne _).far (p := ⟨w.heap.size + 1 + 1, 1, none⟩) hne _).cell 0, ((BY5.out.far (p := ⟨w.heap.size + 1 + 1, 0, none⟩) hne _).far (p := ⟨w.heap.size + 1 + 1, 1, none⟩) hne _).cell 1,
     ((BO5.out.far (p := ⟨w.heap.size + 1 + 1, 0, none⟩) (show w.heap.size + 1 ≠ w.heap.size + 1 + 1 by omega) _).far (p := ⟨w.heap.size + 1 + 1, 1, none⟩) (show w.heap.size + 1 ≠ w.heap.size + 1 + 1 by omega) _).cell 1, ((BO5.out.far (p := ⟨w.heap.size + 1 + 1, 0, none⟩) (show w.heap.size + 1 ≠ w.heap.size + 1 + 1 by omega) _).far (p := ⟨w.heap.size + 1 + 1, 1, none⟩) (show w.heap.size + 1 ≠ w.heap.size + 1 + 1 by omega) _).cell 2⟩)
  clear hne
  refine wpAnyH_ready (rs := [7]) (by kernel_rfl) (by simp) ?_
  refine AllReadyH.cons rfl (fun K hK => ?_) AllReadyH.nil
  go_simp
  refine hK.out _ _ S6.out (fun hH2 => ?_)
  clear hK K hH1
  refine wpAnyH_take (i := 8) (v := ?_) rfl (by kernel_rfl) (by kernel_rfl) (by kernel_rfl) (fun _ _ _ h => h) (Or.inl ⟨by rfl, ?_⟩) (by assumption) ?_
  rotate_left
  · (intro w hSw; (try dsimp only at hSw); first | (go_simp; done) | (go_simp; with_reducible rfl))
  simp only [Act.put, List.getElem_toArray, List.getElem_cons_zero, List.getElem_cons_succ, List.setIfInBounds_toArray, List.set_cons_zero, List.set_cons_succ]
  refine wpAnyH_done (by kernel_rfl) ?_ _
  clear hH2 r0 r1 f0 f1
  have KK := Lib.hid (blk2 BR5.out (.slice A3 L3.length c3) (.int .i64 n3))
  generalize ((w5.setCell ⟨w.heap.size + 1 + 1, 0, none⟩ (.slice A3 L3.length c3)).setCell ⟨w.heap.size + 1 + 1, 1, none⟩ (.int .i64 n3)) = w6 at *
  have g0 := KK.out.cell 0
  have g1 := KK.out.cell 1
  go_wp2_with fail
  refine bodyPost_ret (v := .tuple #[.agg #[.slice A3 L3.length c3, .int .i64 n3], .bool true]) (by simp [results, Try.results11, go_sem, g0, g1]) rfl ?_
  exact ⟨_, rfl, D6.out, P5.out, Q5.out, T6.out⟩

set_option maxRecDepth 100000 in
set_option maxHeartbeats 4000000 in
theorem step_else (A : Option Addr) (c : Nat) (L : List D) (nx k a b : Int) (B g : Nat) (w : World) (hd : DAt w B g L nx) (ho : Own E3 w B 45 (.slice A L.length c) L) (hl : L.length ≤ 100000) (hn : 0 ≤ nx ∧ nx ≤ 4398046511104) (hB : B ≤ w.heap.size) (h1 : k ≠ 1) (h2 : k ≠ 2) (h3 : k ≠ 3) :
    Calls Try.prog 11 #[.pointer (some ⟨g, 0, none⟩), .agg #[.slice A L.length c, .int .i64 nx], .agg #[.int .i64 k, .int .i64 a, .int .i64 b]] w (StepP B g (L, nx) w) := by
  have q1 : (k == 1) = false := by simpa using h1
  have q2 : (k == 2) = false := by simpa using h2
  have q3 : (k == 3) = false := by simpa using h3
  clear h1 h2 h3
  have hm1 : Below w.heap.size w (w.alloc (.cells #[.slice A L.length c, .int .i64 nx] 28)) := made w _
  have hm2 : Below w.heap.size w ((w.alloc (.cells #[.slice A L.length c, .int .i64 nx] 28)).alloc (.cells #[.int .i64 k, .int .i64 a, .int .i64 b] 30)) := hm1.alloc (by rw [asz]; omega) _
  have hm3 : Below w.heap.size w (((w.alloc (.cells #[.slice A L.length c, .int .i64 nx] 28)).alloc (.cells #[.int .i64 k, .int .i64 a, .int .i64 b] 30)).alloc (.cells #[.slice none 0 0, .int .i64 0] 28)) := hm2.alloc (by rw [asz, asz]; omega) _
  have bx : Blk (((w.alloc (.cells #[.slice A L.length c, .int .i64 nx] 28)).alloc (.cells #[.int .i64 k, .int .i64 a, .int .i64 b] 30)).alloc (.cells #[.slice none 0 0, .int .i64 0] 28)) w.heap.size 28 #[.slice A L.length c, .int .i64 nx] := ((Blk.new _ _ _).alloc _).alloc _
  have bo : Blk (((w.alloc (.cells #[.slice A L.length c, .int .i64 nx] 28)).alloc (.cells #[.int .i64 k, .int .i64 a, .int .i64 b] 30)).alloc (.cells #[.slice none 0 0, .int .i64 0] 28)) (w.heap.size + 1) 30 #[.int .i64 k, .int .i64 a, .int .i64 b] := by
    have := (Blk.new (w.alloc (.cells #[.slice A L.length c, .int .i64 nx] 28)) 30 #[.int .i64 k, .int .i64 a, .int .i64 b]).alloc (.cells #[.slice none 0 0, .int .i64 0] 28)
    rw [asz] at this
    exact this
  have br : Blk (((w.alloc (.cells #[.slice A L.length c, .int .i64 nx] 28)).alloc (.cells #[.int .i64 k, .int .i64 a, .int .i64 b] 30)).alloc (.cells #[.slice none 0 0, .int .i64 0] 28)) (w.heap.size + 1 + 1) 28 #[.slice none 0 0, .int .i64 0] := by
    have := Blk.new ((w.alloc (.cells #[.slice A L.length c, .int .i64 nx] 28)).alloc (.cells #[.int .i64 k, .int .i64 a, .int .i64 b] 30)) 28 #[.slice none 0 0, .int .i64 0]
    rw [asz, asz] at this
    exact this
  have BX := Lib.hid bx
  have BO := Lib.hid bo
  have BR := Lib.hid br
  have M := Lib.hid hm3
  have HO := Lib.hid (ho.below hm3)
  have HD := Lib.hid (hd.below hm3)
  have HB := Lib.hid hB
  have x0 := bx.cell 0
  have x1 := bx.cell 1
  have o0 := bo.cell 0
  have o1 := bo.cell 1
  have o2 := bo.cell 2
  clear ho hd hB hm1 hm2 hm3 bx bo br
  generalize hw2 : (((w.alloc (.cells #[.slice A L.length c, .int .i64 nx] 28)).alloc (.cells #[.int .i64 k, .int .i64 a, .int .i64 b] 30)).alloc (.cells #[.slice none 0 0, .int .i64 0] 28)) = w2 at *
  have r0 := BR.out.cell 0
  have r1 := BR.out.cell 1
  have f0 := BR.out.free 0
  have f1 := BR.out.free 1
  go_enter Try.func11, Try.ntmps11
  go_wp2_with (rw [hw2])
  have K := blk2 BR.out (.slice A L.length c) (.int .i64 nx)
  have g0 := K.cell 0
  have g1 := K.cell 1
  refine bodyPost_ret (v := .tuple #[.agg #[.slice A L.length c, .int .i64 nx], .bool true]) (by simp [results, Try.results11, go_sem, g0, g1]) rfl ?_
  exact ⟨_, rfl, HD.out.set2 BR.out (by decide) (by decide) _ _, own2 HO.out BR.out (by decide) _ _, below2 (M.out.mono HB.out) (show B ≤ w.heap.size + 1 + 1 from Nat.le_trans HB.out (by omega)) _ _, ((Tch.of_below (g := g) M.out).setCell (p := ⟨w.heap.size + 1 + 1, 0, none⟩) (.inr (show w.heap.size ≤ w.heap.size + 1 + 1 by omega)) _).setCell (p := ⟨w.heap.size + 1 + 1, 1, none⟩) (.inr (show w.heap.size ≤ w.heap.size + 1 + 1 by omega)) _⟩

theorem step_any (A : Option Addr) (c : Nat) (L : List D) (nx k a b : Int) (B g : Nat) (w : World) (hd : DAt w B g L nx) (ho : Own E3 w B 45 (.slice A L.length c) L) (hl : L.length ≤ 100000) (hn : 0 ≤ nx ∧ nx ≤ 4398046511104) (hB : B ≤ w.heap.size) :
    Calls Try.prog 11 #[.pointer (some ⟨g, 0, none⟩), .agg #[.slice A L.length c, .int .i64 nx], .agg #[.int .i64 k, .int .i64 a, .int .i64 b]] w (StepP B g (stepS (L, nx) k a b) w) := by
  unfold stepS
  by_cases h1 : k = 1
  · rw [if_pos h1]
    subst h1
    exact step_issue A c L nx a b B g w hd ho hl hn hB
  · rw [if_neg h1]
    by_cases h2 : k = 2
    · rw [if_pos h2]
      subst h2
      exact step_move A c L nx a b B g w hd ho hl hn hB
    · rw [if_neg h2]
      by_cases h3 : k = 3
      · rw [if_pos h3]
        subst h3
        exact step_void A c L nx a b B g w hd ho hl hn hB
      · rw [if_neg h3]
        exact step_else A c L nx k a b B g w hd ho hl hn hB h1 h2 h3
end Go.Proofs.Ytmnkkdalobdabaa.dd
