/-
  AccessRight: the ways in which there is no such list.
-/
import Derived.Test.YtemkhblogmdleaaDoorAccI
namespace Go.Proofs.YtemkhblogmdleaaDoor.accessRight
open Go.RowKit
open base (ret_bool ret_int made up Blk Only Nums)
open ac
set_option linter.unusedVariables false
set_option linter.unusedSimpArgs false

set_option maxRecDepth 100000 in
set_option maxHeartbeats 4000000 in
theorem walk_lo (w : World) (hT : Tab w) (o : Int) (A : Option Addr) (ca : Nat) (la : List Int) (B : Option Addr) (cb : Nat) (lb : List Int) (C : Option Addr) (cc : Nat) (lc : List Int) (z : Int) (hz : z < 1) (L : Ls w A la B lb C lc) (hn : la.length ≤ 40 ∧ lb.length ≤ 40 ∧ lc.length ≤ 40) (b : Bool) (hb : b = true ↔ RightH o la lb lc) :
    Calls Tryd.prog 4 #[.agg #[.int .i64 o, .slice A la.length ca, .slice B lb.length cb, .slice C lc.length cc], .int .i64 z] w (SmP true w) := by
  have hm := made w (.cells #[.int .i64 o, .slice A la.length ca, .slice B lb.length cb, .slice C lc.length cc] 24)
  have bx : Blk (w.alloc (.cells #[.int .i64 o, .slice A la.length ca, .slice B lb.length cb, .slice C lc.length cc] 24)) w.heap.size 24 #[.int .i64 o, .slice A la.length ca, .slice B lb.length cb, .slice C lc.length cc] := Blk.new _ _ _
  have H1 := Lib.hid hm
  have BX := Lib.hid bx
  have LS := Lib.hid (L.keep hm)
  have TB := Lib.hid (hT.keep hm)
  have SM := Lib.hid (small_any o A ca la B cb lb C cc lc (w.alloc (.cells #[.int .i64 o, .slice A la.length ca, .slice B lb.length cb, .slice C lc.length cc] 24)) (by omega) (by omega) (by omega))
  rw [decide_eq_true hn] at SM
  have b0 := bx.cell 0
  have b1 := bx.cell 1
  have b2 := bx.cell 2
  have b3 := bx.cell 3
  clear hm bx L hT hn
  generalize hw1 : w.alloc (.cells #[.int .i64 o, .slice A la.length ca, .slice B lb.length cb, .slice C lc.length cc] 24) = w1 at *
  go_enter Tryd.func4, Tryd.ntmps4
  go_wp2_with (rw [hw1])
  refine SM.out.mono ?_
  rintro e w2 ⟨rfl, hb2⟩
  clear b0 b1 b2 b3 hw1
  have B2 := Lib.hid hb2
  have bx2 := BX.out.below hb2 BX.out.lt
  have c0 := bx2.cell 0
  have c1 := bx2.cell 1
  have c2 := bx2.cell 2
  have c3 := bx2.cell 3
  have hm := made w2 (.cells #[.slice A la.length ca, .slice B lb.length cb, .slice C lc.length cc] 32)
  have bw : Blk (w2.alloc (.cells #[.slice A la.length ca, .slice B lb.length cb, .slice C lc.length cc] 32)) w2.heap.size 32 #[.slice A la.length ca, .slice B lb.length cb, .slice C lc.length cc] := Blk.new _ _ _
  have bx3 := bx2.below hm bx2.lt
  have x0 := bx3.cell 0
  have x1 := bx3.cell 1
  have x2 := bx3.cell 2
  have x3 := bx3.cell 3
  have H3 := Lib.hid (up H1.out (up B2.out hm B2.out.size) H1.out.size)
  have L3 := Lib.hid ((LS.out.keep hb2).keep hm)
  have T3 := Lib.hid ((TB.out.keep hb2).keep hm)
  have BX3 := Lib.hid bx3
  have BW3 := Lib.hid bw
  clear hb2 hm bw bx2 bx3 BX LS TB B2 SM
  go_wp2_with fail
  clear c0 c1 c2 c3 x0 x1 x2 x3
  generalize hw3 : (w2.alloc (.cells #[.slice A la.length ca, .slice B lb.length cb, .slice C lc.length cc] 32)) = w3 at *
  have KX := Lib.hid (fun ws (h : Below w3.heap.size w3 ws) => (BX3.out.below h BX3.out.lt))
  have KW := Lib.hid (fun ws (h : Below w3.heap.size w3 ws) => (BW3.out.below h BW3.out.lt))
  have LX := Lib.hid (fun ws (h : Below w3.heap.size w3 ws) => lists_lo o A ca la B cb lb C cc lc z hz ws (L3.out.keep h))
  have AW := Lib.hid (fun ws (h : Below w3.heap.size w3 ws) => awake_any ws (T3.out.keep h))
  have HR := Lib.hid (fun ws (h : Below w3.heap.size w3 ws) => hright_any o A ca la B cb lb C cc lc b hb ws (L3.out.keep h))
  have LR := Lib.hid (fun ws (h : Below w3.heap.size w3 ws) => lright_any o A ca la B cb lb C cc lc b hb ws (L3.out.keep h))
  have HE := Lib.hid (fun ws (h : Below w3.heap.size w3 ws) => hequal_self o A ca la B cb lb C cc lc ws (L3.out.keep h))
  have KS : Hid (∀ ws, Below w3.heap.size w3 ws → ws.cell? ⟨w.heap.size, 0, none⟩ = some (.int .i64 o) ∧ ws.cell? ⟨w.heap.size, 1, none⟩ = some (.slice A la.length ca) ∧ ws.cell? ⟨w.heap.size, 2, none⟩ = some (.slice B lb.length cb) ∧ ws.cell? ⟨w.heap.size, 3, none⟩ = some (.slice C lc.length cc)) := Lib.hid (fun ws h => ⟨(KX.out _ h).cell 0, (KX.out _ h).cell 1, (KX.out _ h).cell 2, (KX.out _ h).cell 3⟩)
  clear BX3 BW3 T3 hw3 hb
  refine (LX.out _ (Below.refl _ _)).mono ?_
  rintro e w4 ⟨X, cx, rfl, -, -, hb4⟩
  have B4 := Lib.hid hb4
  clear hb4 LX HE L3 KX KW
  rw [show (([] : List Int).length) = 0 from rfl]
  go_wp2_with fail
  refine wp_region_held_drew (S := (fun ws => ws.cell? ⟨w.heap.size, 0, none⟩ = some (.int .i64 o) ∧ ws.cell? ⟨w.heap.size, 1, none⟩ = some (.slice A la.length ca) ∧ ws.cell? ⟨w.heap.size, 2, none⟩ = some (.slice B lb.length cb) ∧ ws.cell? ⟨w.heap.size, 3, none⟩ = some (.slice C lc.length cc))) (by kernel_rfl) (KS.out _ B4.out.drew) (fun hHeld => ?_)
  refine wpAnyH_take (i := 0) (v := ?_) rfl (by kernel_rfl) (by kernel_rfl) (by kernel_rfl) (fun _ _ _ h => h) (Or.inl ⟨by rfl, ?_⟩) (by assumption) ?_
  rotate_left
  · (intro w hSw; (try dsimp only at hSw); first | (go_simp; done) | (go_simp; with_reducible rfl))
  simp only [Act.put, List.getElem_toArray, List.getElem_cons_zero, List.getElem_cons_succ, List.setIfInBounds_toArray, List.set_cons_zero, List.set_cons_succ]
  refine wpAnyH_take (i := 1) (v := ?_) rfl (by kernel_rfl) (by kernel_rfl) (by kernel_rfl) (fun _ _ _ h => h) (Or.inl ⟨by rfl, ?_⟩) (by assumption) ?_
  rotate_left
  · (intro w hSw; (try dsimp only at hSw); first | (go_simp; done) | (go_simp; with_reducible rfl))
  simp only [Act.put, List.getElem_toArray, List.getElem_cons_zero, List.getElem_cons_succ, List.setIfInBounds_toArray, List.set_cons_zero, List.set_cons_succ]
  refine wpAnyH_take (i := 2) (v := ?_) rfl (by kernel_rfl) (by kernel_rfl) (by kernel_rfl) (fun _ _ _ h => h) (Or.inl ⟨by rfl, ?_⟩) (by assumption) ?_
  rotate_left
  · (intro w hSw; (try dsimp only at hSw); first | (go_simp; done) | (go_simp; with_reducible rfl))
  simp only [Act.put, List.getElem_toArray, List.getElem_cons_zero, List.getElem_cons_succ, List.setIfInBounds_toArray, List.set_cons_zero, List.set_cons_succ]
  refine wpAnyH_take (i := 3) (v := ?_) rfl (by kernel_rfl) (by kernel_rfl) (by kernel_rfl) (fun _ _ _ h => h) (Or.inl ⟨by rfl, ?_⟩) (by assumption) ?_
  rotate_left
  · (intro w hSw; (try dsimp only at hSw); first | (go_simp; done) | (go_simp; with_reducible rfl))
  simp only [Act.put, List.getElem_toArray, List.getElem_cons_zero, List.getElem_cons_succ, List.setIfInBounds_toArray, List.set_cons_zero, List.set_cons_succ]
  refine wpAnyH_take (i := 4) (v := ?_) rfl (by kernel_rfl) (by kernel_rfl) (by kernel_rfl) (fun _ _ _ h => h) (Or.inl ⟨by rfl, ?_⟩) (by assumption) ?_
  rotate_left
  · (intro w hSw; (try dsimp only at hSw); first | (go_simp; done) | (go_simp; with_reducible rfl))
  simp only [Act.put, List.getElem_toArray, List.getElem_cons_zero, List.getElem_cons_succ, List.setIfInBounds_toArray, List.set_cons_zero, List.set_cons_succ]
  refine wpAnyH_take (i := 6) (v := ?_) rfl (by kernel_rfl) (by kernel_rfl) (by kernel_rfl) (fun _ _ _ h => h) (Or.inl ⟨by rfl, ?_⟩) (by assumption) ?_
  rotate_left
  · (intro w hSw; (try dsimp only at hSw); first | (go_simp; done) | (go_simp; with_reducible rfl))
  simp only [Act.put, List.getElem_toArray, List.getElem_cons_zero, List.getElem_cons_succ, List.setIfInBounds_toArray, List.set_cons_zero, List.set_cons_succ]
  refine wpAnyH_ready (rs := [5]) (by kernel_rfl) (by simp) ?_
  refine AllReadyH.cons rfl (fun K hK => ?_) AllReadyH.nil
  go_simp
  go_wp2_with (go_at_call 15; refine (HR.out _ B4.out.drew).mono ?_; rintro e w5 ⟨rfl, hb5⟩)
  have B5 := Lib.hid (up B4.out.drew hb5 B4.out.drew.size)
  refine hK.out _ _ (KS.out _ B5.out) (fun hH2 => ?_)
  clear hK K hHeld hb5
  refine wpAnyH_ready (rs := [7]) (by kernel_rfl) (by simp) ?_
  refine AllReadyH.cons rfl (fun K hK => ?_) AllReadyH.nil
  go_simp
  go_wp2_with (go_at_call 16; refine (LR.out _ B5.out).mono ?_; rintro e w6 ⟨rfl, hb6⟩)
  have B6 := Lib.hid (up B5.out hb6 B5.out.size)
  refine hK.out _ _ (KS.out _ B6.out) (fun hH3 => ?_)
  clear hK K hH2 hb6
  refine wpAnyH_take (i := 8) (v := ?_) rfl (by kernel_rfl) (by kernel_rfl) (by kernel_rfl) (fun _ _ _ h => h) (Or.inl ⟨by rfl, ?_⟩) (by assumption) ?_
  rotate_left
  · (intro w hSw; (try dsimp only at hSw); first | (go_simp; done) | (go_simp; with_reducible rfl))
  simp only [Act.put, List.getElem_toArray, List.getElem_cons_zero, List.getElem_cons_succ, List.setIfInBounds_toArray, List.set_cons_zero, List.set_cons_succ]
  refine wpAnyH_take (i := 9) (v := ?_) rfl (by kernel_rfl) (by kernel_rfl) (by kernel_rfl) (fun _ _ _ h => h) (Or.inl ⟨by rfl, ?_⟩) (by assumption) ?_
  rotate_left
  · (intro w hSw; (try dsimp only at hSw); first | (go_simp; done) | (go_simp; with_reducible rfl))
  simp only [Act.put, List.getElem_toArray, List.getElem_cons_zero, List.getElem_cons_succ, List.setIfInBounds_toArray, List.set_cons_zero, List.set_cons_succ]
  refine wpAnyH_take (i := 10) (v := ?_) rfl (by kernel_rfl) (by kernel_rfl) (by kernel_rfl) (fun _ _ _ h => h) (Or.inl ⟨by rfl, ?_⟩) (by assumption) ?_
  rotate_left
  · (intro w hSw; (try dsimp only at hSw); first | (go_simp; done) | (go_simp; with_reducible rfl))
  simp only [Act.put, List.getElem_toArray, List.getElem_cons_zero, List.getElem_cons_succ, List.setIfInBounds_toArray, List.set_cons_zero, List.set_cons_succ]
  refine wpAnyH_ready (rs := [11]) (by kernel_rfl) (by simp) ?_
  refine AllReadyH.cons rfl (fun K hK => ?_) AllReadyH.nil
  go_simp
  go_wp2_with (go_at_call 8; refine (AW.out _ B6.out).mono ?_; rintro e w7 ⟨rfl, hb7⟩)
  have B7 := Lib.hid (up B6.out hb7 B6.out.size)
  refine hK.out _ _ (KS.out _ B7.out) (fun hH4 => ?_)
  clear hK K hH3 hb7
  refine wpAnyH_take (i := 12) (v := ?_) rfl (by kernel_rfl) (by kernel_rfl) (by kernel_rfl) (fun _ _ _ h => h) (Or.inl ⟨by rfl, ?_⟩) (by assumption) ?_
  rotate_left
  · (intro w hSw; (try dsimp only at hSw); first | (go_simp; done) | (go_simp; with_reducible rfl))
  simp only [Act.put, List.getElem_toArray, List.getElem_cons_zero, List.getElem_cons_succ, List.setIfInBounds_toArray, List.set_cons_zero, List.set_cons_succ]
  refine wpAnyH_take (i := 13) (v := ?_) rfl (by kernel_rfl) (by kernel_rfl) (by kernel_rfl) (fun _ _ _ h => h) (Or.inl ⟨by rfl, ?_⟩) (by assumption) ?_
  rotate_left
  · (intro w hSw; (try dsimp only at hSw); first | (go_simp; done) | (go_simp; with_reducible rfl))
  simp only [Act.put, List.getElem_toArray, List.getElem_cons_zero, List.getElem_cons_succ, List.setIfInBounds_toArray, List.set_cons_zero, List.set_cons_succ]
  refine wpAnyH_done (by kernel_rfl) ?_ _
  clear hH4
  go_wp2_with fail
  go_ret
  exact ⟨rfl, up H3.out B7.out H3.out.size⟩

set_option maxRecDepth 100000 in
set_option maxHeartbeats 4000000 in
theorem walk_hi (w : World) (hT : Tab w) (o : Int) (A : Option Addr) (ca : Nat) (la : List Int) (B : Option Addr) (cb : Nat) (lb : List Int) (C : Option Addr) (cc : Nat) (lc : List Int) (z : Int) (hz : 3 < z) (L : Ls w A la B lb C lc) (hn : la.length ≤ 40 ∧ lb.length ≤ 40 ∧ lc.length ≤ 40) (b : Bool) (hb : b = true ↔ RightH o la lb lc) :
    Calls Tryd.prog 4 #[.agg #[.int .i64 o, .slice A la.length ca, .slice B lb.length cb, .slice C lc.length cc], .int .i64 z] w (SmP true w) := by
  have hz1 : ¬ z < 1 := by omega
  have hm := made w (.cells #[.int .i64 o, .slice A la.length ca, .slice B lb.length cb, .slice C lc.length cc] 24)
  have bx : Blk (w.alloc (.cells #[.int .i64 o, .slice A la.length ca, .slice B lb.length cb, .slice C lc.length cc] 24)) w.heap.size 24 #[.int .i64 o, .slice A la.length ca, .slice B lb.length cb, .slice C lc.length cc] := Blk.new _ _ _
  have H1 := Lib.hid hm
  have BX := Lib.hid bx
  have LS := Lib.hid (L.keep hm)
  have TB := Lib.hid (hT.keep hm)
  have SM := Lib.hid (small_any o A ca la B cb lb C cc lc (w.alloc (.cells #[.int .i64 o, .slice A la.length ca, .slice B lb.length cb, .slice C lc.length cc] 24)) (by omega) (by omega) (by omega))
  rw [decide_eq_true hn] at SM
  have b0 := bx.cell 0
  have b1 := bx.cell 1
  have b2 := bx.cell 2
  have b3 := bx.cell 3
  clear hm bx L hT hn
  generalize hw1 : w.alloc (.cells #[.int .i64 o, .slice A la.length ca, .slice B lb.length cb, .slice C lc.length cc] 24) = w1 at *
  go_enter Tryd.func4, Tryd.ntmps4
  go_wp2_with (rw [hw1])
  refine SM.out.mono ?_
  rintro e w2 ⟨rfl, hb2⟩
  clear b0 b1 b2 b3 hw1
  have B2 := Lib.hid hb2
  have bx2 := BX.out.below hb2 BX.out.lt
  have c0 := bx2.cell 0
  have c1 := bx2.cell 1
  have c2 := bx2.cell 2
  have c3 := bx2.cell 3
  have hm := made w2 (.cells #[.slice A la.length ca, .slice B lb.length cb, .slice C lc.length cc] 32)
  have bw : Blk (w2.alloc (.cells #[.slice A la.length ca, .slice B lb.length cb, .slice C lc.length cc] 32)) w2.heap.size 32 #[.slice A la.length ca, .slice B lb.length cb, .slice C lc.length cc] := Blk.new _ _ _
  have bx3 := bx2.below hm bx2.lt
  have x0 := bx3.cell 0
  have x1 := bx3.cell 1
  have x2 := bx3.cell 2
  have x3 := bx3.cell 3
  have H3 := Lib.hid (up H1.out (up B2.out hm B2.out.size) H1.out.size)
  have L3 := Lib.hid ((LS.out.keep hb2).keep hm)
  have T3 := Lib.hid ((TB.out.keep hb2).keep hm)
  have BX3 := Lib.hid bx3
  have BW3 := Lib.hid bw
  clear hb2 hm bw bx2 bx3 BX LS TB B2 SM
  go_wp2_with fail
  clear c0 c1 c2 c3 x0 x1 x2 x3
  generalize hw3 : (w2.alloc (.cells #[.slice A la.length ca, .slice B lb.length cb, .slice C lc.length cc] 32)) = w3 at *
  have KX := Lib.hid (fun ws (h : Below w3.heap.size w3 ws) => (BX3.out.below h BX3.out.lt))
  have KW := Lib.hid (fun ws (h : Below w3.heap.size w3 ws) => (BW3.out.below h BW3.out.lt))
  have LX := Lib.hid (fun ws (h : Below w3.heap.size w3 ws) => lists_hi o A ca la B cb lb C cc lc z hz ws (L3.out.keep h))
  have AW := Lib.hid (fun ws (h : Below w3.heap.size w3 ws) => awake_any ws (T3.out.keep h))
  have HR := Lib.hid (fun ws (h : Below w3.heap.size w3 ws) => hright_any o A ca la B cb lb C cc lc b hb ws (L3.out.keep h))
  have LR := Lib.hid (fun ws (h : Below w3.heap.size w3 ws) => lright_any o A ca la B cb lb C cc lc b hb ws (L3.out.keep h))
  have HE := Lib.hid (fun ws (h : Below w3.heap.size w3 ws) => hequal_self o A ca la B cb lb C cc lc ws (L3.out.keep h))
  have KS : Hid (∀ ws, Below w3.heap.size w3 ws → ws.cell? ⟨w.heap.size, 0, none⟩ = some (.int .i64 o) ∧ ws.cell? ⟨w.heap.size, 1, none⟩ = some (.slice A la.length ca) ∧ ws.cell? ⟨w.heap.size, 2, none⟩ = some (.slice B lb.length cb) ∧ ws.cell? ⟨w.heap.size, 3, none⟩ = some (.slice C lc.length cc)) := Lib.hid (fun ws h => ⟨(KX.out _ h).cell 0, (KX.out _ h).cell 1, (KX.out _ h).cell 2, (KX.out _ h).cell 3⟩)
  clear BX3 BW3 T3 hw3 hb
  refine (LX.out _ (Below.refl _ _)).mono ?_
  rintro e w4 ⟨X, cx, rfl, -, -, hb4⟩
  have B4 := Lib.hid hb4
  clear hb4 LX HE L3 KX KW
  rw [show (([] : List Int).length) = 0 from rfl]
  go_wp2_with fail
  refine wp_region_held_drew (S := (fun ws => ws.cell? ⟨w.heap.size, 0, none⟩ = some (.int .i64 o) ∧ ws.cell? ⟨w.heap.size, 1, none⟩ = some (.slice A la.length ca) ∧ ws.cell? ⟨w.heap.size, 2, none⟩ = some (.slice B lb.length cb) ∧ ws.cell? ⟨w.heap.size, 3, none⟩ = some (.slice C lc.length cc))) (by kernel_rfl) (KS.out _ B4.out.drew) (fun hHeld => ?_)
  refine wpAnyH_take (i := 0) (v := ?_) rfl (by kernel_rfl) (by kernel_rfl) (by kernel_rfl) (fun _ _ _ h => h) (Or.inl ⟨by rfl, ?_⟩) (by assumption) ?_
  rotate_left
  · (intro w hSw; (try dsimp only at hSw); first | (go_simp; done) | (go_simp; with_reducible rfl))
  simp only [Act.put, List.getElem_toArray, List.getElem_cons_zero, List.getElem_cons_succ, List.setIfInBounds_toArray, List.set_cons_zero, List.set_cons_succ]
  refine wpAnyH_take (i := 1) (v := ?_) rfl (by kernel_rfl) (by kernel_rfl) (by kernel_rfl) (fun _ _ _ h => h) (Or.inl ⟨by rfl, ?_⟩) (by assumption) ?_
  rotate_left
  · (intro w hSw; (try dsimp only at hSw); first | (go_simp; done) | (go_simp; with_reducible rfl))
  simp only [Act.put, List.getElem_toArray, List.getElem_cons_zero, List.getElem_cons_succ, List.setIfInBounds_toArray, List.set_cons_zero, List.set_cons_succ]
  refine wpAnyH_take (i := 2) (v := ?_) rfl (by kernel_rfl) (by kernel_rfl) (by kernel_rfl) (fun _ _ _ h => h) (Or.inl ⟨by rfl, ?_⟩) (by assumption) ?_
  rotate_left
  · (intro w hSw; (try dsimp only at hSw); first | (go_simp; done) | (go_simp; with_reducible rfl))
  simp only [Act.put, List.getElem_toArray, List.getElem_cons_zero, List.getElem_cons_succ, List.setIfInBounds_toArray, List.set_cons_zero, List.set_cons_succ]
  refine wpAnyH_take (i := 3) (v := ?_) rfl (by kernel_rfl) (by kernel_rfl) (by kernel_rfl) (fun _ _ _ h => h) (Or.inl ⟨by rfl, ?_⟩) (by assumption) ?_
  rotate_left
  · (intro w hSw; (try dsimp only at hSw); first | (go_simp; done) | (go_simp; with_reducible rfl))
  simp only [Act.put, List.getElem_toArray, List.getElem_cons_zero, List.getElem_cons_succ, List.setIfInBounds_toArray, List.set_cons_zero, List.set_cons_succ]
  refine wpAnyH_take (i := 4) (v := ?_) rfl (by kernel_rfl) (by kernel_rfl) (by kernel_rfl) (fun _ _ _ h => h) (Or.inl ⟨by rfl, ?_⟩) (by assumption) ?_
  rotate_left
  · (intro w hSw; (try dsimp only at hSw); first | (go_simp; done) | (go_simp; with_reducible rfl))
  simp only [Act.put, List.getElem_toArray, List.getElem_cons_zero, List.getElem_cons_succ, List.setIfInBounds_toArray, List.set_cons_zero, List.set_cons_succ]
  refine wpAnyH_take (i := 6) (v := ?_) rfl (by kernel_rfl) (by kernel_rfl) (by kernel_rfl) (fun _ _ _ h => h) (Or.inl ⟨by rfl, ?_⟩) (by assumption) ?_
  rotate_left
  · (intro w hSw; (try dsimp only at hSw); first | (go_simp; done) | (go_simp; with_reducible rfl))
  simp only [Act.put, List.getElem_toArray, List.getElem_cons_zero, List.getElem_cons_succ, List.setIfInBounds_toArray, List.set_cons_zero, List.set_cons_succ]
  refine wpAnyH_ready (rs := [5]) (by kernel_rfl) (by simp) ?_
  refine AllReadyH.cons rfl (fun K hK => ?_) AllReadyH.nil
  go_simp
  go_wp2_with (go_at_call 15; refine (HR.out _ B4.out.drew).mono ?_; rintro e w5 ⟨rfl, hb5⟩)
  have B5 := Lib.hid (up B4.out.drew hb5 B4.out.drew.size)
  refine hK.out _ _ (KS.out _ B5.out) (fun hH2 => ?_)
  clear hK K hHeld hb5
  refine wpAnyH_ready (rs := [7]) (by kernel_rfl) (by simp) ?_
  refine AllReadyH.cons rfl (fun K hK => ?_) AllReadyH.nil
  go_simp
  go_wp2_with (go_at_call 16; refine (LR.out _ B5.out).mono ?_; rintro e w6 ⟨rfl, hb6⟩)
  have B6 := Lib.hid (up B5.out hb6 B5.out.size)
  refine hK.out _ _ (KS.out _ B6.out) (fun hH3 => ?_)
  clear hK K hH2 hb6
  refine wpAnyH_take (i := 8) (v := ?_) rfl (by kernel_rfl) (by kernel_rfl) (by kernel_rfl) (fun _ _ _ h => h) (Or.inl ⟨by rfl, ?_⟩) (by assumption) ?_
  rotate_left
  · (intro w hSw; (try dsimp only at hSw); first | (go_simp; done) | (go_simp; with_reducible rfl))
  simp only [Act.put, List.getElem_toArray, List.getElem_cons_zero, List.getElem_cons_succ, List.setIfInBounds_toArray, List.set_cons_zero, List.set_cons_succ]
  refine wpAnyH_take (i := 9) (v := ?_) rfl (by kernel_rfl) (by kernel_rfl) (by kernel_rfl) (fun _ _ _ h => h) (Or.inl ⟨by rfl, ?_⟩) (by assumption) ?_
  rotate_left
  · (intro w hSw; (try dsimp only at hSw); first | (go_simp; done) | (go_simp; with_reducible rfl))
  simp only [Act.put, List.getElem_toArray, List.getElem_cons_zero, List.getElem_cons_succ, List.setIfInBounds_toArray, List.set_cons_zero, List.set_cons_succ]
  refine wpAnyH_take (i := 10) (v := ?_) rfl (by kernel_rfl) (by kernel_rfl) (by kernel_rfl) (fun _ _ _ h => h) (Or.inl ⟨by rfl, ?_⟩) (by assumption) ?_
  rotate_left
  · (intro w hSw; (try dsimp only at hSw); first | (go_simp; done) | (go_simp; with_reducible rfl))
  simp only [Act.put, List.getElem_toArray, List.getElem_cons_zero, List.getElem_cons_succ, List.setIfInBounds_toArray, List.set_cons_zero, List.set_cons_succ]
  refine wpAnyH_ready (rs := [11]) (by kernel_rfl) (by simp) ?_
  refine AllReadyH.cons rfl (fun K hK => ?_) AllReadyH.nil
  go_simp
  go_wp2_with (go_at_call 8; refine (AW.out _ B6.out).mono ?_; rintro e w7 ⟨rfl, hb7⟩)
  have B7 := Lib.hid (up B6.out hb7 B6.out.size)
  refine hK.out _ _ (KS.out _ B7.out) (fun hH4 => ?_)
  clear hK K hH3 hb7
  refine wpAnyH_take (i := 12) (v := ?_) rfl (by kernel_rfl) (by kernel_rfl) (by kernel_rfl) (fun _ _ _ h => h) (Or.inl ⟨by rfl, ?_⟩) (by assumption) ?_
  rotate_left
  · (intro w hSw; (try dsimp only at hSw); first | (go_simp; done) | (go_simp; with_reducible rfl))
  simp only [Act.put, List.getElem_toArray, List.getElem_cons_zero, List.getElem_cons_succ, List.setIfInBounds_toArray, List.set_cons_zero, List.set_cons_succ]
  refine wpAnyH_take (i := 13) (v := ?_) rfl (by kernel_rfl) (by kernel_rfl) (by kernel_rfl) (fun _ _ _ h => h) (Or.inl ⟨by rfl, ?_⟩) (by assumption) ?_
  rotate_left
  · (intro w hSw; (try dsimp only at hSw); first | (go_simp; done) | (go_simp; with_reducible rfl))
  simp only [Act.put, List.getElem_toArray, List.getElem_cons_zero, List.getElem_cons_succ, List.setIfInBounds_toArray, List.set_cons_zero, List.set_cons_succ]
  refine wpAnyH_done (by kernel_rfl) ?_ _
  clear hH4
  go_wp2_with fail
  go_ret
  exact ⟨rfl, up H3.out B7.out H3.out.size⟩
end Go.Proofs.YtemkhblogmdleaaDoor.accessRight
