/-
  AccessRight: the ways in which there is such a list.
-/
import Derived.Test.YtemkhblogmdleaaDoorAccI
namespace Go.Proofs.YtemkhblogmdleaaDoor.accessRight
open Go.RowKit
open base (ret_bool ret_int made up Blk Only Nums)
open ac
set_option linter.unusedVariables false
set_option linter.unusedSimpArgs false

set_option maxRecDepth 100000 in
set_option maxHeartbeats 4000000 in
theorem walk_in0 (w : World) (hT : Tab w) (o : Int) (A : Option Addr) (ca : Nat) (la : List Int) (B : Option Addr) (cb : Nat) (lb : List Int) (C : Option Addr) (cc : Nat) (lc : List Int) (L : Ls w A la B lb C lc) (hn : la.length ≤ 40 ∧ lb.length ≤ 40 ∧ lc.length ≤ 40) (b : Bool) (hb : b = true ↔ RightH o la lb lc) :
    Calls Tryd.prog 4 #[.agg #[.int .i64 o, .slice A la.length ca, .slice B lb.length cb, .slice C lc.length cc], .int .i64 1] w (SmP true w) := by
  have ln : la.length ≤ 40 := by omega
  have hm := made w (.cells #[.int .i64 o, .slice A la.length ca, .slice B lb.length cb, .slice C lc.length cc] 24)
  have bx : Blk (w.alloc (.cells #[.int .i64 o, .slice A la.length ca, .slice B lb.length cb, .slice C lc.length cc] 24)) w.heap.size 24 #[.int .i64 o, .slice A la.length ca, .slice B lb.length cb, .slice C lc.length cc] := Blk.new _ _ _
  have H1 := Lib.hid hm
  have BX := Lib.hid bx
  have LS := Lib.hid (L.keep hm)
  have TB := Lib.hid (hT.keep hm)
  have SM := Lib.hid (small_any o A ca la B cb lb C cc lc (w.alloc (.cells #[.int .i64 o, .slice A la.length ca, .slice B lb.length cb, .slice C lc.length cc] 24)) (by omega) (by omega) (by omega))
  rw [decide_eq_true hn] at SM
  have b0 := bx.cell 0
  have b1 := bx.cell 1
  have b2 := bx.cell 2
  have b3 := bx.cell 3
  clear hm bx L hT hn
  generalize hw1 : w.alloc (.cells #[.int .i64 o, .slice A la.length ca, .slice B lb.length cb, .slice C lc.length cc] 24) = w1 at *
  go_enter Tryd.func4, Tryd.ntmps4
  go_wp2_with (rw [hw1])
  refine SM.out.mono ?_
  rintro e w2 ⟨rfl, hb2⟩
  clear b0 b1 b2 b3 hw1
  have B2 := Lib.hid hb2
  have bx2 := BX.out.below hb2 BX.out.lt
  have c0 := bx2.cell 0
  have c1 := bx2.cell 1
  have c2 := bx2.cell 2
  have c3 := bx2.cell 3
  have hm := made w2 (.cells #[.slice A la.length ca, .slice B lb.length cb, .slice C lc.length cc] 32)
  have bw : Blk (w2.alloc (.cells #[.slice A la.length ca, .slice B lb.length cb, .slice C lc.length cc] 32)) w2.heap.size 32 #[.slice A la.length ca, .slice B lb.length cb, .slice C lc.length cc] := Blk.new _ _ _
  have bx3 := bx2.below hm bx2.lt
  have x0 := bx3.cell 0
  have x1 := bx3.cell 1
  have x2 := bx3.cell 2
  have x3 := bx3.cell 3
  have H3 := Lib.hid (up H1.out (up B2.out hm B2.out.size) H1.out.size)
  have L3 := Lib.hid ((LS.out.keep hb2).keep hm)
  have T3 := Lib.hid ((TB.out.keep hb2).keep hm)
  have BX3 := Lib.hid bx3
  have BW3 := Lib.hid bw
  clear hb2 hm bw bx2 bx3 BX LS TB B2 SM
  go_wp2_with fail
  clear c0 c1 c2 c3 x0 x1 x2 x3
  generalize hw3 : (w2.alloc (.cells #[.slice A la.length ca, .slice B lb.length cb, .slice C lc.length cc] 32)) = w3 at *
  have KX := Lib.hid (fun ws (h : Below w3.heap.size w3 ws) => (BX3.out.below h BX3.out.lt))
  have KW := Lib.hid (fun ws (h : Below w3.heap.size w3 ws) => (BW3.out.below h BW3.out.lt))
  have LX := Lib.hid (fun ws (h : Below w3.heap.size w3 ws) => lists_0 o A ca la B cb lb C cc lc ws (L3.out.keep h))
  have AW := Lib.hid (fun ws (h : Below w3.heap.size w3 ws) => awake_any ws (T3.out.keep h))
  have HR := Lib.hid (fun ws (h : Below w3.heap.size w3 ws) => hright_any o A ca la B cb lb C cc lc b hb ws (L3.out.keep h))
  have LR := Lib.hid (fun ws (h : Below w3.heap.size w3 ws) => lright_any o A ca la B cb lb C cc lc b hb ws (L3.out.keep h))
  have HE := Lib.hid (fun ws (h : Below w3.heap.size w3 ws) => hequal_self o A ca la B cb lb C cc lc ws (L3.out.keep h))
  have KS : Hid (∀ ws, Below w3.heap.size w3 ws → ws.cell? ⟨w.heap.size, 0, none⟩ = some (.int .i64 o) ∧ ws.cell? ⟨w.heap.size, 1, none⟩ = some (.slice A la.length ca) ∧ ws.cell? ⟨w.heap.size, 2, none⟩ = some (.slice B lb.length cb) ∧ ws.cell? ⟨w.heap.size, 3, none⟩ = some (.slice C lc.length cc)) := Lib.hid (fun ws h => ⟨(KX.out _ h).cell 0, (KX.out _ h).cell 1, (KX.out _ h).cell 2, (KX.out _ h).cell 3⟩)
  clear BX3 BW3 T3 hw3 hb
  refine (LX.out _ (Below.refl _ _)).mono ?_
  rintro e w4 ⟨X, cx, rfl, hn4, hx4, hb4⟩
  have B4 := Lib.hid hb4
  have SE := Lib.hid (same_eq X cx la A ca w4 hn4 (L3.out.keep hb4).a (by omega))
  have X4 := Lib.hid hx4
  have x0 := (KW.out _ hb4).cell 0
  clear hb4 hn4 hx4
  go_wp2_with fail
  refine SE.out.mono ?_
  rintro e w5 ⟨rfl, hb5⟩
  have B5 := Lib.hid (up B4.out hb5 B4.out.size)
  have X5 := Lib.hid (X4.out.keep hb5)
  clear hb5 x0 SE X4
  go_wp2_with fail
  go_loopw [50] (fun j wr => ∃ (i : Nat) (W : World), W = wr ∧ j = .int .i64 i ∧ i ≤ la.length ∧ OwnX wr X la.length w3.heap.size ∧ Below w3.heap.size w3 wr) (fun j _ => la.length - (intOf j).toNat)
  case atStart => exact ⟨0, _, rfl, rfl, by omega, X5.out, B5.out⟩
  case round =>
  obtain ⟨i, w6, rfl, rfl, hi, hx6, hb6⟩ := hrel
  by_cases hil : i < la.length
  · obtain ⟨g, cur, rfl, hg, hblk, hcs⟩ := hx6 (by omega)
    obtain ⟨x, hx⟩ := hcs i hil
    have cx0 : w6.cell? ⟨g, i, none⟩ = some (.int .i64 x) := (hblk.cell i).trans hx
    have fx0 := hblk.free i
    have R := Lib.hid (fun u => OwnX.put hg hblk hcs i u)
    have B6 := Lib.hid (fun u => hb6.setCell (p := ⟨g, i, none⟩) hg u)
    clear hx6 hb6 hblk hcs hx hg
    go_wp2_with fail
    refine ⟨⟨i + 1, _, rfl, by go_num, by omega, R.out _, B6.out _⟩, by simp [intOf]; omega⟩
  · have B6 := Lib.hid hb6
    clear hb6 hx6 X5
    have KS2 : Hid (∀ ws, Below w3.heap.size w3 ws → ws.cell? ⟨w.heap.size, 0, none⟩ = some (.int .i64 o) ∧ ws.cell? ⟨w.heap.size, 1, none⟩ = some (.slice A la.length ca) ∧ ws.cell? ⟨w.heap.size, 2, none⟩ = some (.slice B lb.length cb) ∧ ws.cell? ⟨w.heap.size, 3, none⟩ = some (.slice C lc.length cc) ∧ ws.cell? ⟨w2.heap.size, 0, none⟩ = some (.slice A la.length ca)) := Lib.hid (fun ws h => ⟨(KX.out _ h).cell 0, (KX.out _ h).cell 1, (KX.out _ h).cell 2, (KX.out _ h).cell 3, (KW.out _ h).cell 0⟩)
    clear KS KX KW
    have wz : IntKind.i64.wrap 0 = 0 := by decide
    go_wp2_with fail
    refine wp_region_held_drew (S := (fun ws => ws.cell? ⟨w.heap.size, 0, none⟩ = some (.int .i64 o) ∧ ws.cell? ⟨w.heap.size, 1, none⟩ = some (.slice A la.length ca) ∧ ws.cell? ⟨w.heap.size, 2, none⟩ = some (.slice B lb.length cb) ∧ ws.cell? ⟨w.heap.size, 3, none⟩ = some (.slice C lc.length cc) ∧ ws.cell? ⟨w2.heap.size, 0, none⟩ = some (.slice A la.length ca))) (by kernel_rfl) (KS2.out _ B6.out.drew) (fun hHeld => ?_)
    refine wpAnyH_take (i := 0) (v := ?_) rfl (by kernel_rfl) (by kernel_rfl) (by kernel_rfl) (fun _ _ _ h => h) (Or.inl ⟨by rfl, ?_⟩) (by assumption) ?_
    rotate_left
    · (intro w hSw; (try dsimp only at hSw); first | (go_simp; done) | (go_simp; with_reducible rfl))
    simp only [Act.put, List.getElem_toArray, List.getElem_cons_zero, List.getElem_cons_succ, List.setIfInBounds_toArray, List.set_cons_zero, List.set_cons_succ]
    refine wpAnyH_take (i := 1) (v := ?_) rfl (by kernel_rfl) (by kernel_rfl) (by kernel_rfl) (fun _ _ _ h => h) (Or.inl ⟨by rfl, ?_⟩) (by assumption) ?_
    rotate_left
    · (intro w hSw; (try dsimp only at hSw); first | (go_simp; done) | (go_simp; with_reducible rfl))
    simp only [Act.put, List.getElem_toArray, List.getElem_cons_zero, List.getElem_cons_succ, List.setIfInBounds_toArray, List.set_cons_zero, List.set_cons_succ]
    refine wpAnyH_take (i := 3) (v := ?_) rfl (by kernel_rfl) (by kernel_rfl) (by kernel_rfl) (fun _ _ _ h => h) (Or.inl ⟨by rfl, ?_⟩) (by assumption) ?_
    rotate_left
    · (intro w hSw; (try dsimp only at hSw); first | (go_simp; done) | (go_simp; with_reducible rfl))
    simp only [Act.put, List.getElem_toArray, List.getElem_cons_zero, List.getElem_cons_succ, List.setIfInBounds_toArray, List.set_cons_zero, List.set_cons_succ]
    refine wpAnyH_take (i := 4) (v := ?_) rfl (by kernel_rfl) (by kernel_rfl) (by kernel_rfl) (fun _ _ _ h => h) (Or.inl ⟨by rfl, ?_⟩) (by assumption) ?_
    rotate_left
    · (intro w hSw; (try dsimp only at hSw); first | (go_simp; done) | (go_simp; with_reducible rfl))
    simp only [Act.put, List.getElem_toArray, List.getElem_cons_zero, List.getElem_cons_succ, List.setIfInBounds_toArray, List.set_cons_zero, List.set_cons_succ]
    refine wpAnyH_take (i := 5) (v := ?_) rfl (by kernel_rfl) (by kernel_rfl) (by kernel_rfl) (fun _ _ _ h => h) (Or.inl ⟨by rfl, ?_⟩) (by assumption) ?_
    rotate_left
    · (intro w hSw; (try dsimp only at hSw); first | (go_simp; done) | (go_simp; with_reducible rfl))
    simp only [Act.put, List.getElem_toArray, List.getElem_cons_zero, List.getElem_cons_succ, List.setIfInBounds_toArray, List.set_cons_zero, List.set_cons_succ]
    refine wpAnyH_take (i := 6) (v := ?_) rfl (by kernel_rfl) (by kernel_rfl) (by kernel_rfl) (fun _ _ _ h => h) (Or.inl ⟨by rfl, ?_⟩) (by assumption) ?_
    rotate_left
    · (intro w hSw; (try dsimp only at hSw); first | (go_simp; done) | (go_simp; with_reducible rfl))
    simp only [Act.put, List.getElem_toArray, List.getElem_cons_zero, List.getElem_cons_succ, List.setIfInBounds_toArray, List.set_cons_zero, List.set_cons_succ]
    refine wpAnyH_ready (rs := [2]) (by kernel_rfl) (by simp) ?_
    refine AllReadyH.cons rfl (fun K hK => ?_) AllReadyH.nil
    go_simp
    go_wp2_with (go_at_call 14; refine (LX.out _ B6.out.drew).mono ?_; rintro e w7 ⟨Y, cy, rfl, hn7, -, hb7⟩)
    have B7 := Lib.hid (up B6.out.drew hb7 B6.out.drew.size)
    have SE := Lib.hid (same_eq Y cy la A ca w7 hn7 (L3.out.keep B7.out).a (by omega))
    refine hK.out _ _ (KS2.out _ B7.out) (fun hH1 => ?_)
    clear hK K hHeld hb7 hn7
    refine wpAnyH_ready (rs := [7]) (by kernel_rfl) (by simp) ?_
    refine AllReadyH.cons rfl (fun K hK => ?_) AllReadyH.nil
    go_simp
    go_wp2_with (go_at_call 17; refine SE.out.mono ?_; rintro e w8 ⟨rfl, hb8⟩)
    have B8 := Lib.hid (up B7.out hb8 B7.out.size)
    refine hK.out _ _ (KS2.out _ B8.out) (fun hH2 => ?_)
    clear hK K hH1 hb8 SE
    refine wpAnyH_take (i := 8) (v := ?_) rfl (by kernel_rfl) (by kernel_rfl) (by kernel_rfl) (fun _ _ _ h => h) (Or.inl ⟨by rfl, ?_⟩) (by assumption) ?_
    rotate_left
    · (intro w hSw; (try dsimp only at hSw); first | (go_simp; done) | (go_simp; with_reducible rfl))
    simp only [Act.put, List.getElem_toArray, List.getElem_cons_zero, List.getElem_cons_succ, List.setIfInBounds_toArray, List.set_cons_zero, List.set_cons_succ]
    refine wpAnyH_take (i := 9) (v := ?_) rfl (by kernel_rfl) (by kernel_rfl) (by kernel_rfl) (fun _ _ _ h => h) (Or.inl ⟨by rfl, ?_⟩) (by assumption) ?_
    rotate_left
    · (intro w hSw; (try dsimp only at hSw); first | (go_simp; done) | (go_simp; with_reducible rfl))
    simp only [Act.put, List.getElem_toArray, List.getElem_cons_zero, List.getElem_cons_succ, List.setIfInBounds_toArray, List.set_cons_zero, List.set_cons_succ]
    refine wpAnyH_take (i := 11) (v := ?_) rfl (by kernel_rfl) (by kernel_rfl) (by kernel_rfl) (fun _ _ _ h => h) (Or.inl ⟨by rfl, ?_⟩) (by assumption) ?_
    rotate_left
    · (intro w hSw; (try dsimp only at hSw); first | (go_simp; done) | (go_simp; with_reducible rfl))
    simp only [Act.put, List.getElem_toArray, List.getElem_cons_zero, List.getElem_cons_succ, List.setIfInBounds_toArray, List.set_cons_zero, List.set_cons_succ]
    refine wpAnyH_ready (rs := [10]) (by kernel_rfl) (by simp) ?_
    refine AllReadyH.cons rfl (fun K hK => ?_) AllReadyH.nil
    go_simp
    go_wp2_with (go_at_call 15; refine (HR.out _ B8.out).mono ?_; rintro e w9 ⟨rfl, hb9⟩)
    have B9 := Lib.hid (up B8.out hb9 B8.out.size)
    refine hK.out _ _ (KS2.out _ B9.out) (fun hH3 => ?_)
    clear hK K hH2 hb9
    refine wpAnyH_ready (rs := [12]) (by kernel_rfl) (by simp) ?_
    refine AllReadyH.cons rfl (fun K hK => ?_) AllReadyH.nil
    go_simp
    go_wp2_with (go_at_call 16; refine (LR.out _ B9.out).mono ?_; rintro e w10 ⟨rfl, hb10⟩)
    have B10 := Lib.hid (up B9.out hb10 B9.out.size)
    refine hK.out _ _ (KS2.out _ B10.out) (fun hH4 => ?_)
    clear hK K hH3 hb10
    refine wpAnyH_take (i := 13) (v := ?_) rfl (by kernel_rfl) (by kernel_rfl) (by kernel_rfl) (fun _ _ _ h => h) (Or.inl ⟨by rfl, ?_⟩) (by assumption) ?_
    rotate_left
    · (intro w hSw; (try dsimp only at hSw); first | (go_simp; done) | (go_simp; with_reducible rfl))
    simp only [Act.put, List.getElem_toArray, List.getElem_cons_zero, List.getElem_cons_succ, List.setIfInBounds_toArray, List.set_cons_zero, List.set_cons_succ]
    refine wpAnyH_take (i := 14) (v := ?_) rfl (by kernel_rfl) (by kernel_rfl) (by kernel_rfl) (fun _ _ _ h => h) (Or.inl ⟨by rfl, ?_⟩) (by assumption) ?_
    rotate_left
    · (intro w hSw; (try dsimp only at hSw); first | (go_simp; done) | (go_simp; with_reducible rfl))
    simp only [Act.put, List.getElem_toArray, List.getElem_cons_zero, List.getElem_cons_succ, List.setIfInBounds_toArray, List.set_cons_zero, List.set_cons_succ]
    refine wpAnyH_take (i := 15) (v := ?_) rfl (by kernel_rfl) (by kernel_rfl) (by kernel_rfl) (fun _ _ _ h => h) (Or.inl ⟨by rfl, ?_⟩) (by assumption) ?_
    rotate_left
    · (intro w hSw; (try dsimp only at hSw); first | (go_simp; done) | (go_simp; with_reducible rfl))
    simp only [Act.put, List.getElem_toArray, List.getElem_cons_zero, List.getElem_cons_succ, List.setIfInBounds_toArray, List.set_cons_zero, List.set_cons_succ]
    refine wpAnyH_take (i := 16) (v := ?_) rfl (by kernel_rfl) (by kernel_rfl) (by kernel_rfl) (fun _ _ _ h => h) (Or.inl ⟨by rfl, ?_⟩) (by assumption) ?_
    rotate_left
    · (intro w hSw; (try dsimp only at hSw); first | (go_simp; done) | (go_simp; with_reducible rfl))
    simp only [Act.put, List.getElem_toArray, List.getElem_cons_zero, List.getElem_cons_succ, List.setIfInBounds_toArray, List.set_cons_zero, List.set_cons_succ]
    refine wpAnyH_take (i := 17) (v := ?_) rfl (by kernel_rfl) (by kernel_rfl) (by kernel_rfl) (fun _ _ _ h => h) (Or.inl ⟨by rfl, ?_⟩) (by assumption) ?_
    rotate_left
    · (intro w hSw; (try dsimp only at hSw); first | (go_simp; done) | (go_simp; with_reducible rfl))
    simp only [Act.put, List.getElem_toArray, List.getElem_cons_zero, List.getElem_cons_succ, List.setIfInBounds_toArray, List.set_cons_zero, List.set_cons_succ]
    refine wpAnyH_ready (rs := [18]) (by kernel_rfl) (by simp) ?_
    refine AllReadyH.cons rfl (fun K hK => ?_) AllReadyH.nil
    go_simp
    go_wp2_with (go_at_call 18; refine (HE.out _ B10.out).mono ?_; rintro e w11 ⟨rfl, hb11⟩)
    have B11 := Lib.hid (up B10.out hb11 B10.out.size)
    refine hK.out _ _ (KS2.out _ B11.out) (fun hH5 => ?_)
    clear hK K hH4 hb11
    refine wpAnyH_take (i := 19) (v := ?_) rfl (by kernel_rfl) (by kernel_rfl) (by kernel_rfl) (fun _ _ _ h => h) (Or.inl ⟨by rfl, ?_⟩) (by assumption) ?_
    rotate_left
    · (intro w hSw; (try dsimp only at hSw); first | (go_simp; done) | (go_simp; with_reducible rfl))
    simp only [Act.put, List.getElem_toArray, List.getElem_cons_zero, List.getElem_cons_succ, List.setIfInBounds_toArray, List.set_cons_zero, List.set_cons_succ]
    refine wpAnyH_take (i := 20) (v := ?_) rfl (by kernel_rfl) (by kernel_rfl) (by kernel_rfl) (fun _ _ _ h => h) (Or.inl ⟨by rfl, ?_⟩) (by assumption) ?_
    rotate_left
    · (intro w hSw; (try dsimp only at hSw); first | (go_simp; done) | (go_simp; with_reducible rfl))
    simp only [Act.put, List.getElem_toArray, List.getElem_cons_zero, List.getElem_cons_succ, List.setIfInBounds_toArray, List.set_cons_zero, List.set_cons_succ]
    refine wpAnyH_ready (rs := [21]) (by kernel_rfl) (by simp) ?_
    refine AllReadyH.cons rfl (fun K hK => ?_) AllReadyH.nil
    go_simp
    go_wp2_with (go_at_call 8; refine (AW.out _ B11.out).mono ?_; rintro e w12 ⟨rfl, hb12⟩)
    have B12 := Lib.hid (up B11.out hb12 B11.out.size)
    refine hK.out _ _ (KS2.out _ B12.out) (fun hH6 => ?_)
    clear hK K hH5 hb12
    refine wpAnyH_take (i := 22) (v := ?_) rfl (by kernel_rfl) (by kernel_rfl) (by kernel_rfl) (fun _ _ _ h => h) (Or.inl ⟨by rfl, ?_⟩) (by assumption) ?_
    rotate_left
    · (intro w hSw; (try dsimp only at hSw); first | (go_simp; done) | (go_simp; with_reducible rfl))
    simp only [Act.put, List.getElem_toArray, List.getElem_cons_zero, List.getElem_cons_succ, List.setIfInBounds_toArray, List.set_cons_zero, List.set_cons_succ]
    refine wpAnyH_take (i := 23) (v := ?_) rfl (by kernel_rfl) (by kernel_rfl) (by kernel_rfl) (fun _ _ _ h => h) (Or.inl ⟨by rfl, ?_⟩) (by assumption) ?_
    rotate_left
    · (intro w hSw; (try dsimp only at hSw); first | (go_simp; done) | (go_simp; with_reducible rfl))
    simp only [Act.put, List.getElem_toArray, List.getElem_cons_zero, List.getElem_cons_succ, List.setIfInBounds_toArray, List.set_cons_zero, List.set_cons_succ]
    refine wpAnyH_done (by kernel_rfl) ?_ _
    clear hH6
    go_wp2_with fail
    go_ret
    exact ⟨rfl, up H3.out B12.out H3.out.size⟩

set_option maxRecDepth 100000 in
set_option maxHeartbeats 4000000 in
theorem walk_in1 (w : World) (hT : Tab w) (o : Int) (A : Option Addr) (ca : Nat) (la : List Int) (B : Option Addr) (cb : Nat) (lb : List Int) (C : Option Addr) (cc : Nat) (lc : List Int) (L : Ls w A la B lb C lc) (hn : la.length ≤ 40 ∧ lb.length ≤ 40 ∧ lc.length ≤ 40) (b : Bool) (hb : b = true ↔ RightH o la lb lc) :
    Calls Tryd.prog 4 #[.agg #[.int .i64 o, .slice A la.length ca, .slice B lb.length cb, .slice C lc.length cc], .int .i64 2] w (SmP true w) := by
  have ln : lb.length ≤ 40 := by omega
  have hm := made w (.cells #[.int .i64 o, .slice A la.length ca, .slice B lb.length cb, .slice C lc.length cc] 24)
  have bx : Blk (w.alloc (.cells #[.int .i64 o, .slice A la.length ca, .slice B lb.length cb, .slice C lc.length cc] 24)) w.heap.size 24 #[.int .i64 o, .slice A la.length ca, .slice B lb.length cb, .slice C lc.length cc] := Blk.new _ _ _
  have H1 := Lib.hid hm
  have BX := Lib.hid bx
  have LS := Lib.hid (L.keep hm)
  have TB := Lib.hid (hT.keep hm)
  have SM := Lib.hid (small_any o A ca la B cb lb C cc lc (w.alloc (.cells #[.int .i64 o, .slice A la.length ca, .slice B lb.length cb, .slice C lc.length cc] 24)) (by omega) (by omega) (by omega))
  rw [decide_eq_true hn] at SM
  have b0 := bx.cell 0
  have b1 := bx.cell 1
  have b2 := bx.cell 2
  have b3 := bx.cell 3
  clear hm bx L hT hn
  generalize hw1 : w.alloc (.cells #[.int .i64 o, .slice A la.length ca, .slice B lb.length cb, .slice C lc.length cc] 24) = w1 at *
  go_enter Tryd.func4, Tryd.ntmps4
  go_wp2_with (rw [hw1])
  refine SM.out.mono ?_
  rintro e w2 ⟨rfl, hb2⟩
  clear b0 b1 b2 b3 hw1
  have B2 := Lib.hid hb2
  have bx2 := BX.out.below hb2 BX.out.lt
  have c0 := bx2.cell 0
  have c1 := bx2.cell 1
  have c2 := bx2.cell 2
  have c3 := bx2.cell 3
  have hm := made w2 (.cells #[.slice A la.length ca, .slice B lb.length cb, .slice C lc.length cc] 32)
  have bw : Blk (w2.alloc (.cells #[.slice A la.length ca, .slice B lb.length cb, .slice C lc.length cc] 32)) w2.heap.size 32 #[.slice A la.length ca, .slice B lb.length cb, .slice C lc.length cc] := Blk.new _ _ _
  have bx3 := bx2.below hm bx2.lt
  have x0 := bx3.cell 0
  have x1 := bx3.cell 1
  have x2 := bx3.cell 2
  have x3 := bx3.cell 3
  have H3 := Lib.hid (up H1.out (up B2.out hm B2.out.size) H1.out.size)
  have L3 := Lib.hid ((LS.out.keep hb2).keep hm)
  have T3 := Lib.hid ((TB.out.keep hb2).keep hm)
  have BX3 := Lib.hid bx3
  have BW3 := Lib.hid bw
  clear hb2 hm bw bx2 bx3 BX LS TB B2 SM
  go_wp2_with fail
  clear c0 c1 c2 c3 x0 x1 x2 x3
  generalize hw3 : (w2.alloc (.cells #[.slice A la.length ca, .slice B lb.length cb, .slice C lc.length cc] 32)) = w3 at *
  have KX := Lib.hid (fun ws (h : Below w3.heap.size w3 ws) => (BX3.out.below h BX3.out.lt))
  have KW := Lib.hid (fun ws (h : Below w3.heap.size w3 ws) => (BW3.out.below h BW3.out.lt))
  have LX := Lib.hid (fun ws (h : Below w3.heap.size w3 ws) => lists_1 o A ca la B cb lb C cc lc ws (L3.out.keep h))
  have AW := Lib.hid (fun ws (h : Below w3.heap.size w3 ws) => awake_any ws (T3.out.keep h))
  have HR := Lib.hid (fun ws (h : Below w3.heap.size w3 ws) => hright_any o A ca la B cb lb C cc lc b hb ws (L3.out.keep h))
  have LR := Lib.hid (fun ws (h : Below w3.heap.size w3 ws) => lright_any o A ca la B cb lb C cc lc b hb ws (L3.out.keep h))
  have HE := Lib.hid (fun ws (h : Below w3.heap.size w3 ws) => hequal_self o A ca la B cb lb C cc lc ws (L3.out.keep h))
  have KS : Hid (∀ ws, Below w3.heap.size w3 ws → ws.cell? ⟨w.heap.size, 0, none⟩ = some (.int .i64 o) ∧ ws.cell? ⟨w.heap.size, 1, none⟩ = some (.slice A la.length ca) ∧ ws.cell? ⟨w.heap.size, 2, none⟩ = some (.slice B lb.length cb) ∧ ws.cell? ⟨w.heap.size, 3, none⟩ = some (.slice C lc.length cc)) := Lib.hid (fun ws h => ⟨(KX.out _ h).cell 0, (KX.out _ h).cell 1, (KX.out _ h).cell 2, (KX.out _ h).cell 3⟩)
  clear BX3 BW3 T3 hw3 hb
  refine (LX.out _ (Below.refl _ _)).mono ?_
  rintro e w4 ⟨X, cx, rfl, hn4, hx4, hb4⟩
  have B4 := Lib.hid hb4
  have SE := Lib.hid (same_eq X cx lb B cb w4 hn4 (L3.out.keep hb4).b (by omega))
  have X4 := Lib.hid hx4
  have x0 := (KW.out _ hb4).cell 1
  clear hb4 hn4 hx4
  go_wp2_with fail
  refine SE.out.mono ?_
  rintro e w5 ⟨rfl, hb5⟩
  have B5 := Lib.hid (up B4.out hb5 B4.out.size)
  have X5 := Lib.hid (X4.out.keep hb5)
  clear hb5 x0 SE X4
  go_wp2_with fail
  go_loopw [50] (fun j wr => ∃ (i : Nat) (W : World), W = wr ∧ j = .int .i64 i ∧ i ≤ lb.length ∧ OwnX wr X lb.length w3.heap.size ∧ Below w3.heap.size w3 wr) (fun j _ => lb.length - (intOf j).toNat)
  case atStart => exact ⟨0, _, rfl, rfl, by omega, X5.out, B5.out⟩
  case round =>
  obtain ⟨i, w6, rfl, rfl, hi, hx6, hb6⟩ := hrel
  by_cases hil : i < lb.length
  · obtain ⟨g, cur, rfl, hg, hblk, hcs⟩ := hx6 (by omega)
    obtain ⟨x, hx⟩ := hcs i hil
    have cx0 : w6.cell? ⟨g, i, none⟩ = some (.int .i64 x) := (hblk.cell i).trans hx
    have fx0 := hblk.free i
    have R := Lib.hid (fun u => OwnX.put hg hblk hcs i u)
    have B6 := Lib.hid (fun u => hb6.setCell (p := ⟨g, i, none⟩) hg u)
    clear hx6 hb6 hblk hcs hx hg
    go_wp2_with fail
    refine ⟨⟨i + 1, _, rfl, by go_num, by omega, R.out _, B6.out _⟩, by simp [intOf]; omega⟩
  · have B6 := Lib.hid hb6
    clear hb6 hx6 X5
    have KS2 : Hid (∀ ws, Below w3.heap.size w3 ws → ws.cell? ⟨w.heap.size, 0, none⟩ = some (.int .i64 o) ∧ ws.cell? ⟨w.heap.size, 1, none⟩ = some (.slice A la.length ca) ∧ ws.cell? ⟨w.heap.size, 2, none⟩ = some (.slice B lb.length cb) ∧ ws.cell? ⟨w.heap.size, 3, none⟩ = some (.slice C lc.length cc) ∧ ws.cell? ⟨w2.heap.size, 1, none⟩ = some (.slice B lb.length cb)) := Lib.hid (fun ws h => ⟨(KX.out _ h).cell 0, (KX.out _ h).cell 1, (KX.out _ h).cell 2, (KX.out _ h).cell 3, (KW.out _ h).cell 1⟩)
    clear KS KX KW
    have wz : IntKind.i64.wrap 1 = 1 := by decide
    go_wp2_with fail
    refine wp_region_held_drew (S := (fun ws => ws.cell? ⟨w.heap.size, 0, none⟩ = some (.int .i64 o) ∧ ws.cell? ⟨w.heap.size, 1, none⟩ = some (.slice A la.length ca) ∧ ws.cell? ⟨w.heap.size, 2, none⟩ = some (.slice B lb.length cb) ∧ ws.cell? ⟨w.heap.size, 3, none⟩ = some (.slice C lc.length cc) ∧ ws.cell? ⟨w2.heap.size, 1, none⟩ = some (.slice B lb.length cb))) (by kernel_rfl) (KS2.out _ B6.out.drew) (fun hHeld => ?_)
    refine wpAnyH_take (i := 0) (v := ?_) rfl (by kernel_rfl) (by kernel_rfl) (by kernel_rfl) (fun _ _ _ h => h) (Or.inl ⟨by rfl, ?_⟩) (by assumption) ?_
    rotate_left
    · (intro w hSw; (try dsimp only at hSw); first | (go_simp; done) | (go_simp; with_reducible rfl))
    simp only [Act.put, List.getElem_toArray, List.getElem_cons_zero, List.getElem_cons_succ, List.setIfInBounds_toArray, List.set_cons_zero, List.set_cons_succ]
    refine wpAnyH_take (i := 1) (v := ?_) rfl (by kernel_rfl) (by kernel_rfl) (by kernel_rfl) (fun _ _ _ h => h) (Or.inl ⟨by rfl, ?_⟩) (by assumption) ?_
    rotate_left
    · (intro w hSw; (try dsimp only at hSw); first | (go_simp; done) | (go_simp; with_reducible rfl))
    simp only [Act.put, List.getElem_toArray, List.getElem_cons_zero, List.getElem_cons_succ, List.setIfInBounds_toArray, List.set_cons_zero, List.set_cons_succ]
    refine wpAnyH_take (i := 3) (v := ?_) rfl (by kernel_rfl) (by kernel_rfl) (by kernel_rfl) (fun _ _ _ h => h) (Or.inl ⟨by rfl, ?_⟩) (by assumption) ?_
    rotate_left
    · (intro w hSw; (try dsimp only at hSw); first | (go_simp; done) | (go_simp; with_reducible rfl))
    simp only [Act.put, List.getElem_toArray, List.getElem_cons_zero, List.getElem_cons_succ, List.setIfInBounds_toArray, List.set_cons_zero, List.set_cons_succ]
    refine wpAnyH_take (i := 4) (v := ?_) rfl (by kernel_rfl) (by kernel_rfl) (by kernel_rfl) (fun _ _ _ h => h) (Or.inl ⟨by rfl, ?_⟩) (by assumption) ?_
    rotate_left
    · (intro w hSw; (try dsimp only at hSw); first | (go_simp; done) | (go_simp; with_reducible rfl))
    simp only [Act.put, List.getElem_toArray, List.getElem_cons_zero, List.getElem_cons_succ, List.setIfInBounds_toArray, List.set_cons_zero, List.set_cons_succ]
    refine wpAnyH_take (i := 5) (v := ?_) rfl (by kernel_rfl) (by kernel_rfl) (by kernel_rfl) (fun _ _ _ h => h) (Or.inl ⟨by rfl, ?_⟩) (by assumption) ?_
    rotate_left
    · (intro w hSw; (try dsimp only at hSw); first | (go_simp; done) | (go_simp; with_reducible rfl))
    simp only [Act.put, List.getElem_toArray, List.getElem_cons_zero, List.getElem_cons_succ, List.setIfInBounds_toArray, List.set_cons_zero, List.set_cons_succ]
    refine wpAnyH_take (i := 6) (v := ?_) rfl (by kernel_rfl) (by kernel_rfl) (by kernel_rfl) (fun _ _ _ h => h) (Or.inl ⟨by rfl, ?_⟩) (by assumption) ?_
    rotate_left
    · (intro w hSw; (try dsimp only at hSw); first | (go_simp; done) | (go_simp; with_reducible rfl))
    simp only [Act.put, List.getElem_toArray, List.getElem_cons_zero, List.getElem_cons_succ, List.setIfInBounds_toArray, List.set_cons_zero, List.set_cons_succ]
    refine wpAnyH_ready (rs := [2]) (by kernel_rfl) (by simp) ?_
    refine AllReadyH.cons rfl (fun K hK => ?_) AllReadyH.nil
    go_simp
    go_wp2_with (go_at_call 14; refine (LX.out _ B6.out.drew).mono ?_; rintro e w7 ⟨Y, cy, rfl, hn7, -, hb7⟩)
    have B7 := Lib.hid (up B6.out.drew hb7 B6.out.drew.size)
    have SE := Lib.hid (same_eq Y cy lb B cb w7 hn7 (L3.out.keep B7.out).b (by omega))
    refine hK.out _ _ (KS2.out _ B7.out) (fun hH1 => ?_)
    clear hK K hHeld hb7 hn7
    refine wpAnyH_ready (rs := [7]) (by kernel_rfl) (by simp) ?_
    refine AllReadyH.cons rfl (fun K hK => ?_) AllReadyH.nil
    go_simp
    go_wp2_with (go_at_call 17; refine SE.out.mono ?_; rintro e w8 ⟨rfl, hb8⟩)
    have B8 := Lib.hid (up B7.out hb8 B7.out.size)
    refine hK.out _ _ (KS2.out _ B8.out) (fun hH2 => ?_)
    clear hK K hH1 hb8 SE
    refine wpAnyH_take (i := 8) (v := ?_) rfl (by kernel_rfl) (by kernel_rfl) (by kernel_rfl) (fun _ _ _ h => h) (Or.inl ⟨by rfl, ?_⟩) (by assumption) ?_
    rotate_left
    · (intro w hSw; (try dsimp only at hSw); first | (go_simp; done) | (go_simp; with_reducible rfl))
    simp only [Act.put, List.getElem_toArray, List.getElem_cons_zero, List.getElem_cons_succ, List.setIfInBounds_toArray, List.set_cons_zero, List.set_cons_succ]
    refine wpAnyH_take (i := 9) (v := ?_) rfl (by kernel_rfl) (by kernel_rfl) (by kernel_rfl) (fun _ _ _ h => h) (Or.inl ⟨by rfl, ?_⟩) (by assumption) ?_
    rotate_left
    · (intro w hSw; (try dsimp only at hSw); first | (go_simp; done) | (go_simp; with_reducible rfl))
    simp only [Act.put, List.getElem_toArray, List.getElem_cons_zero, List.getElem_cons_succ, List.setIfInBounds_toArray, List.set_cons_zero, List.set_cons_succ]
    refine wpAnyH_take (i := 11) (v := ?_) rfl (by kernel_rfl) (by kernel_rfl) (by kernel_rfl) (fun _ _ _ h => h) (Or.inl ⟨by rfl, ?_⟩) (by assumption) ?_
    rotate_left
    · (intro w hSw; (try dsimp only at hSw); first | (go_simp; done) | (go_simp; with_reducible rfl))
    simp only [Act.put, List.getElem_toArray, List.getElem_cons_zero, List.getElem_cons_succ, List.setIfInBounds_toArray, List.set_cons_zero, List.set_cons_succ]
    refine wpAnyH_ready (rs := [10]) (by kernel_rfl) (by simp) ?_
    refine AllReadyH.cons rfl (fun K hK => ?_) AllReadyH.nil
    go_simp
    go_wp2_with (go_at_call 15; refine (HR.out _ B8.out).mono ?_; rintro e w9 ⟨rfl, hb9⟩)
    have B9 := Lib.hid (up B8.out hb9 B8.out.size)
    refine hK.out _ _ (KS2.out _ B9.out) (fun hH3 => ?_)
    clear hK K hH2 hb9
    refine wpAnyH_ready (rs := [12]) (by kernel_rfl) (by simp) ?_
    refine AllReadyH.cons rfl (fun K hK => ?_) AllReadyH.nil
    go_simp
    go_wp2_with (go_at_call 16; refine (LR.out _ B9.out).mono ?_; rintro e w10 ⟨rfl, hb10⟩)
    have B10 := Lib.hid (up B9.out hb10 B9.out.size)
    refine hK.out _ _ (KS2.out _ B10.out) (fun hH4 => ?_)
    clear hK K hH3 hb10
    refine wpAnyH_take (i := 13) (v := ?_) rfl (by kernel_rfl) (by kernel_rfl) (by kernel_rfl) (fun _ _ _ h => h) (Or.inl ⟨by rfl, ?_⟩) (by assumption) ?_
    rotate_left
    · (intro w hSw; (try dsimp only at hSw); first | (go_simp; done) | (go_simp; with_reducible rfl))
    simp only [Act.put, List.getElem_toArray, List.getElem_cons_zero, List.getElem_cons_succ, List.setIfInBounds_toArray, List.set_cons_zero, List.set_cons_succ]
    refine wpAnyH_take (i := 14) (v := ?_) rfl (by kernel_rfl) (by kernel_rfl) (by kernel_rfl) (fun _ _ _ h => h) (Or.inl ⟨by rfl, ?_⟩) (by assumption) ?_
    rotate_left
    · (intro w hSw; (try dsimp only at hSw); first | (go_simp; done) | (go_simp; with_reducible rfl))
    simp only [Act.put, List.getElem_toArray, List.getElem_cons_zero, List.getElem_cons_succ, List.setIfInBounds_toArray, List.set_cons_zero, List.set_cons_succ]
    refine wpAnyH_take (i := 15) (v := ?_) rfl (by kernel_rfl) (by kernel_rfl) (by kernel_rfl) (fun _ _ _ h => h) (Or.inl ⟨by rfl, ?_⟩) (by assumption) ?_
    rotate_left
    · (intro w hSw; (try dsimp only at hSw); first | (go_simp; done) | (go_simp; with_reducible rfl))
    simp only [Act.put, List.getElem_toArray, List.getElem_cons_zero, List.getElem_cons_succ, List.setIfInBounds_toArray, List.set_cons_zero, List.set_cons_succ]
    refine wpAnyH_take (i := 16) (v := ?_) rfl (by kernel_rfl) (by kernel_rfl) (by kernel_rfl) (fun _ _ _ h => h) (Or.inl ⟨by rfl, ?_⟩) (by assumption) ?_
    rotate_left
    · (intro w hSw; (try dsimp only at hSw); first | (go_simp; done) | (go_simp; with_reducible rfl))
    simp only [Act.put, List.getElem_toArray, List.getElem_cons_zero, List.getElem_cons_succ, List.setIfInBounds_toArray, List.set_cons_zero, List.set_cons_succ]
    refine wpAnyH_take (i := 17) (v := ?_) rfl (by kernel_rfl) (by kernel_rfl) (by kernel_rfl) (fun _ _ _ h => h) (Or.inl ⟨by rfl, ?_⟩) (by assumption) ?_
    rotate_left
    · (intro w hSw; (try dsimp only at hSw); first | (go_simp; done) | (go_simp; with_reducible rfl))
    simp only [Act.put, List.getElem_toArray, List.getElem_cons_zero, List.getElem_cons_succ, List.setIfInBounds_toArray, List.set_cons_zero, List.set_cons_succ]
    refine wpAnyH_ready (rs := [18]) (by kernel_rfl) (by simp) ?_
    refine AllReadyH.cons rfl (fun K hK => ?_) AllReadyH.nil
    go_simp
    go_wp2_with (go_at_call 18; refine (HE.out _ B10.out).mono ?_; rintro e w11 ⟨rfl, hb11⟩)
    have B11 := Lib.hid (up B10.out hb11 B10.out.size)
    refine hK.out _ _ (KS2.out _ B11.out) (fun hH5 => ?_)
    clear hK K hH4 hb11
    refine wpAnyH_take (i := 19) (v := ?_) rfl (by kernel_rfl) (by kernel_rfl) (by kernel_rfl) (fun _ _ _ h => h) (Or.inl ⟨by rfl, ?_⟩) (by assumption) ?_
    rotate_left
    · (intro w hSw; (try dsimp only at hSw); first | (go_simp; done) | (go_simp; with_reducible rfl))
    simp only [Act.put, List.getElem_toArray, List.getElem_cons_zero, List.getElem_cons_succ, List.setIfInBounds_toArray, List.set_cons_zero, List.set_cons_succ]
    refine wpAnyH_take (i := 20) (v := ?_) rfl (by kernel_rfl) (by kernel_rfl) (by kernel_rfl) (fun _ _ _ h => h) (Or.inl ⟨by rfl, ?_⟩) (by assumption) ?_
    rotate_left
    · (intro w hSw; (try dsimp only at hSw); first | (go_simp; done) | (go_simp; with_reducible rfl))
    simp only [Act.put, List.getElem_toArray, List.getElem_cons_zero, List.getElem_cons_succ, List.setIfInBounds_toArray, List.set_cons_zero, List.set_cons_succ]
    refine wpAnyH_ready (rs := [21]) (by kernel_rfl) (by simp) ?_
    refine AllReadyH.cons rfl (fun K hK => ?_) AllReadyH.nil
    go_simp
    go_wp2_with (go_at_call 8; refine (AW.out _ B11.out).mono ?_; rintro e w12 ⟨rfl, hb12⟩)
    have B12 := Lib.hid (up B11.out hb12 B11.out.size)
    refine hK.out _ _ (KS2.out _ B12.out) (fun hH6 => ?_)
    clear hK K hH5 hb12
    refine wpAnyH_take (i := 22) (v := ?_) rfl (by kernel_rfl) (by kernel_rfl) (by kernel_rfl) (fun _ _ _ h => h) (Or.inl ⟨by rfl, ?_⟩) (by assumption) ?_
    rotate_left
    · (intro w hSw; (try dsimp only at hSw); first | (go_simp; done) | (go_simp; with_reducible rfl))
    simp only [Act.put, List.getElem_toArray, List.getElem_cons_zero, List.getElem_cons_succ, List.setIfInBounds_toArray, List.set_cons_zero, List.set_cons_succ]
    refine wpAnyH_take (i := 23) (v := ?_) rfl (by kernel_rfl) (by kernel_rfl) (by kernel_rfl) (fun _ _ _ h => h) (Or.inl ⟨by rfl, ?_⟩) (by assumption) ?_
    rotate_left
    · (intro w hSw; (try dsimp only at hSw); first | (go_simp; done) | (go_simp; with_reducible rfl))
    simp only [Act.put, List.getElem_toArray, List.getElem_cons_zero, List.getElem_cons_succ, List.setIfInBounds_toArray, List.set_cons_zero, List.set_cons_succ]
    refine wpAnyH_done (by kernel_rfl) ?_ _
    clear hH6
    go_wp2_with fail
    go_ret
    exact ⟨rfl, up H3.out B12.out H3.out.size⟩

set_option maxRecDepth 100000 in
set_option maxHeartbeats 4000000 in
theorem walk_in2 (w : World) (hT : Tab w) (o : Int) (A : Option Addr) (ca : Nat) (la : List Int) (B : Option Addr) (cb : Nat) (lb : List Int) (C : Option Addr) (cc : Nat) (lc : List Int) (L : Ls w A la B lb C lc) (hn : la.length ≤ 40 ∧ lb.length ≤ 40 ∧ lc.length ≤ 40) (b : Bool) (hb : b = true ↔ RightH o la lb lc) :
    Calls Tryd.prog 4 #[.agg #[.int .i64 o, .slice A la.length ca, .slice B lb.length cb, .slice C lc.length cc], .int .i64 3] w (SmP true w) := by
  have ln : lc.length ≤ 40 := by omega
  have hm := made w (.cells #[.int .i64 o, .slice A la.length ca, .slice B lb.length cb, .slice C lc.length cc] 24)
  have bx : Blk (w.alloc (.cells #[.int .i64 o, .slice A la.length ca, .slice B lb.length cb, .slice C lc.length cc] 24)) w.heap.size 24 #[.int .i64 o, .slice A la.length ca, .slice B lb.length cb, .slice C lc.length cc] := Blk.new _ _ _
  have H1 := Lib.hid hm
  have BX := Lib.hid bx
  have LS := Lib.hid (L.keep hm)
  have TB := Lib.hid (hT.keep hm)
  have SM := Lib.hid (small_any o A ca la B cb lb C cc lc (w.alloc (.cells #[.int .i64 o, .slice A la.length ca, .slice B lb.length cb, .slice C lc.length cc] 24)) (by omega) (by omega) (by omega))
  rw [decide_eq_true hn] at SM
  have b0 := bx.cell 0
  have b1 := bx.cell 1
  have b2 := bx.cell 2
  have b3 := bx.cell 3
  clear hm bx L hT hn
  generalize hw1 : w.alloc (.cells #[.int .i64 o, .slice A la.length ca, .slice B lb.length cb, .slice C lc.length cc] 24) = w1 at *
  go_enter Tryd.func4, Tryd.ntmps4
  go_wp2_with (rw [hw1])
  refine SM.out.mono ?_
  rintro e w2 ⟨rfl, hb2⟩
  clear b0 b1 b2 b3 hw1
  have B2 := Lib.hid hb2
  have bx2 := BX.out.below hb2 BX.out.lt
  have c0 := bx2.cell 0
  have c1 := bx2.cell 1
  have c2 := bx2.cell 2
  have c3 := bx2.cell 3
  have hm := made w2 (.cells #[.slice A la.length ca, .slice B lb.length cb, .slice C lc.length cc] 32)
  have bw : Blk (w2.alloc (.cells #[.slice A la.length ca, .slice B lb.length cb, .slice C lc.length cc] 32)) w2.heap.size 32 #[.slice A la.length ca, .slice B lb.length cb, .slice C lc.length cc] := Blk.new _ _ _
  have bx3 := bx2.below hm bx2.lt
  have x0 := bx3.cell 0
  have x1 := bx3.cell 1
  have x2 := bx3.cell 2
  have x3 := bx3.cell 3
  have H3 := Lib.hid (up H1.out (up B2.out hm B2.out.size) H1.out.size)
  have L3 := Lib.hid ((LS.out.keep hb2).keep hm)
  have T3 := Lib.hid ((TB.out.keep hb2).keep hm)
  have BX3 := Lib.hid bx3
  have BW3 := Lib.hid bw
  clear hb2 hm bw bx2 bx3 BX LS TB B2 SM
  go_wp2_with fail
  clear c0 c1 c2 c3 x0 x1 x2 x3
  generalize hw3 : (w2.alloc (.cells #[.slice A la.length ca, .slice B lb.length cb, .slice C lc.length cc] 32)) = w3 at *
  have KX := Lib.hid (fun ws (h : Below w3.heap.size w3 ws) => (BX3.out.below h BX3.out.lt))
  have KW := Lib.hid (fun ws (h : Below w3.heap.size w3 ws) => (BW3.out.below h BW3.out.lt))
  have LX := Lib.hid (fun ws (h : Below w3.heap.size w3 ws) => lists_2 o A ca la B cb lb C cc lc ws (L3.out.keep h))
  have AW := Lib.hid (fun ws (h : Below w3.heap.size w3 ws) => awake_any ws (T3.out.keep h))
  have HR := Lib.hid (fun ws (h : Below w3.heap.size w3 ws) => hright_any o A ca la B cb lb C cc lc b hb ws (L3.out.keep h))
  have LR := Lib.hid (fun ws (h : Below w3.heap.size w3 ws) => lright_any o A ca la B cb lb C cc lc b hb ws (L3.out.keep h))
  have HE := Lib.hid (fun ws (h : Below w3.heap.size w3 ws) => hequal_self o A ca la B cb lb C cc lc ws (L3.out.keep h))
  have KS : Hid (∀ ws, Below w3.heap.size w3 ws → ws.cell? ⟨w.heap.size, 0, none⟩ = some (.int .i64 o) ∧ ws.cell? ⟨w.heap.size, 1, none⟩ = some (.slice A la.length ca) ∧ ws.cell? ⟨w.heap.size, 2, none⟩ = some (.slice B lb.length cb) ∧ ws.cell? ⟨w.heap.size, 3, none⟩ = some (.slice C lc.length cc)) := Lib.hid (fun ws h => ⟨(KX.out _ h).cell 0, (KX.out _ h).cell 1, (KX.out _ h).cell 2, (KX.out _ h).cell 3⟩)
  clear BX3 BW3 T3 hw3 hb
  refine (LX.out _ (Below.refl _ _)).mono ?_
  rintro e w4 ⟨X, cx, rfl, hn4, hx4, hb4⟩
  have B4 := Lib.hid hb4
  have SE := Lib.hid (same_eq X cx lc C cc w4 hn4 (L3.out.keep hb4).c (by omega))
  have X4 := Lib.hid hx4
  have x0 := (KW.out _ hb4).cell 2
  clear hb4 hn4 hx4
  go_wp2_with fail
  refine SE.out.mono ?_
  rintro e w5 ⟨rfl, hb5⟩
  have B5 := Lib.hid (up B4.out hb5 B4.out.size)
  have X5 := Lib.hid (X4.out.keep hb5)
  clear hb5 x0 SE X4
  go_wp2_with fail
  go_loopw [50] (fun j wr => ∃ (i : Nat) (W : World), W = wr ∧ j = .int .i64 i ∧ i ≤ lc.length ∧ OwnX wr X lc.length w3.heap.size ∧ Below w3.heap.size w3 wr) (fun j _ => lc.length - (intOf j).toNat)
  case atStart => exact ⟨0, _, rfl, rfl, by omega, X5.out, B5.out⟩
  case round =>
  obtain ⟨i, w6, rfl, rfl, hi, hx6, hb6⟩ := hrel
  by_cases hil : i < lc.length
  · obtain ⟨g, cur, rfl, hg, hblk, hcs⟩ := hx6 (by omega)
    obtain ⟨x, hx⟩ := hcs i hil
    have cx0 : w6.cell? ⟨g, i, none⟩ = some (.int .i64 x) := (hblk.cell i).trans hx
    have fx0 := hblk.free i
    have R := Lib.hid (fun u => OwnX.put hg hblk hcs i u)
    have B6 := Lib.hid (fun u => hb6.setCell (p := ⟨g, i, none⟩) hg u)
    clear hx6 hb6 hblk hcs hx hg
    go_wp2_with fail
    refine ⟨⟨i + 1, _, rfl, by go_num, by omega, R.out _, B6.out _⟩, by simp [intOf]; omega⟩
  · have B6 := Lib.hid hb6
    clear hb6 hx6 X5
    have KS2 : Hid (∀ ws, Below w3.heap.size w3 ws → ws.cell? ⟨w.heap.size, 0, none⟩ = some (.int .i64 o) ∧ ws.cell? ⟨w.heap.size, 1, none⟩ = some (.slice A la.length ca) ∧ ws.cell? ⟨w.heap.size, 2, none⟩ = some (.slice B lb.length cb) ∧ ws.cell? ⟨w.heap.size, 3, none⟩ = some (.slice C lc.length cc) ∧ ws.cell? ⟨w2.heap.size, 2, none⟩ = some (.slice C lc.length cc)) := Lib.hid (fun ws h => ⟨(KX.out _ h).cell 0, (KX.out _ h).cell 1, (KX.out _ h).cell 2, (KX.out _ h).cell 3, (KW.out _ h).cell 2⟩)
    clear KS KX KW
    have wz : IntKind.i64.wrap 2 = 2 := by decide
    go_wp2_with fail
    refine wp_region_held_drew (S := (fun ws => ws.cell? ⟨w.heap.size, 0, none⟩ = some (.int .i64 o) ∧ ws.cell? ⟨w.heap.size, 1, none⟩ = some (.slice A la.length ca) ∧ ws.cell? ⟨w.heap.size, 2, none⟩ = some (.slice B lb.length cb) ∧ ws.cell? ⟨w.heap.size, 3, none⟩ = some (.slice C lc.length cc) ∧ ws.cell? ⟨w2.heap.size, 2, none⟩ = some (.slice C lc.length cc))) (by kernel_rfl) (KS2.out _ B6.out.drew) (fun hHeld => ?_)
    refine wpAnyH_take (i := 0) (v := ?_) rfl (by kernel_rfl) (by kernel_rfl) (by kernel_rfl) (fun _ _ _ h => h) (Or.inl ⟨by rfl, ?_⟩) (by assumption) ?_
    rotate_left
    · (intro w hSw; (try dsimp only at hSw); first | (go_simp; done) | (go_simp; with_reducible rfl))
    simp only [Act.put, List.getElem_toArray, List.getElem_cons_zero, List.getElem_cons_succ, List.setIfInBounds_toArray, List.set_cons_zero, List.set_cons_succ]
    refine wpAnyH_take (i := 1) (v := ?_) rfl (by kernel_rfl) (by kernel_rfl) (by kernel_rfl) (fun _ _ _ h => h) (Or.inl ⟨by rfl, ?_⟩) (by assumption) ?_
    rotate_left
    · (intro w hSw; (try dsimp only at hSw); first | (go_simp; done) | (go_simp; with_reducible rfl))
    simp only [Act.put, List.getElem_toArray, List.getElem_cons_zero, List.getElem_cons_succ, List.setIfInBounds_toArray, List.set_cons_zero, List.set_cons_succ]
    refine wpAnyH_take (i := 3) (v := ?_) rfl (by kernel_rfl) (by kernel_rfl) (by kernel_rfl) (fun _ _ _ h => h) (Or.inl ⟨by rfl, ?_⟩) (by assumption) ?_
    rotate_left
    · (intro w hSw; (try dsimp only at hSw); first | (go_simp; done) | (go_simp; with_reducible rfl))
    simp only [Act.put, List.getElem_toArray, List.getElem_cons_zero, List.getElem_cons_succ, List.setIfInBounds_toArray, List.set_cons_zero, List.set_cons_succ]
    refine wpAnyH_take (i := 4) (v := ?_) rfl (by kernel_rfl) (by kernel_rfl) (by kernel_rfl) (fun _ _ _ h => h) (Or.inl ⟨by rfl, ?_⟩) (by assumption) ?_
    rotate_left
    · (intro w hSw; (try dsimp only at hSw); first | (go_simp; done) | (go_simp; with_reducible rfl))
    simp only [Act.put, List.getElem_toArray, List.getElem_cons_zero, List.getElem_cons_succ, List.setIfInBounds_toArray, List.set_cons_zero, List.set_cons_succ]
    refine wpAnyH_take (i := 5) (v := ?_) rfl (by kernel_rfl) (by kernel_rfl) (by kernel_rfl) (fun _ _ _ h => h) (Or.inl ⟨by rfl, ?_⟩) (by assumption) ?_
    rotate_left
    · (intro w hSw; (try dsimp only at hSw); first | (go_simp; done) | (go_simp; with_reducible rfl))
    simp only [Act.put, List.getElem_toArray, List.getElem_cons_zero, List.getElem_cons_succ, List.setIfInBounds_toArray, List.set_cons_zero, List.set_cons_succ]
    refine wpAnyH_take (i := 6) (v := ?_) rfl (by kernel_rfl) (by kernel_rfl) (by kernel_rfl) (fun _ _ _ h => h) (Or.inl ⟨by rfl, ?_⟩) (by assumption) ?_
    rotate_left
    · (intro w hSw; (try dsimp only at hSw); first | (go_simp; done) | (go_simp; with_reducible rfl))
    simp only [Act.put, List.getElem_toArray, List.getElem_cons_zero, List.getElem_cons_succ, List.setIfInBounds_toArray, List.set_cons_zero, List.set_cons_succ]
    refine wpAnyH_ready (rs := [2]) (by kernel_rfl) (by simp) ?_
    refine AllReadyH.cons rfl (fun K hK => ?_) AllReadyH.nil
    go_simp
    go_wp2_with (go_at_call 14; refine (LX.out _ B6.out.drew).mono ?_; rintro e w7 ⟨Y, cy, rfl, hn7, -, hb7⟩)
    have B7 := Lib.hid (up B6.out.drew hb7 B6.out.drew.size)
    have SE := Lib.hid (same_eq Y cy lc C cc w7 hn7 (L3.out.keep B7.out).c (by omega))
    refine hK.out _ _ (KS2.out _ B7.out) (fun hH1 => ?_)
    clear hK K hHeld hb7 hn7
    refine wpAnyH_ready (rs := [7]) (by kernel_rfl) (by simp) ?_
    refine AllReadyH.cons rfl (fun K hK => ?_) AllReadyH.nil
    go_simp
    go_wp2_with (go_at_call 17; refine SE.out.mono ?_; rintro e w8 ⟨rfl, hb8⟩)
    have B8 := Lib.hid (up B7.out hb8 B7.out.size)
    refine hK.out _ _ (KS2.out _ B8.out) (fun hH2 => ?_)
    clear hK K hH1 hb8 SE
    refine wpAnyH_take (i := 8) (v := ?_) rfl (by kernel_rfl) (by kernel_rfl) (by kernel_rfl) (fun _ _ _ h => h) (Or.inl ⟨by rfl, ?_⟩) (by assumption) ?_
    rotate_left
    · (intro w hSw; (try dsimp only at hSw); first | (go_simp; done) | (go_simp; with_reducible rfl))
    simp only [Act.put, List.getElem_toArray, List.getElem_cons_zero, List.getElem_cons_succ, List.setIfInBounds_toArray, List.set_cons_zero, List.set_cons_succ]
    refine wpAnyH_take (i := 9) (v := ?_) rfl (by kernel_rfl) (by kernel_rfl) (by kernel_rfl) (fun _ _ _ h => h) (Or.inl ⟨by rfl, ?_⟩) (by assumption) ?_
    rotate_left
    · (intro w hSw; (try dsimp only at hSw); first | (go_simp; done) | (go_simp; with_reducible rfl))
    simp only [Act.put, List.getElem_toArray, List.getElem_cons_zero, List.getElem_cons_succ, List.setIfInBounds_toArray, List.set_cons_zero, List.set_cons_succ]
    refine wpAnyH_take (i := 11) (v := ?_) rfl (by kernel_rfl) (by kernel_rfl) (by kernel_rfl) (fun _ _ _ h => h) (Or.inl ⟨by rfl, ?_⟩) (by assumption) ?_
    rotate_left
    · (intro w hSw; (try dsimp only at hSw); first | (go_simp; done) | (go_simp; with_reducible rfl))
    simp only [Act.put, List.getElem_toArray, List.getElem_cons_zero, List.getElem_cons_succ, List.setIfInBounds_toArray, List.set_cons_zero, List.set_cons_succ]
    refine wpAnyH_ready (rs := [10]) (by kernel_rfl) (by simp) ?_
    refine AllReadyH.cons rfl (fun K hK => ?_) AllReadyH.nil
    go_simp
    go_wp2_with (go_at_call 15; refine (HR.out _ B8.out).mono ?_; rintro e w9 ⟨rfl, hb9⟩)
    have B9 := Lib.hid (up B8.out hb9 B8.out.size)
    refine hK.out _ _ (KS2.out _ B9.out) (fun hH3 => ?_)
    clear hK K hH2 hb9
    refine wpAnyH_ready (rs := [12]) (by kernel_rfl) (by simp) ?_
    refine AllReadyH.cons rfl (fun K hK => ?_) AllReadyH.nil
    go_simp
    go_wp2_with (go_at_call 16; refine (LR.out _ B9.out).mono ?_; rintro e w10 ⟨rfl, hb10⟩)
    have B10 := Lib.hid (up B9.out hb10 B9.out.size)
    refine hK.out _ _ (KS2.out _ B10.out) (fun hH4 => ?_)
    clear hK K hH3 hb10
    refine wpAnyH_take (i := 13) (v := ?_) rfl (by kernel_rfl) (by kernel_rfl) (by kernel_rfl) (fun _ _ _ h => h) (Or.inl ⟨by rfl, ?_⟩) (by assumption) ?_
    rotate_left
    · (intro w hSw; (try dsimp only at hSw); first | (go_simp; done) | (go_simp; with_reducible rfl))
    simp only [Act.put, List.getElem_toArray, List.getElem_cons_zero, List.getElem_cons_succ, List.setIfInBounds_toArray, List.set_cons_zero, List.set_cons_succ]
    refine wpAnyH_take (i := 14) (v := ?_) rfl (by kernel_rfl) (by kernel_rfl) (by kernel_rfl) (fun _ _ _ h => h) (Or.inl ⟨by rfl, ?_⟩) (by assumption) ?_
    rotate_left
    · (intro w hSw; (try dsimp only at hSw); first | (go_simp; done) | (go_simp; with_reducible rfl))
    simp only [Act.put, List.getElem_toArray, List.getElem_cons_zero, List.getElem_cons_succ, List.setIfInBounds_toArray, List.set_cons_zero, List.set_cons_succ]
    refine wpAnyH_take (i := 15) (v := ?_) rfl (by kernel_rfl) (by kernel_rfl) (by kernel_rfl) (fun _ _ _ h => h) (Or.inl ⟨by rfl, ?_⟩) (by assumption) ?_
    rotate_left
    · (intro w hSw; (try dsimp only at hSw); first | (go_simp; done) | (go_simp; with_reducible rfl))
    simp only [Act.put, List.getElem_toArray, List.getElem_cons_zero, List.getElem_cons_succ, List.setIfInBounds_toArray, List.set_cons_zero, List.set_cons_succ]
    refine wpAnyH_take (i := 16) (v := ?_) rfl (by kernel_rfl) (by kernel_rfl) (by kernel_rfl) (fun _ _ _ h => h) (Or.inl ⟨by rfl, ?_⟩) (by assumption) ?_
    rotate_left
    · (intro w hSw; (try dsimp only at hSw); first | (go_simp; done) | (go_simp; with_reducible rfl))
    simp only [Act.put, List.getElem_toArray, List.getElem_cons_zero, List.getElem_cons_succ, List.setIfInBounds_toArray, List.set_cons_zero, List.set_cons_succ]
    refine wpAnyH_take (i := 17) (v := ?_) rfl (by kernel_rfl) (by kernel_rfl) (by kernel_rfl) (fun _ _ _ h => h) (Or.inl ⟨by rfl, ?_⟩) (by assumption) ?_
    rotate_left
    · (intro w hSw; (try dsimp only at hSw); first | (go_simp; done) | (go_simp; with_reducible rfl))
    simp only [Act.put, List.getElem_toArray, List.getElem_cons_zero, List.getElem_cons_succ, List.setIfInBounds_toArray, List.set_cons_zero, List.set_cons_succ]
    refine wpAnyH_ready (rs := [18]) (by kernel_rfl) (by simp) ?_
    refine AllReadyH.cons rfl (fun K hK => ?_) AllReadyH.nil
    go_simp
    go_wp2_with (go_at_call 18; refine (HE.out _ B10.out).mono ?_; rintro e w11 ⟨rfl, hb11⟩)
    have B11 := Lib.hid (up B10.out hb11 B10.out.size)
    refine hK.out _ _ (KS2.out _ B11.out) (fun hH5 => ?_)
    clear hK K hH4 hb11
    refine wpAnyH_take (i := 19) (v := ?_) rfl (by kernel_rfl) (by kernel_rfl) (by kernel_rfl) (fun _ _ _ h => h) (Or.inl ⟨by rfl, ?_⟩) (by assumption) ?_
    rotate_left
    · (intro w hSw; (try dsimp only at hSw); first | (go_simp; done) | (go_simp; with_reducible rfl))
    simp only [Act.put, List.getElem_toArray, List.getElem_cons_zero, List.getElem_cons_succ, List.setIfInBounds_toArray, List.set_cons_zero, List.set_cons_succ]
    refine wpAnyH_take (i := 20) (v := ?_) rfl (by kernel_rfl) (by kernel_rfl) (by kernel_rfl) (fun _ _ _ h => h) (Or.inl ⟨by rfl, ?_⟩) (by assumption) ?_
    rotate_left
    · (intro w hSw; (try dsimp only at hSw); first | (go_simp; done) | (go_simp; with_reducible rfl))
    simp only [Act.put, List.getElem_toArray, List.getElem_cons_zero, List.getElem_cons_succ, List.setIfInBounds_toArray, List.set_cons_zero, List.set_cons_succ]
    refine wpAnyH_ready (rs := [21]) (by kernel_rfl) (by simp) ?_
    refine AllReadyH.cons rfl (fun K hK => ?_) AllReadyH.nil
    go_simp
    go_wp2_with (go_at_call 8; refine (AW.out _ B11.out).mono ?_; rintro e w12 ⟨rfl, hb12⟩)
    have B12 := Lib.hid (up B11.out hb12 B11.out.size)
    refine hK.out _ _ (KS2.out _ B12.out) (fun hH6 => ?_)
    clear hK K hH5 hb12
    refine wpAnyH_take (i := 22) (v := ?_) rfl (by kernel_rfl) (by kernel_rfl) (by kernel_rfl) (fun _ _ _ h => h) (Or.inl ⟨by rfl, ?_⟩) (by assumption) ?_
    rotate_left
    · (intro w hSw; (try dsimp only at hSw); first | (go_simp; done) | (go_simp; with_reducible rfl))
    simp only [Act.put, List.getElem_toArray, List.getElem_cons_zero, List.getElem_cons_succ, List.setIfInBounds_toArray, List.set_cons_zero, List.set_cons_succ]
    refine wpAnyH_take (i := 23) (v := ?_) rfl (by kernel_rfl) (by kernel_rfl) (by kernel_rfl) (fun _ _ _ h => h) (Or.inl ⟨by rfl, ?_⟩) (by assumption) ?_
    rotate_left
    · (intro w hSw; (try dsimp only at hSw); first | (go_simp; done) | (go_simp; with_reducible rfl))
    simp only [Act.put, List.getElem_toArray, List.getElem_cons_zero, List.getElem_cons_succ, List.setIfInBounds_toArray, List.set_cons_zero, List.set_cons_succ]
    refine wpAnyH_done (by kernel_rfl) ?_ _
    clear hH6
    go_wp2_with fail
    go_ret
    exact ⟨rfl, up H3.out B12.out H3.out.size⟩
end Go.Proofs.YtemkhblogmdleaaDoor.accessRight
