/-
  Set of a house with whatever rows: list 2.
-/
import Derived.Test.YtemkhblogmdleaaDoorAccP
namespace Go.Proofs.YtemkhblogmdleaaDoor.acw
open Go.RowKit
open base (ret_bool ret_int made up Blk Only Nums)
open rk il
set_option linter.unusedVariables false
set_option linter.unusedSimpArgs false

set_option maxRecDepth 100000 in
set_option maxHeartbeats 8000000 in
theorem set_2 (o : Int) (A : Option Addr) (ca : Nat) (la : List Int) (B : Option Addr) (cb : Nat) (lb : List Int) (C : Option Addr) (cc : Nat) (lc : List Int) (p : Int) (on : Bool) (w : World) (h1 : 1 ≤ p) (h2 : p ≤ 256) (hpo : p ≠ o)
    (hA : Lay il.E1 w A la) (hB : Lay il.E1 w B lb) (hC : Lay il.E1 w C lc) (ha : la.length ≤ 100) (hb : lb.length ≤ 100) (hc : lc.length ≤ 100) (hs : lb.Pairwise (· < ·)) :
    Calls Tryd.prog 19 #[.agg #[.int .i64 o, .slice A la.length ca, .slice B lb.length cb, .slice C lc.length cc], .int .i64 2, .int .i64 p, .bool on] w (SetP (wrongOf o p on (ac.on lb p) lb.length) o la (nw on p lb) lc w) := by
  have bx : Blk (w.alloc (.cells #[.int .i64 o, .slice A la.length ca, .slice B lb.length cb, .slice C lc.length cc] 24)) w.heap.size 24 #[.int .i64 o, .slice A la.length ca, .slice B lb.length cb, .slice C lc.length cc] := Blk.new _ _ _
  have by_ : Blk ((w.alloc (.cells #[.int .i64 o, .slice A la.length ca, .slice B lb.length cb, .slice C lc.length cc] 24)).alloc (.cells #[.int .i64 0, .slice none 0 0, .slice none 0 0, .slice none 0 0] 24)) (w.heap.size + 1) 24 #[.int .i64 0, .slice none 0 0, .slice none 0 0, .slice none 0 0] := by
    have := Blk.new (w.alloc (.cells #[.int .i64 o, .slice A la.length ca, .slice B lb.length cb, .slice C lc.length cc] 24)) 24 #[.int .i64 0, .slice none 0 0, .slice none 0 0, .slice none 0 0]
    rw [ac.asz] at this
    exact this
  have bx2 := bx.alloc (.cells #[.int .i64 0, .slice none 0 0, .slice none 0 0, .slice none 0 0] 24)
  have hb2 : Below w.heap.size w ((w.alloc (.cells #[.int .i64 o, .slice A la.length ca, .slice B lb.length cb, .slice C lc.length cc] 24)).alloc (.cells #[.int .i64 0, .slice none 0 0, .slice none 0 0, .slice none 0 0] 24)) := (made w _).alloc (by rw [ac.asz]; omega) _
  have hs2 : (((w.alloc (.cells #[.int .i64 o, .slice A la.length ca, .slice B lb.length cb, .slice C lc.length cc] 24)).alloc (.cells #[.int .i64 0, .slice none 0 0, .slice none 0 0, .slice none 0 0] 24))).heap.size = w.heap.size + 2 := by rw [ac.asz, ac.asz]
  generalize hw2 : ((w.alloc (.cells #[.int .i64 o, .slice A la.length ca, .slice B lb.length cb, .slice C lc.length cc] 24)).alloc (.cells #[.int .i64 0, .slice none 0 0, .slice none 0 0, .slice none 0 0] 24)) = w2 at *
  have KS0 : ∀ ws, Below (w.heap.size + 2) w2 ws → ws.cell? ⟨w.heap.size, 0, none⟩ = some (.int .i64 o) ∧ ws.cell? ⟨w.heap.size, 1, none⟩ = some (.slice A la.length ca) ∧ ws.cell? ⟨w.heap.size, 2, none⟩ = some (.slice B lb.length cb) ∧ ws.cell? ⟨w.heap.size, 3, none⟩ = some (.slice C lc.length cc) := fun ws hb => by
    have b := bx2.below hb (by omega)
    exact ⟨b.cell 0, b.cell 1, b.cell 2, b.cell 3⟩
  have CA0 : ∀ ws, Below (w.heap.size + 2) w2 ws → Calls Tryd.prog 27 #[.slice A la.length ca] ws (NewP la ws) := fun ws hb => il.clone_any A ca la ws (hA.below (up hb2 hb (by omega))) (by omega)
  have CB0 : ∀ ws, Below (w.heap.size + 2) w2 ws → Calls Tryd.prog 27 #[.slice B lb.length cb] ws (NewP lb ws) := fun ws hb => il.clone_any B cb lb ws (hB.below (up hb2 hb (by omega))) (by omega)
  have CC0 : ∀ ws, Below (w.heap.size + 2) w2 ws → Calls Tryd.prog 27 #[.slice C lc.length cc] ws (NewP lc ws) := fun ws hb => il.clone_any C cc lc ws (hC.below (up hb2 hb (by omega))) (by omega)
  have KR0 : ∀ ws, Below (w.heap.size + 2) w2 ws → Blk ws (w.heap.size + 1) 24 #[.int .i64 0, .slice none 0 0, .slice none 0 0, .slice none 0 0] := fun ws hb => by_.below hb (by omega)
  have KS := Lib.hid KS0
  have KR := Lib.hid KR0
  have CA := Lib.hid CA0
  have CB := Lib.hid CB0
  have CC := Lib.hid CC0
  have HB2 := Lib.hid hb2
  have HS2 := Lib.hid hs2
  have LI := Lib.hid (fun b ws => ac.lists_any b ws)
  have PE := Lib.hid (fun ws => ac.person_any p true (by simp; omega) ws)
  have LE := Lib.hid (And.intro ha (And.intro hb hc))
  have SO := Lib.hid hs
  have PO := Lib.hid (And.intro h1 (And.intro h2 hpo))
  have kq : (p == o) = false := by simpa using hpo
  clear KS0 KR0 CA0 CB0 CC0 bx bx2 by_ hb2 hs2 hA hB hC ha hb hc hs h1 h2 hpo
  go_enter Tryd.func19, Tryd.ntmps19
  go_wp2_with (rw [hw2])
  refine (LI.out _ _).mono ?_
  rintro e w3 ⟨rfl, hb3⟩
  have B3 : Below (w.heap.size + 2) w2 w3 := by have := HS2.out; rw [← this]; exact hb3
  have S3 := KS.out _ B3
  obtain ⟨b0, b1, b2, b3⟩ := S3
  have st0 := Lib.hid (show St (w.heap.size + 2) w2 w3.drew [] from ⟨B3.drew, by have := HS2.out; have := B3.size; show _ ≤ w3.heap.size; omega, Tri.nil _ _⟩)
  clear hb3 B3
  go_wp2_with fail
  refine (PE.out _).mono ?_
  rintro e w4 ⟨rfl, rfl⟩
  go_upto_region 5 with fail
  go_cut [10] from 34 to 45 (fun s10 wx => ∃ (A0 : Option Addr) (c0 : Nat) (A1 : Option Addr) (c1 : Nat) (A2 : Option Addr) (c2 : Nat) (cB : Nat), s10 = .pointer (some ⟨cB, 0, none⟩) ∧ Fi (w.heap.size + 2) w2 wx cB o (.slice A0 la.length c0) (.slice A1 lb.length c1) (.slice A2 lc.length c2) la lb lc)
  case first =>
    refine wp_region_held_drew (S := (fun ws => ws.cell? ⟨w.heap.size, 0, none⟩ = some (.int .i64 o) ∧ ws.cell? ⟨w.heap.size, 1, none⟩ = some (.slice A la.length ca) ∧ ws.cell? ⟨w.heap.size, 2, none⟩ = some (.slice B lb.length cb) ∧ ws.cell? ⟨w.heap.size, 3, none⟩ = some (.slice C lc.length cc))) (by kernel_rfl) (KS.out _ st0.out.below) (fun hHeld => ?_)
    clear b0 b1 b2 b3
    generalize w4.drew = w5 at *
    refine wpAnyH_take (i := 0) (v := ?_) rfl (by kernel_rfl) (by kernel_rfl) (by kernel_rfl) (fun _ _ _ h => h) (Or.inl ⟨by rfl, ?_⟩) (by assumption) ?_
    rotate_left
    · (intro w hSw; (try dsimp only at hSw); first | (go_simp; done) | (go_simp; with_reducible rfl))
    simp only [Act.put, List.getElem_toArray, List.getElem_cons_zero, List.getElem_cons_succ, List.setIfInBounds_toArray, List.set_cons_zero, List.set_cons_succ]
    refine wpAnyH_take (i := 1) (v := ?_) rfl (by kernel_rfl) (by kernel_rfl) (by kernel_rfl) (fun _ _ _ h => h) (Or.inl ⟨by rfl, ?_⟩) (by assumption) ?_
    rotate_left
    · (intro w hSw; (try dsimp only at hSw); first | (go_simp; done) | (go_simp; with_reducible rfl))
    simp only [Act.put, List.getElem_toArray, List.getElem_cons_zero, List.getElem_cons_succ, List.setIfInBounds_toArray, List.set_cons_zero, List.set_cons_succ]
    refine wpAnyH_take (i := 2) (v := ?_) rfl (by kernel_rfl) (by kernel_rfl) (by kernel_rfl) (fun _ _ _ h => h) (Or.inl ⟨by rfl, ?_⟩) (by assumption) ?_
    rotate_left
    · (intro w hSw; (try dsimp only at hSw); first | (go_simp; done) | (go_simp; with_reducible rfl))
    simp only [Act.put, List.getElem_toArray, List.getElem_cons_zero, List.getElem_cons_succ, List.setIfInBounds_toArray, List.set_cons_zero, List.set_cons_succ]
    refine wpAnyH_take (i := 3) (v := ?_) rfl (by kernel_rfl) (by kernel_rfl) (by kernel_rfl) (fun _ _ _ h => h) (Or.inl ⟨by rfl, ?_⟩) (by assumption) ?_
    rotate_left
    · (intro w hSw; (try dsimp only at hSw); first | (go_simp; done) | (go_simp; with_reducible rfl))
    simp only [Act.put, List.getElem_toArray, List.getElem_cons_zero, List.getElem_cons_succ, List.setIfInBounds_toArray, List.set_cons_zero, List.set_cons_succ]
    refine wpAnyH_take (i := 5) (v := ?_) rfl (by kernel_rfl) (by kernel_rfl) (by kernel_rfl) (fun _ _ _ h => h) (Or.inl ⟨by rfl, ?_⟩) (by assumption) ?_
    rotate_left
    · (intro w hSw; (try dsimp only at hSw); first | (go_simp; done) | (go_simp; with_reducible rfl))
    simp only [Act.put, List.getElem_toArray, List.getElem_cons_zero, List.getElem_cons_succ, List.setIfInBounds_toArray, List.set_cons_zero, List.set_cons_succ]
    refine wpAnyH_take (i := 6) (v := ?_) rfl (by kernel_rfl) (by kernel_rfl) (by kernel_rfl) (fun _ _ _ h => h) (Or.inl ⟨by rfl, ?_⟩) (by assumption) ?_
    rotate_left
    · (intro w hSw; (try dsimp only at hSw); first | (go_simp; done) | (go_simp; with_reducible rfl))
    simp only [Act.put, List.getElem_toArray, List.getElem_cons_zero, List.getElem_cons_succ, List.setIfInBounds_toArray, List.set_cons_zero, List.set_cons_succ]
    refine wpAnyH_take (i := 8) (v := ?_) rfl (by kernel_rfl) (by kernel_rfl) (by kernel_rfl) (fun _ _ _ h => h) (Or.inl ⟨by rfl, ?_⟩) (by assumption) ?_
    rotate_left
    · (intro w hSw; (try dsimp only at hSw); first | (go_simp; done) | (go_simp; with_reducible rfl))
    simp only [Act.put, List.getElem_toArray, List.getElem_cons_zero, List.getElem_cons_succ, List.setIfInBounds_toArray, List.set_cons_zero, List.set_cons_succ]
    refine wpAnyH_take (i := 9) (v := ?_) rfl (by kernel_rfl) (by kernel_rfl) (by kernel_rfl) (fun _ _ _ h => h) (Or.inl ⟨by rfl, ?_⟩) (by assumption) ?_
    rotate_left
    · (intro w hSw; (try dsimp only at hSw); first | (go_simp; done) | (go_simp; with_reducible rfl))
    simp only [Act.put, List.getElem_toArray, List.getElem_cons_zero, List.getElem_cons_succ, List.setIfInBounds_toArray, List.set_cons_zero, List.set_cons_succ]
    refine wpAnyH_ready (rs := [4, 12]) (by kernel_rfl) (by simp) ?_
    refine AllReadyH.cons rfl (fun K hK => ?_) (AllReadyH.cons rfl (fun K hK => ?_) AllReadyH.nil)
    · go_simp
      go_wp2_with (go_at_call 27; refine (CA.out _ st0.out.below).mono ?_; rintro e wc1 ⟨v1, rfl, own1, hb1⟩)
      obtain ⟨A1, c1, rfl, -⟩ := own1.open_
      have st1 := Lib.hid (st0.out.clone own1 hb1)
      clear own1 hb1
      refine hK.out _ _ (KS.out _ st1.out.below) (fun hH1 => ?_)
      clear hK K hHeld
      refine wpAnyH_ready (rs := [7, 12]) (by kernel_rfl) (by simp) ?_
      refine AllReadyH.cons rfl (fun K hK => ?_) (AllReadyH.cons rfl (fun K hK => ?_) AllReadyH.nil)
      · go_simp
        go_wp2_with (go_at_call 27; refine (CB.out _ st1.out.below).mono ?_; rintro e wc2 ⟨v2, rfl, own2, hb2⟩)
        obtain ⟨A2, c2, rfl, -⟩ := own2.open_
        have st2 := Lib.hid (st1.out.clone own2 hb2)
        clear own2 hb2
        refine hK.out _ _ (KS.out _ st2.out.below) (fun hH2 => ?_)
        clear hK K hH1
        refine wpAnyH_ready (rs := [10, 12]) (by kernel_rfl) (by simp) ?_
        refine AllReadyH.cons rfl (fun K hK => ?_) (AllReadyH.cons rfl (fun K hK => ?_) AllReadyH.nil)
        · go_simp
          go_wp2_with (go_at_call 27; refine (CC.out _ st2.out.below).mono ?_; rintro e wc3 ⟨v3, rfl, own3, hb3⟩)
          obtain ⟨A3, c3, rfl, -⟩ := own3.open_
          have st3 := Lib.hid (st2.out.clone own3 hb3)
          clear own3 hb3
          refine hK.out _ _ (KS.out _ st3.out.below) (fun hH3 => ?_)
          clear hK K hH2
          refine wpAnyH_take (i := 11) (v := ?_) rfl (by kernel_rfl) (by kernel_rfl) (by kernel_rfl) (fun _ _ _ h => h) (Or.inl ⟨by rfl, ?_⟩) (by assumption) ?_
          rotate_left
          · (intro w hSw; (try dsimp only at hSw); first | (go_simp; done) | (go_simp; with_reducible rfl))
          simp only [Act.put, List.getElem_toArray, List.getElem_cons_zero, List.getElem_cons_succ, List.setIfInBounds_toArray, List.set_cons_zero, List.set_cons_succ]
          refine wpAnyH_ready (rs := [12]) (by kernel_rfl) (by simp) ?_
          refine AllReadyH.cons rfl (fun K hK => ?_) AllReadyH.nil
          go_simp
          have st5 := Lib.hid (st3.out.alloc (.cells #[.int .i64 0, .slice none 0 0, .slice none 0 0, .slice none 0 0] 24))
          have bo5 := Lib.hid (Bo.new st3.out)
          refine hK.out _ _ (KS.out _ st5.out.below) (fun hH5 => ?_)
          clear hK K hH3
          have fi := Lib.hid (St.fin (o := o) st3.out)
          refine wpAnyH_ready (rs := [13]) (by kernel_rfl) (by simp) ?_
          refine AllReadyH.cons rfl (fun K hK => ?_) AllReadyH.nil
          go_simp
          refine hK.out _ _ (KS.out _ fi.out.st.below) (fun hHz4 => ?_)
          clear hK K hH5
          refine wpAnyH_done (by kernel_rfl) ?_ _
          clear hHz4
          go_wp2_with fail
          go_meet
          case rel => exact ⟨_, _, _, _, _, _, _, rfl, fi.out⟩
        · go_simp
          have st6 := Lib.hid (st2.out.alloc (.cells #[.int .i64 0, .slice none 0 0, .slice none 0 0, .slice none 0 0] 24))
          have bo6 := Lib.hid (Bo.new st2.out)
          refine hK.out _ _ (KS.out _ st6.out.below) (fun hH6 => ?_)
          clear hK K hH2
          refine wpAnyH_ready (rs := [10]) (by kernel_rfl) (by simp) ?_
          refine AllReadyH.cons rfl (fun K hK => ?_) AllReadyH.nil
          go_simp
          go_wp2_with (go_at_call 27; refine (CC.out _ st6.out.below).mono ?_; rintro e wc7 ⟨v7, rfl, own7, hb7⟩)
          obtain ⟨A7, c7, rfl, -⟩ := own7.open_
          have st7 := Lib.hid (st6.out.clone own7 hb7)
          have bo7 := Lib.hid (bo6.out.clone own7 hb7)
          clear own7 hb7
          refine hK.out _ _ (KS.out _ st7.out.below) (fun hH7 => ?_)
          clear hK K hH6
          refine wpAnyH_take (i := 11) (v := ?_) rfl (by kernel_rfl) (by kernel_rfl) (by kernel_rfl) (fun _ _ _ h => h) (Or.inl ⟨by rfl, ?_⟩) (by assumption) ?_
          rotate_left
          · (intro w hSw; (try dsimp only at hSw); first | (go_simp; done) | (go_simp; with_reducible rfl))
          simp only [Act.put, List.getElem_toArray, List.getElem_cons_zero, List.getElem_cons_succ, List.setIfInBounds_toArray, List.set_cons_zero, List.set_cons_succ]
          have fi := Lib.hid (Bo.fin (o := o) st7.out bo7.out)
          have z0 := bo7.out.blk.cell 0
          have z1 := bo7.out.blk.cell 1
          have z2 := bo7.out.blk.cell 2
          have z3 := bo7.out.blk.cell 3
          have y0 := bo7.out.blk.free 0
          have y1 := bo7.out.blk.free 1
          have y2 := bo7.out.blk.free 2
          have y3 := bo7.out.blk.free 3
          refine wpAnyH_ready (rs := [13]) (by kernel_rfl) (by simp) ?_
          refine AllReadyH.cons rfl (fun K hK => ?_) AllReadyH.nil
          go_simp
          refine hK.out _ _ (KS.out _ fi.out.st.below) (fun hHz8 => ?_)
          clear hK K hH7
          refine wpAnyH_done (by kernel_rfl) ?_ _
          clear hHz8
          go_wp2_with fail
          go_meet
          case rel => exact ⟨_, _, _, _, _, _, _, rfl, fi.out⟩
      · go_simp
        have st9 := Lib.hid (st1.out.alloc (.cells #[.int .i64 0, .slice none 0 0, .slice none 0 0, .slice none 0 0] 24))
        have bo9 := Lib.hid (Bo.new st1.out)
        refine hK.out _ _ (KS.out _ st9.out.below) (fun hH9 => ?_)
        clear hK K hH1
        refine wpAnyH_ready (rs := [7]) (by kernel_rfl) (by simp) ?_
        refine AllReadyH.cons rfl (fun K hK => ?_) AllReadyH.nil
        go_simp
        go_wp2_with (go_at_call 27; refine (CB.out _ st9.out.below).mono ?_; rintro e wc10 ⟨v10, rfl, own10, hb10⟩)
        obtain ⟨A10, c10, rfl, -⟩ := own10.open_
        have st10 := Lib.hid (st9.out.clone own10 hb10)
        have bo10 := Lib.hid (bo9.out.clone own10 hb10)
        clear own10 hb10
        refine hK.out _ _ (KS.out _ st10.out.below) (fun hH10 => ?_)
        clear hK K hH9
        refine wpAnyH_ready (rs := [10]) (by kernel_rfl) (by simp) ?_
        refine AllReadyH.cons rfl (fun K hK => ?_) AllReadyH.nil
        go_simp
        go_wp2_with (go_at_call 27; refine (CC.out _ st10.out.below).mono ?_; rintro e wc11 ⟨v11, rfl, own11, hb11⟩)
        obtain ⟨A11, c11, rfl, -⟩ := own11.open_
        have st11 := Lib.hid (st10.out.clone own11 hb11)
        have bo11 := Lib.hid (bo10.out.clone own11 hb11)
        clear own11 hb11
        refine hK.out _ _ (KS.out _ st11.out.below) (fun hH11 => ?_)
        clear hK K hH10
        refine wpAnyH_take (i := 11) (v := ?_) rfl (by kernel_rfl) (by kernel_rfl) (by kernel_rfl) (fun _ _ _ h => h) (Or.inl ⟨by rfl, ?_⟩) (by assumption) ?_
        rotate_left
        · (intro w hSw; (try dsimp only at hSw); first | (go_simp; done) | (go_simp; with_reducible rfl))
        simp only [Act.put, List.getElem_toArray, List.getElem_cons_zero, List.getElem_cons_succ, List.setIfInBounds_toArray, List.set_cons_zero, List.set_cons_succ]
        have fi := Lib.hid (Bo.fin (o := o) st11.out bo11.out)
        have z0 := bo11.out.blk.cell 0
        have z1 := bo11.out.blk.cell 1
        have z2 := bo11.out.blk.cell 2
        have z3 := bo11.out.blk.cell 3
        have y0 := bo11.out.blk.free 0
        have y1 := bo11.out.blk.free 1
        have y2 := bo11.out.blk.free 2
        have y3 := bo11.out.blk.free 3
        refine wpAnyH_ready (rs := [13]) (by kernel_rfl) (by simp) ?_
        refine AllReadyH.cons rfl (fun K hK => ?_) AllReadyH.nil
        go_simp
        refine hK.out _ _ (KS.out _ fi.out.st.below) (fun hHz12 => ?_)
        clear hK K hH11
        refine wpAnyH_done (by kernel_rfl) ?_ _
        clear hHz12
        go_wp2_with fail
        go_meet
        case rel => exact ⟨_, _, _, _, _, _, _, rfl, fi.out⟩
    · go_simp
      have st13 := Lib.hid (st0.out.alloc (.cells #[.int .i64 0, .slice none 0 0, .slice none 0 0, .slice none 0 0] 24))
      have bo13 := Lib.hid (Bo.new st0.out)
      refine hK.out _ _ (KS.out _ st13.out.below) (fun hH13 => ?_)
      clear hK K hHeld
      refine wpAnyH_ready (rs := [4]) (by kernel_rfl) (by simp) ?_
      refine AllReadyH.cons rfl (fun K hK => ?_) AllReadyH.nil
      go_simp
      go_wp2_with (go_at_call 27; refine (CA.out _ st13.out.below).mono ?_; rintro e wc14 ⟨v14, rfl, own14, hb14⟩)
      obtain ⟨A14, c14, rfl, -⟩ := own14.open_
      have st14 := Lib.hid (st13.out.clone own14 hb14)
      have bo14 := Lib.hid (bo13.out.clone own14 hb14)
      clear own14 hb14
      refine hK.out _ _ (KS.out _ st14.out.below) (fun hH14 => ?_)
      clear hK K hH13
      refine wpAnyH_ready (rs := [7]) (by kernel_rfl) (by simp) ?_
      refine AllReadyH.cons rfl (fun K hK => ?_) AllReadyH.nil
      go_simp
      go_wp2_with (go_at_call 27; refine (CB.out _ st14.out.below).mono ?_; rintro e wc15 ⟨v15, rfl, own15, hb15⟩)
      obtain ⟨A15, c15, rfl, -⟩ := own15.open_
      have st15 := Lib.hid (st14.out.clone own15 hb15)
      have bo15 := Lib.hid (bo14.out.clone own15 hb15)
      clear own15 hb15
      refine hK.out _ _ (KS.out _ st15.out.below) (fun hH15 => ?_)
      clear hK K hH14
      refine wpAnyH_ready (rs := [10]) (by kernel_rfl) (by simp) ?_
      refine AllReadyH.cons rfl (fun K hK => ?_) AllReadyH.nil
      go_simp
      go_wp2_with (go_at_call 27; refine (CC.out _ st15.out.below).mono ?_; rintro e wc16 ⟨v16, rfl, own16, hb16⟩)
      obtain ⟨A16, c16, rfl, -⟩ := own16.open_
      have st16 := Lib.hid (st15.out.clone own16 hb16)
      have bo16 := Lib.hid (bo15.out.clone own16 hb16)
      clear own16 hb16
      refine hK.out _ _ (KS.out _ st16.out.below) (fun hH16 => ?_)
      clear hK K hH15
      refine wpAnyH_take (i := 11) (v := ?_) rfl (by kernel_rfl) (by kernel_rfl) (by kernel_rfl) (fun _ _ _ h => h) (Or.inl ⟨by rfl, ?_⟩) (by assumption) ?_
      rotate_left
      · (intro w hSw; (try dsimp only at hSw); first | (go_simp; done) | (go_simp; with_reducible rfl))
      simp only [Act.put, List.getElem_toArray, List.getElem_cons_zero, List.getElem_cons_succ, List.setIfInBounds_toArray, List.set_cons_zero, List.set_cons_succ]
      have fi := Lib.hid (Bo.fin (o := o) st16.out bo16.out)
      have z0 := bo16.out.blk.cell 0
      have z1 := bo16.out.blk.cell 1
      have z2 := bo16.out.blk.cell 2
      have z3 := bo16.out.blk.cell 3
      have y0 := bo16.out.blk.free 0
      have y1 := bo16.out.blk.free 1
      have y2 := bo16.out.blk.free 2
      have y3 := bo16.out.blk.free 3
      refine wpAnyH_ready (rs := [13]) (by kernel_rfl) (by simp) ?_
      refine AllReadyH.cons rfl (fun K hK => ?_) AllReadyH.nil
      go_simp
      refine hK.out _ _ (KS.out _ fi.out.st.below) (fun hHz17 => ?_)
      clear hK K hH16
      refine wpAnyH_done (by kernel_rfl) ?_ _
      clear hHz17
      go_wp2_with fail
      go_meet
      case rel => exact ⟨_, _, _, _, _, _, _, rfl, fi.out⟩
  case rest =>
    obtain ⟨A0, c0, A1, c1, A2, c2, cB, rfl, fi⟩ := hcut
    have FI := Lib.hid fi
    clear b0 b1 b2 b3 fi st0 CA CB CC
    go_wp2_with fail
    refine (LI.out _ _).mono ?_
    rintro e w6 ⟨rfl, hb6⟩
    have F6 := Lib.hid (FI.out.keep hb6)
    have c1k := F6.out.blk.cell 2
    have ix := ac.idx3_1 (.pointer (some ⟨cB, 1, none⟩)) (.pointer (some ⟨cB, 2, none⟩)) (.pointer (some ⟨cB, 3, none⟩))
    have OK := Lib.hid (F6.out.st.tri.own (.slice A1 lb.length c1, lb) (by simp))
    have LN := Lib.hid (lay_nums (show Lay il.E1 w6 A1 lb from by obtain ⟨_, _, e, l, _⟩ := OK.out.open_; cases e; exact l))
    have RB := Lib.hid (KR.out _ F6.out.st.below)
    have S6 := Lib.hid (KS.out _ F6.out.st.below)
    obtain ⟨od, hod⟩ := ac.idx_ex lb p
    have IX := Lib.hid (ac.index_any A1 c1 lb p od w6 LN.out hod (by have := LE.out; omega))
    have OD := Lib.hid hod
    clear hb6 FI hod
    cases od with
    | some i =>
      obtain ⟨hi, hip⟩ := idx_mem OD.out
      have hge : decide ((i : Int) ≥ 0) = true := decide_eq_true (by omega)
      have hlt : decide ((i : Int) < 0) = false := decide_eq_false (by omega)
      have hwr : IntKind.i64.wrap ((i : Int) + 1) = (i : Int) + 1 := IntWalk.i64_in _ (by have := LE.out; omega)
      have ON := Lib.hid (ac.on_some OD.out)
      have HI := Lib.hid (Exists.intro hi hip : ∃ hk : i < lb.length, lb[i] = p)
      clear hi hip
      cases on with
      | true =>
        go_wp2_with fail
        refine IX.out.mono ?_
        rintro e w7 ⟨he, rfl⟩
        obtain rfl : e = .returned (.int .i64 (i : Nat)) := he
        have e0 := RB.out.cell 0
        have e1 := RB.out.cell 1
        have e2 := RB.out.cell 2
        have e3 := RB.out.cell 3
        have r0 := RB.out.free 0
        have r1 := RB.out.free 1
        have r2 := RB.out.free 2
        have r3 := RB.out.free 3
        obtain ⟨fb, fl⟩ := ac.zero_fin (B := w.heap.size) RB.out (by omega)
        have g0 := fb.cell 0
        have g1 := fb.cell 1
        have g2 := fb.cell 2
        have g3 := fb.cell 3
        have FL := Lib.hid ((up HB2.out F6.out.st.below (by omega)).trans fl)
        clear fb fl
        go_wp2_with fail
        refine bodyPost_ret (v := .tuple #[.agg #[.int .i64 0, .slice none 0 0, .slice none 0 0, .slice none 0 0], .int .i64 13]) (by simp [results, Tryd.results19, go_sem, g0, g1, g2, g3]) rfl ?_
        exact SetP.bad (by simp [wrongOf, PO.out.2.2, ON.out]) (by decide) rfl FL.out
      | false =>
        have EQ := Lib.hid (show nw false p lb = lb.eraseIdx i from rwo_erase SO.out HI.out.1 HI.out.2)
        have hpos : 0 < lb.length := by have := HI.out.1; omega
        obtain ⟨g, cg, cs, hv, -⟩ := OK.out.full hpos
        injection hv with hv1 hv2 hv3
        subst hv1 hv3
        clear hv2 hpos
        have DE := Lib.hid (il.delete_any (w.heap.size + 2) g c1 i lb w6 OK.out HI.out.1)
        go_wp2_with fail
        refine IX.out.mono ?_
        rintro e w7 ⟨he, rfl⟩
        obtain rfl : e = .returned (.int .i64 (i : Nat)) := he
        go_wp2_with fail
        refine DE.out.mono ?_
        rintro e w9 ⟨rfl, own9, on9⟩
        obtain ⟨tb, tk, tt0, tf0⟩ := F6.out.turn (k := 1) (s := (.slice (some ⟨g, 0, none⟩) lb.length c1, lb)) rfl (on9.mono (fun i _ e => by subst e; rfl)) own9 (.inl rfl)
        have tt : Tri (w.heap.size + 2) w9 [(.slice A0 la.length c0, la), (.slice (some ⟨g, 0, none⟩) (lb.eraseIdx i).length c1, (lb.eraseIdx i)), (.slice A2 lc.length c2, lc)] := tt0
        have tf : ∀ x ∈ ([(.slice A0 la.length c0, la), (.slice (some ⟨g, 0, none⟩) (lb.eraseIdx i).length c1, (lb.eraseIdx i)), (.slice A2 lc.length c2, lc)] : List Row), x.1.ownBlock ≠ some cB := tf0
        obtain ⟨fb, ot⟩ := put_fin (H := w.heap.size) (k := 2) (o := o) (u := .slice (some ⟨g, 0, none⟩) (lb.eraseIdx i).length c1) HB2.out tb F6.out.ge (KR.out _ tb) tt tf
        have OT := Lib.hid ot
        have RB9 := KR.out _ tb
        have d0 := tk.cell 0
        have d1 := tk.cell 1
        have d2 := tk.cell 2
        have d3 := tk.cell 3
        have f1 := tk.free 2
        have g0 := fb.cell 0
        have g1 := fb.cell 1
        have g2 := fb.cell 2
        have g3 := fb.cell 3
        have e0 := RB9.cell 0
        have e1 := RB9.cell 1
        have e2 := RB9.cell 2
        have e3 := RB9.cell 3
        have r0 := RB9.free 0
        have r1 := RB9.free 1
        have r2 := RB9.free 2
        have r3 := RB9.free 3
        have ne1 : cB ≠ w.heap.size + 1 := by have := F6.out.ge; omega
        have ne2 : w.heap.size + 1 ≠ cB := by omega
        clear tb tk tt tf tt0 tf0 ot fb RB9 own9 on9
        go_wp2_with fail
        refine bodyPost_ret (v := .tuple #[.agg #[.int .i64 o, .slice A0 la.length c0, .slice (some ⟨g, 0, none⟩) (lb.eraseIdx i).length c1, .slice A2 lc.length c2], .int .i64 0]) (by simp [results, Tryd.results19, go_sem, g0, g1, g2, g3]) rfl ?_
        exact SetP.ok (by simp [wrongOf, PO.out.2.2, ON.out]) rfl EQ.out rfl rfl OT.out
    | none =>
      have hp := idx_none OD.out
      have ON := Lib.hid (ac.on_none OD.out)
      have NI := Lib.hid hp
      clear hp
      cases on with
      | false =>
        go_wp2_with fail
        refine IX.out.mono ?_
        rintro e w7 ⟨he, rfl⟩
        obtain rfl : e = .returned (.int .i64 (-1)) := he
        have e0 := RB.out.cell 0
        have e1 := RB.out.cell 1
        have e2 := RB.out.cell 2
        have e3 := RB.out.cell 3
        have r0 := RB.out.free 0
        have r1 := RB.out.free 1
        have r2 := RB.out.free 2
        have r3 := RB.out.free 3
        obtain ⟨fb, fl⟩ := ac.zero_fin (B := w.heap.size) RB.out (by omega)
        have g0 := fb.cell 0
        have g1 := fb.cell 1
        have g2 := fb.cell 2
        have g3 := fb.cell 3
        have FL := Lib.hid ((up HB2.out F6.out.st.below (by omega)).trans fl)
        clear fb fl
        go_wp2_with fail
        refine bodyPost_ret (v := .tuple #[.agg #[.int .i64 0, .slice none 0 0, .slice none 0 0, .slice none 0 0], .int .i64 14]) (by simp [results, Tryd.results19, go_sem, g0, g1, g2, g3]) rfl ?_
        exact SetP.bad (by simp [wrongOf, PO.out.2.2, ON.out]) (by decide) rfl FL.out
      | true =>
        by_cases q : 16 ≤ lb.length
        · have kl : decide ((lb.length : Int) ≥ 16) = true := decide_eq_true (by omega)
          have Q := Lib.hid q
          clear q
          go_wp2_with fail
          refine IX.out.mono ?_
          rintro e w7 ⟨he, rfl⟩
          obtain rfl : e = .returned (.int .i64 (-1)) := he
          have e0 := RB.out.cell 0
          have e1 := RB.out.cell 1
          have e2 := RB.out.cell 2
          have e3 := RB.out.cell 3
          have r0 := RB.out.free 0
          have r1 := RB.out.free 1
          have r2 := RB.out.free 2
          have r3 := RB.out.free 3
          obtain ⟨fb, fl⟩ := ac.zero_fin (B := w.heap.size) RB.out (by omega)
          have g0 := fb.cell 0
          have g1 := fb.cell 1
          have g2 := fb.cell 2
          have g3 := fb.cell 3
          have FL := Lib.hid ((up HB2.out F6.out.st.below (by omega)).trans fl)
          clear fb fl
          go_wp2_with fail
          refine bodyPost_ret (v := .tuple #[.agg #[.int .i64 0, .slice none 0 0, .slice none 0 0, .slice none 0 0], .int .i64 12]) (by simp [results, Tryd.results19, go_sem, g0, g1, g2, g3]) rfl ?_
          exact SetP.bad (by simp [wrongOf, PO.out.2.2, ON.out, Q.out]) (by decide) rfl FL.out
        · have kl : decide ((lb.length : Int) ≥ 16) = false := decide_eq_false (by omega)
          have Q := Lib.hid q
          clear q
          have EQ := Lib.hid (show nw true p lb = il.ins lb (il.pl lb p) p from rwi_ins SO.out NI.out)
          have SE := Lib.hid (il.search_both (w.heap.size + 2) (.slice A1 lb.length c1) lb p w6 OK.out SO.out (by have := LE.out; omega))
          go_wp2_with fail
          refine IX.out.mono ?_
          rintro e w7 ⟨he, rfl⟩
          obtain rfl : e = .returned (.int .i64 (-1)) := he
          go_wp2_with fail
          refine SE.out.mono ?_
          rintro e w8 ⟨b8, rfl, q8, hw8⟩
          have F8 := Lib.hid (F6.out.keep (show Below w7.heap.size w7 w8 from hw8 ▸ base.below_drewN (Below.refl _ _) q8))
          clear hw8 q8
          have c8k := F8.out.blk.cell 2
          have OK8 := Lib.hid (F8.out.st.tri.own (.slice A1 lb.length c1, lb) (by simp))
          have BN := Lib.hid (show Blk (w8.alloc (.cells #[.int .i64 p] 3)) w8.heap.size 3 #[.int .i64 p] from Blk.new _ _ _)
          have F9 := Lib.hid (F8.out.keep (made w8 (.cells #[.int .i64 p] 3)))
          have PL := Lib.hid (il.pl_le lb p)
          have IN := Lib.hid (il.insert_any (w.heap.size + 2) w8.heap.size (il.pl lb p) (.slice A1 lb.length c1) lb p (w8.alloc (.cells #[.int .i64 p] 3)) (OK8.out.below (made _ _)) BN.out (fun e => by have := (OK8.out.lt' _ e).2.1; omega) PL.out (by have := LE.out; omega) (by have := F9.out.st.ge; omega))
          go_wp2_with fail
          refine IN.out.mono ?_
          rintro e w9 ⟨v9, rfl, own9, on9⟩
          obtain ⟨A9, c9, rfl, -⟩ := own9.open_
          obtain ⟨tb, tk, tt0, tf0⟩ := F9.out.turn (k := 1) (s := (.slice A1 lb.length c1, lb)) rfl on9.only own9 on9.at_
          clear IN BN F8 OK8 SE IX PL
          have tt : Tri (w.heap.size + 2) w9 [(.slice A0 la.length c0, la), (.slice A9 (il.ins lb (il.pl lb p) p).length c9, (il.ins lb (il.pl lb p) p)), (.slice A2 lc.length c2, lc)] := tt0
          have tf : ∀ x ∈ ([(.slice A0 la.length c0, la), (.slice A9 (il.ins lb (il.pl lb p) p).length c9, (il.ins lb (il.pl lb p) p)), (.slice A2 lc.length c2, lc)] : List Row), x.1.ownBlock ≠ some cB := tf0
          obtain ⟨fb, ot⟩ := put_fin (H := w.heap.size) (k := 2) (o := o) (u := .slice A9 (il.ins lb (il.pl lb p) p).length c9) HB2.out tb F9.out.ge (KR.out _ tb) tt tf
          have OT := Lib.hid ot
          have RB9 := KR.out _ tb
          have d0 := tk.cell 0
          have d1 := tk.cell 1
          have d2 := tk.cell 2
          have d3 := tk.cell 3
          have f1 := tk.free 2
          have g0 := fb.cell 0
          have g1 := fb.cell 1
          have g2 := fb.cell 2
          have g3 := fb.cell 3
          have e0 := RB9.cell 0
          have e1 := RB9.cell 1
          have e2 := RB9.cell 2
          have e3 := RB9.cell 3
          have r0 := RB9.free 0
          have r1 := RB9.free 1
          have r2 := RB9.free 2
          have r3 := RB9.free 3
          have ne1 : cB ≠ w.heap.size + 1 := by have := F9.out.ge; omega
          have ne2 : w.heap.size + 1 ≠ cB := by omega
          clear tb tk tt tf tt0 tf0 ot fb RB9 own9 on9
          go_wp2_with fail
          refine bodyPost_ret (v := .tuple #[.agg #[.int .i64 o, .slice A0 la.length c0, .slice A9 (il.ins lb (il.pl lb p) p).length c9, .slice A2 lc.length c2], .int .i64 0]) (by simp [results, Tryd.results19, go_sem, g0, g1, g2, g3]) rfl ?_
          exact SetP.ok (by simp [wrongOf, PO.out.2.2, ON.out, Q.out]) rfl EQ.out rfl rfl OT.out
end Go.Proofs.YtemkhblogmdleaaDoor.acw
