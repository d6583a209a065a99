/-
  OrderParses (P27.1, P27.3), for the tied reading: for every input the law answers true, whatever the memory, if the table of fields stands as the program lays it.
  Conditions: none beyond the card's own.
-/
import Derived.Test.YtndhammngejdiaaDoorOrO
import Derived.Test.YtndhammngejdiaaDoorOrM

namespace Go.Proofs.YtndhammngejdiaaDoor.orderParses
open Go.ChangeShapes Go.WideShapes Go.ChangeAt Go.RowKit
open base (ret_bool ret_int made up Blk Only Nums)
open bytes (str Small small_nil small_app Lay Own conv_any)
open od vnum
open vi (bs)
set_option linter.unusedVariables false
set_option linter.unusedSimpArgs false
theorem tableOf {W : World} (h : laidMetH Tryd.prog Rows.orderParsesRow.laid W) : Tab W := od.tableOf h
theorem fb_small (x : Cm) (f : Nat) : Small (fb x f) := by
  unfold fb
  split
  · exact small_app (enc_small _) (vi.bs_small _)
  · exact enc_small _
theorem bytesM_small (x : Cm) : Small (bytesM x) := by
  unfold bytesM
  refine small_app (enc_small _) ?_
  split
  · refine small_app (enc_small _) (fun c hc => ?_)
    obtain ⟨f, -, h⟩ := List.mem_flatMap.1 hc
    exact fb_small x f c h
  · exact small_app (enc_small _) (small_app (enc_small _) (vi.bs_small _))
theorem bytesM_len {x : Cm} (hx : x.Ok) (h : rightM x = true) : (bytesM x).length ≤ 512 := by
  have ht := t_len h
  have h1 := enc10 hx.s
  have h2 := enc10 hx.k
  unfold bytesM
  rw [List.length_append]
  split
  · rw [List.length_append]
    have h3 := flat_len hx ht (fs x.k)
    have h4 := fs_len x.k
    omega
  · rename_i hl
    have h5 : x.l.size ≤ 16 := by
      rcases (right_parts h).2.2.2 with q | q
      · exact absurd q.1 hl
      · exact (nm.okN_len q.2.1).2
    have h6 := enc_len (n := 0) (by omega) (by omega)
    have h7 := enc_len (n := (x.l.size : Int)) (by omega) (by omega)
    rw [List.length_append, List.length_append, vi.bs_len]
    omega
set_option maxRecDepth 100000 in
set_option maxHeartbeats 1000000 in
theorem walk_long (w : World) (hT : Tab w) (B : Option Addr) (cb : Nat) (lb : List Nat) (h : 2000 < lb.length) : Calls Tryd.prog 4 #[.slice B lb.length cb] w (BoolP true w) := by
  have k1 : decide ((lb.length : Int) > 2000) = true := decide_eq_true (by omega)
  have AW := Lib.hid (awake_any w hT)
  unfold BoolP at AW
  clear hT h
  go_enter Tryd.func4, Tryd.ntmps4
  go_wp2_with fail
  refine AW.out.mono ?_
  rintro e1 w2 ⟨rfl, hb⟩
  have B2 := Lib.hid hb
  clear hb
  go_wp2_with fail
  go_ret
  exact ⟨rfl, B2.out⟩
theorem zero_ok : zero.Ok := ⟨wf0, wf0, wf0, wf0, wf0, wf0, wf0, sz0, sz0⟩
theorem eqb_self (x : Cm) : eqb x x = true := eqb_iff.2 rfl
set_option maxRecDepth 100000 in
set_option maxHeartbeats 4000000 in
theorem walk_none (w : World) (hT : Tab w) (B : Option Addr) (cb : Nat) (lb : List Nat) (hL : Lay w B lb) (hs : Small lb) (h2 : lb.length ≤ 2000) (hp : parse512 lb = none) : Calls Tryd.prog 4 #[.slice B lb.length cb] w (BoolP true w) := by
  have k1 : decide ((lb.length : Int) > 2000) = false := decide_eq_false (by omega)
  have PA := Lib.hid (parse_any B cb lb w hT hL hs)
  have TW := Lib.hid hT
  have HP := Lib.hid hp
  have hg := guard_cmd
  have he := fun w => run_eql zero_ok zero_ok w
  rw [eqb_self] at he
  dsimp only [zero] at he
  clear hT hL hs hp
  go_enter Tryd.func4, Tryd.ntmps4
  go_wp2_with fail
  refine PA.out.mono ?_
  rintro e1 w3 ⟨hb3, h3⟩
  obtain rfl : e1 = .returned (.tuple #[.agg #[.int .i64 0, .int .i64 0, .int .i64 0, .int .i64 0, .int .i64 0, .int .i64 0, .int .i64 0, .string ⟨#[]⟩, .string ⟨#[]⟩], .int .i64 30]) := by
    rcases h3 with ⟨_, h⟩ | ⟨x, h, _⟩
    · exact h
    · rw [HP.out] at h; cases h
  have B3 := Lib.hid hb3
  have B4 := Lib.hid (show Below w.heap.size w (w3.alloc (.cells #[.int .i64 0, .int .i64 0, .int .i64 0, .int .i64 0, .int .i64 0, .int .i64 0, .int .i64 0, .string ⟨#[]⟩, .string ⟨#[]⟩] 25)) from up hb3 (made w3 _) hb3.size)
  have AW := Lib.hid (awake_any _ (TW.out.keep B4.out))
  unfold BoolP at AW
  clear h3 hb3 PA
  go_wp2_with fail
  refine AW.out.mono ?_
  rintro e1 w5 ⟨rfl, hb⟩
  have B5 := Lib.hid (up B4.out hb B4.out.size)
  clear hb
  go_wp2_with fail
  go_ret
  exact ⟨rfl, B5.out⟩
set_option maxRecDepth 100000 in
set_option maxHeartbeats 8000000 in
theorem walk_some (w : World) (hT : Tab w) (B : Option Addr) (cb : Nat) (lb : List Nat) (hL : Lay w B lb) (hs : Small lb) (h2 : lb.length ≤ 2000) (x : Cm) (hp : parse512 lb = some x) : Calls Tryd.prog 4 #[.slice B lb.length cb] w (BoolP true w) := by
  have k1 : decide ((lb.length : Int) > 2000) = false := decide_eq_false (by omega)
  obtain ⟨hx, hl5, hr, hbm⟩ := parse_ok hs hp
  have k2 : decide ((lb.length : Int) ≤ 512) = true := decide_eq_true (by omega)
  have k2b : decide (lb.length ≤ 512) = true := decide_eq_true hl5
  have PA := Lib.hid (parse_any B cb lb w hT hL hs)
  have TW := Lib.hid hT
  have HP := Lib.hid hp
  have LB := Lib.hid hL
  have RI := Lib.hid (fun ws => rright_any x ws hx)
  have RB := Lib.hid (fun ws => rb_any x ws hx hr)
  rw [hbm] at RB
  rw [hr] at RI
  have SB := Lib.hid hs
  unfold BoolP at RI
  unfold StrP at RB
  clear hT hL hs hp hx hr hbm hl5
  go_enter Tryd.func4, Tryd.ntmps4
  go_wp2_with fail
  refine PA.out.mono ?_
  rintro e1 w3 ⟨hb3, h3⟩
  obtain rfl : e1 = .returned (.tuple #[.agg #[.int .i64 x.s, .int .i64 x.w, .int .i64 x.k, .int .i64 x.a, .int .i64 x.b, .int .i64 x.c, .int .i64 x.d, .string x.t, .string x.l], .int .i64 0]) := by
    rcases h3 with ⟨h, _⟩ | ⟨x', h, h4⟩
    · rw [HP.out] at h; cases h
    · rw [HP.out] at h; injection h with h; subst h; exact h4
  have B4 := Lib.hid (show Below w.heap.size w (w3.alloc (.cells #[.int .i64 x.s, .int .i64 x.w, .int .i64 x.k, .int .i64 x.a, .int .i64 x.b, .int .i64 x.c, .int .i64 x.d, .string x.t, .string x.l] 25)) from up hb3 (made w3 _) hb3.size)
  have BX := Lib.hid (Blk.new w3 25 #[.int .i64 x.s, .int .i64 x.w, .int .i64 x.k, .int .i64 x.a, .int .i64 x.b, .int .i64 x.c, .int .i64 x.d, .string x.t, .string x.l])
  clear h3 hb3 PA
  go_upto_region 6 with fail
  have D4 := Lib.hid (show Below (w3.alloc (.cells #[.int .i64 x.s, .int .i64 x.w, .int .i64 x.k, .int .i64 x.a, .int .i64 x.b, .int .i64 x.c, .int .i64 x.d, .string x.t, .string x.l] 25)).heap.size (w3.alloc (.cells #[.int .i64 x.s, .int .i64 x.w, .int .i64 x.k, .int .i64 x.a, .int .i64 x.b, .int .i64 x.c, .int .i64 x.d, .string x.t, .string x.l] 25)) (w3.alloc (.cells #[.int .i64 x.s, .int .i64 x.w, .int .i64 x.k, .int .i64 x.a, .int .i64 x.b, .int .i64 x.c, .int .i64 x.d, .string x.t, .string x.l] 25)).drew from (Below.refl _ _).drew)
  obtain ⟨sb, hsb⟩ : ∃ s, s = str lb := ⟨_, rfl⟩
  rw [← hsb] at RB
  have SS := Lib.hid (fun ws (h : Below (w3.alloc (.cells #[.int .i64 x.s, .int .i64 x.w, .int .i64 x.k, .int .i64 x.a, .int .i64 x.b, .int .i64 x.c, .int .i64 x.d, .string x.t, .string x.l] 25)).heap.size (w3.alloc (.cells #[.int .i64 x.s, .int .i64 x.w, .int .i64 x.k, .int .i64 x.a, .int .i64 x.b, .int .i64 x.c, .int .i64 x.d, .string x.t, .string x.l] 25)) ws) => (show (convert 32 9 (.slice B lb.length cb)).run Tryd.prog ws = .ok (.string sb) ws ∧ ws.cell? ⟨w3.heap.size, 0, none⟩ = some (.int .i64 x.s) ∧ ws.cell? ⟨w3.heap.size, 1, none⟩ = some (.int .i64 x.w) ∧ ws.cell? ⟨w3.heap.size, 2, none⟩ = some (.int .i64 x.k) ∧ ws.cell? ⟨w3.heap.size, 3, none⟩ = some (.int .i64 x.a) ∧ ws.cell? ⟨w3.heap.size, 4, none⟩ = some (.int .i64 x.b) ∧ ws.cell? ⟨w3.heap.size, 5, none⟩ = some (.int .i64 x.c) ∧ ws.cell? ⟨w3.heap.size, 6, none⟩ = some (.int .i64 x.d) ∧ ws.cell? ⟨w3.heap.size, 7, none⟩ = some (.string x.t) ∧ ws.cell? ⟨w3.heap.size, 8, none⟩ = some (.string x.l) from ⟨by rw [hsb]; exact conv_any ws B cb lb (LB.out.below (up B4.out h B4.out.size)) SB.out, (BX.out.below h BX.out.lt).cell 0, (BX.out.below h BX.out.lt).cell 1, (BX.out.below h BX.out.lt).cell 2, (BX.out.below h BX.out.lt).cell 3, (BX.out.below h BX.out.lt).cell 4, (BX.out.below h BX.out.lt).cell 5, (BX.out.below h BX.out.lt).cell 6, (BX.out.below h BX.out.lt).cell 7, (BX.out.below h BX.out.lt).cell 8⟩))
  clear hsb
  generalize hw4 : w3.alloc (.cells #[.int .i64 x.s, .int .i64 x.w, .int .i64 x.k, .int .i64 x.a, .int .i64 x.b, .int .i64 x.c, .int .i64 x.d, .string x.t, .string x.l] 25) = w4 at *
  refine wp_region_held_drew (S := fun ws => (convert 32 9 (.slice B lb.length cb)).run Tryd.prog ws = .ok (.string sb) ws ∧ ws.cell? ⟨w3.heap.size, 0, none⟩ = some (.int .i64 x.s) ∧ ws.cell? ⟨w3.heap.size, 1, none⟩ = some (.int .i64 x.w) ∧ ws.cell? ⟨w3.heap.size, 2, none⟩ = some (.int .i64 x.k) ∧ ws.cell? ⟨w3.heap.size, 3, none⟩ = some (.int .i64 x.a) ∧ ws.cell? ⟨w3.heap.size, 4, none⟩ = some (.int .i64 x.b) ∧ ws.cell? ⟨w3.heap.size, 5, none⟩ = some (.int .i64 x.c) ∧ ws.cell? ⟨w3.heap.size, 6, none⟩ = some (.int .i64 x.d) ∧ ws.cell? ⟨w3.heap.size, 7, none⟩ = some (.string x.t) ∧ ws.cell? ⟨w3.heap.size, 8, none⟩ = some (.string x.l)) (by kernel_rfl) (by first | exact SS.out _ D4.out | (rw [hw4]; exact SS.out _ D4.out)) (fun hHeld => ?_)
  try rw [hw4] at hHeld
  try rw [hw4]
  clear hw4
  generalize w4.drew = w5 at *
  refine wpAnyH_take (i := 0) (v := ?_) rfl (by kernel_rfl) (by kernel_rfl) (by kernel_rfl) (fun _ _ _ h => h) (Or.inl ⟨by rfl, ?_⟩) (by assumption) ?_
  rotate_left
  · (intro w hSw; (try dsimp only at hSw); first | (go_simp; done) | (go_simp; with_reducible rfl))
  simp only [Act.put, List.getElem_toArray, List.getElem_cons_zero, List.getElem_cons_succ, List.setIfInBounds_toArray, List.set_cons_zero, List.set_cons_succ]
  refine wpAnyH_take (i := 1) (v := ?_) rfl (by kernel_rfl) (by kernel_rfl) (by kernel_rfl) (fun _ _ _ h => h) (Or.inl ⟨by rfl, ?_⟩) (by assumption) ?_
  rotate_left
  · (intro w hSw; (try dsimp only at hSw); first | (go_simp; done) | (go_simp; with_reducible rfl))
  simp only [Act.put, List.getElem_toArray, List.getElem_cons_zero, List.getElem_cons_succ, List.setIfInBounds_toArray, List.set_cons_zero, List.set_cons_succ]
  refine wpAnyH_take (i := 2) (v := ?_) rfl (by kernel_rfl) (by kernel_rfl) (by kernel_rfl) (fun _ _ _ h => h) (Or.inl ⟨by rfl, ?_⟩) (by assumption) ?_
  rotate_left
  · (intro w hSw; (try dsimp only at hSw); first | (go_simp; done) | (go_simp; with_reducible rfl))
  simp only [Act.put, List.getElem_toArray, List.getElem_cons_zero, List.getElem_cons_succ, List.setIfInBounds_toArray, List.set_cons_zero, List.set_cons_succ]
  refine wpAnyH_take (i := 3) (v := ?_) rfl (by kernel_rfl) (by kernel_rfl) (by kernel_rfl) (fun _ _ _ h => h) (Or.inl ⟨by rfl, ?_⟩) (by assumption) ?_
  rotate_left
  · (intro w hSw; (try dsimp only at hSw); first | (go_simp; done) | (go_simp; with_reducible rfl))
  simp only [Act.put, List.getElem_toArray, List.getElem_cons_zero, List.getElem_cons_succ, List.setIfInBounds_toArray, List.set_cons_zero, List.set_cons_succ]
  refine wpAnyH_take (i := 4) (v := ?_) rfl (by kernel_rfl) (by kernel_rfl) (by kernel_rfl) (fun _ _ _ h => h) (Or.inl ⟨by rfl, ?_⟩) (by assumption) ?_
  rotate_left
  · (intro w hSw; (try dsimp only at hSw); first | (go_simp; done) | (go_simp; with_reducible rfl))
  simp only [Act.put, List.getElem_toArray, List.getElem_cons_zero, List.getElem_cons_succ, List.setIfInBounds_toArray, List.set_cons_zero, List.set_cons_succ]
  refine wpAnyH_ready (rs := [5]) (by kernel_rfl) (by simp) ?_
  refine AllReadyH.cons rfl (fun K hK => ?_) AllReadyH.nil
  go_simp
  go_wp2_with (go_at_call 10; refine (ref_any x w5).mono ?_; rintro e1 w6 ⟨rfl, hb⟩)
  have D6 := Lib.hid (up D4.out hb D4.out.size)
  refine hK.out _ _ (SS.out _ D6.out) (fun hH1 => ?_)
  clear hK K hHeld hb
  refine wpAnyH_ready (rs := [6]) (by kernel_rfl) (by simp) ?_
  refine AllReadyH.cons rfl (fun K hK => ?_) AllReadyH.nil
  go_simp
  go_wp2_with (go_at_call 9; refine (RI.out w6).mono ?_; rintro e1 w7 ⟨rfl, hb⟩)
  have D7 := Lib.hid (up D6.out hb D6.out.size)
  refine hK.out _ _ (SS.out _ D7.out) (fun hH2 => ?_)
  clear hK K hH1 hb
  refine wpAnyH_take (i := 7) (v := ?_) rfl (by kernel_rfl) (by kernel_rfl) (by kernel_rfl) (fun _ _ _ h => h) (Or.inl ⟨by rfl, ?_⟩) (by assumption) ?_
  rotate_left
  · (intro w hSw; (try dsimp only at hSw); first | (go_simp; done) | (go_simp; with_reducible rfl))
  simp only [Act.put, List.getElem_toArray, List.getElem_cons_zero, List.getElem_cons_succ, List.setIfInBounds_toArray, List.set_cons_zero, List.set_cons_succ]
  refine wpAnyH_take (i := 8) (v := ?_) rfl (by kernel_rfl) (by kernel_rfl) (by kernel_rfl) (fun _ _ _ h => h) (Or.inl ⟨by rfl, ?_⟩) (by assumption) ?_
  rotate_left
  · (intro w hSw; (try dsimp only at hSw); first | (go_simp; done) | (go_simp; with_reducible rfl))
  simp only [Act.put, List.getElem_toArray, List.getElem_cons_zero, List.getElem_cons_succ, List.setIfInBounds_toArray, List.set_cons_zero, List.set_cons_succ]
  refine wpAnyH_take (i := 9) (v := ?_) rfl (by kernel_rfl) (by kernel_rfl) (by kernel_rfl) (fun _ _ _ h => h) (Or.inl ⟨by rfl, ?_⟩) (by assumption) ?_
  rotate_left
  · (intro w hSw; (try dsimp only at hSw); first | (go_simp; done) | (go_simp; with_reducible rfl))
  simp only [Act.put, List.getElem_toArray, List.getElem_cons_zero, List.getElem_cons_succ, List.setIfInBounds_toArray, List.set_cons_zero, List.set_cons_succ]
  refine wpAnyH_take (i := 12) (v := ?_) rfl (by kernel_rfl) (by kernel_rfl) (by kernel_rfl) (fun _ _ _ h => h) (Or.inl ⟨by rfl, ?_⟩) (by assumption) ?_
  rotate_left
  · (intro w hSw; (try dsimp only at hSw); first | (go_simp; done) | (go_simp; with_reducible rfl))
  simp only [Act.put, List.getElem_toArray, List.getElem_cons_zero, List.getElem_cons_succ, List.setIfInBounds_toArray, List.set_cons_zero, List.set_cons_succ]
  refine wpAnyH_take (i := 13) (v := ?_) rfl (by kernel_rfl) (by kernel_rfl) (by kernel_rfl) (fun _ _ _ h => h) (Or.inl ⟨by rfl, ?_⟩) (by assumption) ?_
  rotate_left
  · (intro w hSw; (try dsimp only at hSw); first | (go_simp; done) | (go_simp; with_reducible rfl))
  simp only [Act.put, List.getElem_toArray, List.getElem_cons_zero, List.getElem_cons_succ, List.setIfInBounds_toArray, List.set_cons_zero, List.set_cons_succ]
  refine wpAnyH_ready (rs := [10]) (by kernel_rfl) (by simp) ?_
  refine AllReadyH.cons rfl (fun K hK => ?_) AllReadyH.nil
  go_simp
  go_wp2_with (go_at_call 10; refine (ref_any x w7).mono ?_; rintro e1 w8 ⟨rfl, hb⟩)
  have D8 := Lib.hid (up D7.out hb D7.out.size)
  refine hK.out _ _ (SS.out _ D8.out) (fun hH3 => ?_)
  clear hK K hH2 hb
  refine wpAnyH_ready (rs := [11]) (by kernel_rfl) (by simp) ?_
  refine AllReadyH.cons rfl (fun K hK => ?_) AllReadyH.nil
  go_simp
  go_wp2_with (go_at_call 14; refine (RB.out w8).mono ?_; rintro e1 w9 ⟨rfl, hb⟩)
  have D9 := Lib.hid (up D8.out hb D8.out.size)
  refine hK.out _ _ (SS.out _ D9.out) (fun hH4 => ?_)
  clear hK K hH3 hb
  refine wpAnyH_take (i := 14) (v := ?_) rfl (by kernel_rfl) (by kernel_rfl) (by kernel_rfl) (fun _ _ _ h => h) (Or.inl ⟨by rfl, ?_⟩) (by assumption) ?_
  rotate_left
  · (intro w hSw; (try dsimp only at hSw); first | (go_simp; done) | (go_simp; with_reducible rfl))
  simp only [Act.put, List.getElem_toArray, List.getElem_cons_zero, List.getElem_cons_succ, List.setIfInBounds_toArray, List.set_cons_zero, List.set_cons_succ]
  refine wpAnyH_take (i := 15) (v := ?_) rfl (by kernel_rfl) (by kernel_rfl) (by kernel_rfl) (fun _ _ _ h => h) (Or.inl ⟨by rfl, ?_⟩) (by assumption) ?_
  rotate_left
  · (intro w hSw; (try dsimp only at hSw); first | (go_simp; done) | (go_simp; with_reducible rfl))
  simp only [Act.put, List.getElem_toArray, List.getElem_cons_zero, List.getElem_cons_succ, List.setIfInBounds_toArray, List.set_cons_zero, List.set_cons_succ]
  refine wpAnyH_take (i := 16) (v := ?_) rfl (by kernel_rfl) (by kernel_rfl) (by kernel_rfl) (fun _ _ _ h => h) (Or.inl ⟨by rfl, ?_⟩) (by assumption) ?_
  rotate_left
  · (intro w hSw; (try dsimp only at hSw); first | (go_simp; done) | (go_simp; with_reducible rfl))
  simp only [Act.put, List.getElem_toArray, List.getElem_cons_zero, List.getElem_cons_succ, List.setIfInBounds_toArray, List.set_cons_zero, List.set_cons_succ]
  have AW := Lib.hid (awake_any w9 (TW.out.keep (up B4.out D9.out B4.out.size)))
  unfold BoolP at AW
  refine wpAnyH_ready (rs := [17]) (by kernel_rfl) (by simp) ?_
  refine AllReadyH.cons rfl (fun K hK => ?_) AllReadyH.nil
  go_simp
  go_wp2_with (go_at_call 8; refine AW.out.mono ?_; rintro e1 wA ⟨rfl, hb⟩)
  have DA := Lib.hid (up D9.out hb D9.out.size)
  refine hK.out _ _ (SS.out _ DA.out) (fun hH5 => ?_)
  clear hK K hH4 hb AW
  refine wpAnyH_take (i := 18) (v := ?_) rfl (by kernel_rfl) (by kernel_rfl) (by kernel_rfl) (fun _ _ _ h => h) (Or.inl ⟨by rfl, ?_⟩) (by assumption) ?_
  rotate_left
  · (intro w hSw; (try dsimp only at hSw); first | (go_simp; done) | (go_simp; with_reducible rfl))
  simp only [Act.put, List.getElem_toArray, List.getElem_cons_zero, List.getElem_cons_succ, List.setIfInBounds_toArray, List.set_cons_zero, List.set_cons_succ]
  refine wpAnyH_take (i := 19) (v := ?_) rfl (by kernel_rfl) (by kernel_rfl) (by kernel_rfl) (fun _ _ _ h => h) (Or.inl ⟨by rfl, ?_⟩) (by assumption) ?_
  rotate_left
  · (intro w hSw; (try dsimp only at hSw); first | (go_simp; done) | (go_simp; with_reducible rfl))
  simp only [Act.put, List.getElem_toArray, List.getElem_cons_zero, List.getElem_cons_succ, List.setIfInBounds_toArray, List.set_cons_zero, List.set_cons_succ]
  refine wpAnyH_done (by kernel_rfl) ?_ _
  clear hH5
  go_wp2_with fail
  go_ret
  exact ⟨rfl, up B4.out DA.out B4.out.size⟩
theorem wf_u8 {a : Int} (h : (Lit.int .u8 a).wf = true) : 0 ≤ a ∧ a < 256 := by
  simp [Lit.wf, IntKind.min, IntKind.max, IntKind.signed, IntKind.bits] at h
  omega
theorem walk (w : World) (hT : Tab w) (B : Option Addr) (cb : Nat) (l : List Int) (hL : Nums .u8 w B l) (hl : l.length ≤ cb) (hcb : cb ≤ maxLen) (hw : ∀ n ∈ l, (Lit.int .u8 n).wf = true) :
    Calls Tryd.prog 4 #[.slice B l.length cb] w fun e w' => e = .returned (.bool true) ∧ Below w.heap.size w w' := by
  obtain ⟨lb, rfl, hs⟩ : ∃ lb : List Nat, l = bytes.ints lb ∧ Small lb := by
    refine ⟨l.map Int.toNat, ?_, fun x hx => ?_⟩
    · unfold bytes.ints
      rw [List.map_map]
      conv => lhs; rw [← List.map_id l]
      apply List.map_congr_left
      intro z hz
      have := wf_u8 (hw z hz)
      simp
      omega
    · obtain ⟨z, hz, rfl⟩ := List.mem_map.1 hx
      have := wf_u8 (hw z hz)
      omega
  have hlen : (bytes.ints lb).length = lb.length := by simp [bytes.ints]
  rw [hlen]
  by_cases h2 : 2000 < lb.length
  · exact walk_long w hT B cb lb h2
  cases hp : parse512 lb with
  | none => exact walk_none w hT B cb lb hL hs (by omega) hp
  | some x => exact walk_some w hT B cb lb hL hs (by omega) x hp

theorem contract (H : Type) (enc : TypeId × Value → H) (W : World) (bs : Nat) (args : Array Value) (ds gs : List (DataW H)) (before : List MemPlace)
    (hval : ∀ (j : Nat) t v, Tryd.f4.params[j]? = some t → args[j]? = some v → Value.okWide Tryd.prog W .any bs t v)
    (hW : DataW.Whole enc Tryd.prog Tryd.f4.params.toList Rows.orderParsesSpec.vars false W args.toList ds gs before) (hL : laidMetH Tryd.prog Rows.orderParsesRow.laid W) :
    Calls Tryd.prog 4 args W fun e W' => ∃ v, e = .returned v ∧ Rows.orderParsesSpec.post enc Tryd.prog Tryd.f4 false true false false W args v W' := by
  have hW' := hW
  obtain ⟨p, q, hA0, hV, rfl, _, _⟩ := hW
  have hA : DataW.TrodAll enc Tryd.prog W 0 (fun _ => true) true Tryd.f4.params.toList args.toList ds p := hA0
  rw [Tryd.params4] at hA hval
  obtain ⟨v0, vs0, d0, ds0, p0, q0, hargs, rfl, rfl, h0, r0⟩ := trodAll_cons hA
  obtain ⟨rfl, rfl, rfl⟩ := trodAll_nil r0
  obtain rfl : args = #[v0] := by cases args; simp_all
  obtain ⟨rfl, rfl⟩ := trodVars_none hV
  obtain ⟨A0, c0, l0, rfl, b0, m0, n0, w0⟩ := base.open_nums Tryd.underlying32 Tryd.underlying5 (by kernel_rfl) (hval 0 32 v0 rfl rfl) h0
  clear hA0
  refine (walk W (tableOf hL) A0 c0 l0 n0 b0 m0 w0).mono fun e W' ⟨he, hb⟩ => ?_
  subst he
  exact ⟨_, rfl, base.law_post base.laid (by kernel_rfl) rfl rfl Tryd.underlying4 hW' rfl rfl rfl hb⟩

noncomputable def laidWorld (os : Os) : World :=
  { World.holding Tryd.prog os ⟨#[], #[], []⟩ with heap := (World.holding Tryd.prog os ⟨#[], #[], []⟩).heap.modify 0 fun
      | .cells _ t frozen => .cells #[.string ⟨#[]⟩, .string ⟨#[84]⟩, .string ⟨#[65, 66]⟩, .string ⟨#[65, 66]⟩, .string ⟨#[65, 66, 67, 68]⟩, .string ⟨#[65]⟩, .string ⟨#[65, 66]⟩, .string ⟨#[65, 66, 67, 68]⟩, .string ⟨#[84]⟩, .string ⟨#[65]⟩, .string ⟨#[65, 66]⟩, .string ⟨#[65, 66, 67]⟩, .string ⟨#[65]⟩, .string ⟨#[65]⟩, .string ⟨#[65, 66, 67]⟩, .string ⟨#[65]⟩, .string ⟨#[65]⟩, .string ⟨#[65]⟩, .string ⟨#[65, 66]⟩, .string ⟨#[65, 66, 67]⟩, .string ⟨#[65, 66]⟩, .string ⟨#[65, 66]⟩, .string ⟨#[65, 66, 67, 68]⟩, .string ⟨#[65]⟩, .string ⟨#[]⟩, .string ⟨#[65]⟩, .string ⟨#[65, 66]⟩, .string ⟨#[]⟩] t frozen
      | o => o }
theorem laid_met (os : Os) : laidMet Tryd.prog Rows.orderParsesRow.laid ((laidWorld os).forCall (fun _ _ => 0) ⟨#[], #[.slice none 0 0], []⟩).memory :=
  laidMet_of_run' 8 (by kernel_rfl) (by kernel_rfl)
theorem reads (os : Os) {H : Type} (enc : TypeId × Value → H) : ∃ places, DataW.whole enc Tryd.prog ((laidWorld os).forCall (fun _ _ => 0) ⟨#[], #[.slice none 0 0], []⟩).memory Tryd.f4.params.toList Rows.orderParsesSpec.vars false (#[.slice none 0 0] : Array Value).toList 8 = some ([.nil], [], places) :=
  ⟨[], by kernel_rfl⟩

set_option maxRecDepth 100000 in
theorem lifted (os : Os) (started : os.Started) (H : Type) (enc : TypeId × Value → H) (F : Stop.Interp) :
    ReturnsInHanded {} Tryd.checked os 4 .any ((OpenSpec.ofChange Rows.orderParsesSpec).preRow enc Tryd.prog Tryd.f4 Rows.orderParsesRow.domain false Rows.orderParsesRow.laid) (((OpenSpec.ofChange Rows.orderParsesSpec).at F).post enc Tryd.prog Tryd.f4 false true false false) := by
  obtain ⟨places, hx⟩ := reads os enc
  refine returnsInHanded_of_row (C := Tryd.checked) (s := OpenSpec.ofChange Rows.orderParsesSpec) base.own started (by kernel_rfl) Tryd.func4
    (witness_row_at (enc := enc) (C := Tryd.checked) false (laidWorld os) #[.slice none 0 0] rfl (by kernel_rfl) (by kernel_rfl) (by kernel_rfl)
      (OpenSpec.preRow_of_cond 8 hx (by kernel_rfl) (fun k hk => by cases hk) (by kernel_rfl) (laid_met os))) ?_
  intro W bs args ds gs before hval hW _ _ _ hL _ _
  exact contract H enc W bs args ds gs before hval hW hL

theorem said : Rows.OrderParsesSaid :=
  OpenClaim.holds_of_cond 4 Tryd.f4 rfl rfl rfl rfl rfl rfl rfl ⟨rfl, rfl, rfl, rfl, rfl⟩ rfl rfl rfl rfl rfl (by kernel_rfl) Tryd.func4 (by kernel_rfl)
    (of_decide_eq_true (by kernel_rfl)) (by unfold Func.isWrapper; first | (rw [if_pos (by decide +kernel)]; kernel_rfl) | (rw [if_neg (by decide +kernel)]; exact ⟨rfl, rfl⟩))
    (fun os started H enc _ F => by rw [OpenClaim.pre_eq_preRow]; exact lifted os started H enc F)

theorem plain (f : FuncId) (fn : Func) (hf : Tryd.pinned.checked.prog.funcNamed "deedhold/deedholdlaw27.OrderParses" = some f) (hfn : Tryd.pinned.checked.prog.funcs[f]? = some fn) :
    false = Tryd.pinned.checked.prog.looks [] ∧ ∀ (j : Nat) t, fn.params[j]? = some t → Tryd.pinned.checked.prog.wantsStandIn t = false := by
  obtain rfl : f = 4 := Option.some.inj ((show Tryd.prog.funcNamed "deedhold/deedholdlaw27.OrderParses" = some 4 by kernel_rfl).symm.trans hf) |>.symm
  obtain rfl : fn = Tryd.f4 := (Option.some.inj (Tryd.func4.symm.trans hfn)).symm
  refine ⟨by kernel_rfl, fun j t ht => ?_⟩
  rw [Tryd.params4] at ht
  have ht2 : t = 32 := by simpa using Array.mem_of_getElem? ht
  rcases ht2 with rfl
  all_goals first | exact (show Tryd.prog.wantsStandIn _ = false by kernel_rfl)

theorem card : Rows.OrderParsesCardSaid :=
  Claim7.holds_tied_plain_at .later [] _ _ _ _ said (fun _ h => by cases h) (by kernel_rfl) (fun _ h => by cases h) orderParses_row_tie rfl ⟨rfl, rfl⟩ (by kernel_rfl) rfl plain (by kernel_rfl)
#print axioms card
end Go.Proofs.YtndhammngejdiaaDoor.orderParses
