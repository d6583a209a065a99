/-
  OrderReplies (P27.2), for the tied reading: for every reply and all bytes the law answers true, whatever the memory, if the table of fields stands as the program lays it.
  Conditions: none beyond the card's own.
-/
import Derived.Test.YtndhammngejdiaaDoorOrO

namespace Go.Proofs.YtndhammngejdiaaDoor.orderReplies
open Go.ChangeShapes Go.WideShapes Go.ChangeAt Go.RowKit
open base (ret_bool ret_int made up Blk Only Nums)
open bytes (str Small small_nil Lay Own conv_any)
open od vnum
open vi (I64 bs)
set_option linter.unusedVariables false
set_option linter.unusedSimpArgs false
theorem tableOf {W : World} (h : laidMetH Tryd.prog Rows.orderRepliesRow.laid W) : Tab W := od.tableOf h
set_option maxRecDepth 100000 in
set_option maxHeartbeats 1000000 in
theorem walk_big (w : World) (hT : Tab w) (e n : Int) (A : Option Addr) (c : Nat) (zs : List Int) (B : Option Addr) (cb : Nat) (lb : List Nat) (h : 100 < zs.length) : Calls Tryd.prog 6 #[.agg #[.int .i64 e, .int .i64 n, .slice A zs.length c], .slice B lb.length cb] w (BoolP true w) := by
  have M1 := Lib.hid (made w (.cells #[.int .i64 e, .int .i64 n, .slice A zs.length c] 44))
  have bx := Blk.new w 44 #[.int .i64 e, .int .i64 n, .slice A zs.length c]
  have b2 := bx.cell 2
  have AW := Lib.hid (awake_any _ (hT.keep M1.out))
  unfold BoolP at AW
  clear bx hT
  generalize hw : w.alloc (.cells #[.int .i64 e, .int .i64 n, .slice A zs.length c] 44) = w1 at *
  have k1 : decide ((zs.length : Int) > 100) = true := decide_eq_true (by omega)
  clear h
  go_enter Tryd.func6, Tryd.ntmps6
  go_wp2_with (rw [hw])
  refine AW.out.mono ?_
  rintro e1 w2 ⟨rfl, hb⟩
  have B2 := Lib.hid (up M1.out hb M1.out.size)
  clear hb
  go_wp2_with fail
  go_ret
  exact ⟨rfl, B2.out⟩
set_option maxRecDepth 100000 in
set_option maxHeartbeats 1000000 in
theorem walk_long (w : World) (hT : Tab w) (e n : Int) (A : Option Addr) (c : Nat) (zs : List Int) (B : Option Addr) (cb : Nat) (lb : List Nat) (h1 : ¬ 100 < zs.length) (h : 500 < lb.length) : Calls Tryd.prog 6 #[.agg #[.int .i64 e, .int .i64 n, .slice A zs.length c], .slice B lb.length cb] w (BoolP true w) := by
  have M1 := Lib.hid (made w (.cells #[.int .i64 e, .int .i64 n, .slice A zs.length c] 44))
  have bx := Blk.new w 44 #[.int .i64 e, .int .i64 n, .slice A zs.length c]
  have b2 := bx.cell 2
  have AW := Lib.hid (awake_any _ (hT.keep M1.out))
  unfold BoolP at AW
  clear bx hT
  generalize hw : w.alloc (.cells #[.int .i64 e, .int .i64 n, .slice A zs.length c] 44) = w1 at *
  have k1 : decide ((zs.length : Int) > 100) = false := decide_eq_false (by omega)
  have k2 : decide ((lb.length : Int) > 500) = true := decide_eq_true (by omega)
  clear h h1
  go_enter Tryd.func6, Tryd.ntmps6
  go_wp2_with (rw [hw])
  refine AW.out.mono ?_
  rintro e1 w2 ⟨rfl, hb⟩
  have B2 := Lib.hid (up M1.out hb M1.out.size)
  clear hb
  go_wp2_with fail
  go_ret
  exact ⟨rfl, B2.out⟩
set_option maxRecDepth 100000 in
set_option maxHeartbeats 8000000 in
theorem walk_main (w : World) (hT : Tab w) (e n : Int) (A : Option Addr) (c : Nat) (zs : List Int) (B : Option Addr) (cb : Nat) (lb : List Nat) (he : W64 e) (hn : W64 n) (hN : Nums .i64 w A zs) (hz : ∀ z ∈ zs, I64 z) (hL : Lay w B lb) (hs : Small lb) (h1 : zs.length ≤ 100) (h2 : lb.length ≤ 500) :
    Calls Tryd.prog 6 #[.agg #[.int .i64 e, .int .i64 n, .slice A zs.length c], .slice B lb.length cb] w (BoolP true w) := by
  have k1 : decide ((zs.length : Int) > 100) = false := decide_eq_false (by omega)
  have k2 : decide ((lb.length : Int) > 500) = false := decide_eq_false (by omega)
  have M1 := Lib.hid (made w (.cells #[.int .i64 e, .int .i64 n, .slice A zs.length c] 44))
  have bx := Blk.new w 44 #[.int .i64 e, .int .i64 n, .slice A zs.length c]
  have BX := Lib.hid bx
  have b0 := bx.cell 0
  have b1 := bx.cell 1
  have b2 := bx.cell 2
  have RE := Lib.hid (reply_any A c zs e n _ (base.Nums.keep hN M1.out) hz he hn (by omega))
  have TW := Lib.hid hT
  have HE := Lib.hid he
  have HN := Lib.hid hn
  have NN := Lib.hid hN
  have HZ := Lib.hid hz
  have LB := Lib.hid hL
  have SB := Lib.hid hs
  have PX := Lib.hid (parse_reply he hn hz (by omega))
  have SX := Lib.hid (replyb_small (e := e) (n := n) (zs := zs))
  have LX := Lib.hid (show (replyb e n zs).length ≤ 9000 from by
    unfold replyb vi.encs
    have a1 := enc_len he.1 he.2
    have a2 := enc_len hn.1 hn.2
    have a3 := enc_len (n := (zs.length : Int)) (by omega) (by omega)
    have a4 := vi.flat_len zs hz
    simp only [List.length_append]
    omega)
  have HX := Lib.hid (fun w' (hb : Below w.heap.size w w') => rreply_any A c zs e n w' (base.Nums.keep hN hb) hz he hn (by omega))
  unfold vi.NewB at RE
  clear bx hT he hn hN hz hL hs
  obtain ⟨X, hX⟩ : ∃ X, X = replyb e n zs := ⟨_, rfl⟩
  rw [← hX] at RE PX SX LX HX
  clear hX
  generalize hw : w.alloc (.cells #[.int .i64 e, .int .i64 n, .slice A zs.length c] 44) = w1 at *
  go_enter Tryd.func6, Tryd.ntmps6
  go_wp2_with (rw [hw])
  refine RE.out.mono ?_
  rintro e1 w3 ⟨v3, rfl, ho3, hb3⟩
  obtain ⟨A3, c3, rfl, hl3, -, -⟩ := ho3.lay
  have L3 := Lib.hid hl3
  have B3 := Lib.hid (up M1.out hb3 M1.out.size)
  have BX3 := Lib.hid (BX.out.below hb3 BX.out.lt)
  have PA := Lib.hid (parser_any A3 c3 X w3 hl3 SX.out LX.out)
  clear ho3 hl3 hb3 RE b0 b1 b2 hw k1 k2
  go_wp2_with fail
  refine PA.out.mono ?_
  rintro e1 w4 ⟨hb4, h4⟩
  obtain ⟨A4, c4, rfl, hn4⟩ : ∃ A4 c4, e1 = .returned (.tuple #[.agg #[.int .i64 e, .int .i64 n, .slice A4 zs.length c4], .bool true]) ∧ Nums .i64 w4 A4 zs := by
    rcases h4 with ⟨h, _⟩ | ⟨E', n', zs', A', c', h5, h6, h7⟩
    · rw [PX.out] at h; cases h
    · rw [PX.out] at h5
      injection h5 with h5
      injection h5 with h8 h5
      injection h5 with h9 h10
      subst h8 h9 h10
      exact ⟨A', c', h6, h7⟩
  have M5 := Lib.hid (made w4 (.cells #[.int .i64 e, .int .i64 n, .slice A4 zs.length c4] 44))
  have B5 := Lib.hid (show Below w.heap.size w (w4.alloc (.cells #[.int .i64 e, .int .i64 n, .slice A4 zs.length c4] 44)) from up (up B3.out hb4 B3.out.size) M5.out (up B3.out hb4 B3.out.size).size)
  have L5 := Lib.hid ((L3.out.below hb4).below M5.out)
  have BX5 := Lib.hid ((BX3.out.below hb4 BX3.out.lt).alloc (.cells #[.int .i64 e, .int .i64 n, .slice A4 zs.length c4] 44))
  have BP5 := Lib.hid (Blk.new w4 44 #[.int .i64 e, .int .i64 n, .slice A4 zs.length c4])
  have N5 := Lib.hid (base.Nums.keep hn4 M5.out)
  clear h4 hb4 hn4 PA
  go_upto_region 5 with fail
  obtain ⟨gp, hgp⟩ : ∃ g, g = w4.heap.size := ⟨_, rfl⟩
  rw [← hgp] at BP5
  rw [← hgp]
  clear hgp M5
  generalize w4.alloc (.cells #[.int .i64 e, .int .i64 n, .slice A4 zs.length c4] 44) = w5 at *
  have SS := Lib.hid (fun ws (h : Below w5.heap.size w5 ws) => (show (convert 32 9 (.slice A3 X.length c3)).run Tryd.prog ws = .ok (.string (str X)) ws ∧ ws.cell? ⟨w.heap.size, 0, none⟩ = some (.int .i64 e) ∧ ws.cell? ⟨w.heap.size, 1, none⟩ = some (.int .i64 n) ∧ ws.cell? ⟨w.heap.size, 2, none⟩ = some (.slice A zs.length c) ∧ ws.cell? ⟨gp, 0, none⟩ = some (.int .i64 e) ∧ ws.cell? ⟨gp, 1, none⟩ = some (.int .i64 n) ∧ ws.cell? ⟨gp, 2, none⟩ = some (.slice A4 zs.length c4) from
    ⟨conv_any ws A3 c3 X (L5.out.below h) SX.out, (BX5.out.below h BX5.out.lt).cell 0, (BX5.out.below h BX5.out.lt).cell 1, (BX5.out.below h BX5.out.lt).cell 2, (BP5.out.below h BP5.out.lt).cell 0, (BP5.out.below h BP5.out.lt).cell 1, (BP5.out.below h BP5.out.lt).cell 2⟩))
  have D5 := Lib.hid (show Below w5.heap.size w5 w5.drew from (Below.refl _ _).drew)
  refine wp_region_held_drew (S := fun ws => (convert 32 9 (.slice A3 X.length c3)).run Tryd.prog ws = .ok (.string (str X)) ws ∧ ws.cell? ⟨w.heap.size, 0, none⟩ = some (.int .i64 e) ∧ ws.cell? ⟨w.heap.size, 1, none⟩ = some (.int .i64 n) ∧ ws.cell? ⟨w.heap.size, 2, none⟩ = some (.slice A zs.length c) ∧ ws.cell? ⟨gp, 0, none⟩ = some (.int .i64 e) ∧ ws.cell? ⟨gp, 1, none⟩ = some (.int .i64 n) ∧ ws.cell? ⟨gp, 2, none⟩ = some (.slice A4 zs.length c4)) (by kernel_rfl) (SS.out _ D5.out) (fun hHeld => ?_)
  have HX6 := Lib.hid (HX.out w5.drew (base.below_drewN B5.out 1))
  generalize w5.drew = w6 at *
  unfold StrP at HX6
  refine wpAnyH_take (i := 0) (v := ?_) rfl (by kernel_rfl) (by kernel_rfl) (by kernel_rfl) (fun _ _ _ h => h) (Or.inl ⟨by rfl, ?_⟩) (by assumption) ?_
  rotate_left
  · (intro w hSw; (try dsimp only at hSw); first | (go_simp; done) | (go_simp; with_reducible rfl))
  simp only [Act.put, List.getElem_toArray, List.getElem_cons_zero, List.getElem_cons_succ, List.setIfInBounds_toArray, List.set_cons_zero, List.set_cons_succ]
  refine wpAnyH_take (i := 1) (v := ?_) rfl (by kernel_rfl) (by kernel_rfl) (by kernel_rfl) (fun _ _ _ h => h) (Or.inl ⟨by rfl, ?_⟩) (by assumption) ?_
  rotate_left
  · (intro w hSw; (try dsimp only at hSw); first | (go_simp; done) | (go_simp; with_reducible rfl))
  simp only [Act.put, List.getElem_toArray, List.getElem_cons_zero, List.getElem_cons_succ, List.setIfInBounds_toArray, List.set_cons_zero, List.set_cons_succ]
  refine wpAnyH_take (i := 2) (v := ?_) rfl (by kernel_rfl) (by kernel_rfl) (by kernel_rfl) (fun _ _ _ h => h) (Or.inl ⟨by rfl, ?_⟩) (by assumption) ?_
  rotate_left
  · (intro w hSw; (try dsimp only at hSw); first | (go_simp; done) | (go_simp; with_reducible rfl))
  simp only [Act.put, List.getElem_toArray, List.getElem_cons_zero, List.getElem_cons_succ, List.setIfInBounds_toArray, List.set_cons_zero, List.set_cons_succ]
  refine wpAnyH_take (i := 3) (v := ?_) rfl (by kernel_rfl) (by kernel_rfl) (by kernel_rfl) (fun _ _ _ h => h) (Or.inl ⟨by rfl, ?_⟩) (by assumption) ?_
  rotate_left
  · (intro w hSw; (try dsimp only at hSw); first | (go_simp; done) | (go_simp; with_reducible rfl))
  simp only [Act.put, List.getElem_toArray, List.getElem_cons_zero, List.getElem_cons_succ, List.setIfInBounds_toArray, List.set_cons_zero, List.set_cons_succ]
  refine wpAnyH_take (i := 4) (v := ?_) rfl (by kernel_rfl) (by kernel_rfl) (by kernel_rfl) (fun _ _ _ h => h) (Or.inl ⟨by rfl, ?_⟩) (by assumption) ?_
  rotate_left
  · (intro w hSw; (try dsimp only at hSw); first | (go_simp; done) | (go_simp; with_reducible rfl))
  simp only [Act.put, List.getElem_toArray, List.getElem_cons_zero, List.getElem_cons_succ, List.setIfInBounds_toArray, List.set_cons_zero, List.set_cons_succ]
  refine wpAnyH_take (i := 5) (v := ?_) rfl (by kernel_rfl) (by kernel_rfl) (by kernel_rfl) (fun _ _ _ h => h) (Or.inl ⟨by rfl, ?_⟩) (by assumption) ?_
  rotate_left
  · (intro w hSw; (try dsimp only at hSw); first | (go_simp; done) | (go_simp; with_reducible rfl))
  simp only [Act.put, List.getElem_toArray, List.getElem_cons_zero, List.getElem_cons_succ, List.setIfInBounds_toArray, List.set_cons_zero, List.set_cons_succ]
  refine wpAnyH_take (i := 6) (v := ?_) rfl (by kernel_rfl) (by kernel_rfl) (by kernel_rfl) (fun _ _ _ h => h) (Or.inl ⟨by rfl, ?_⟩) (by assumption) ?_
  rotate_left
  · (intro w hSw; (try dsimp only at hSw); first | (go_simp; done) | (go_simp; with_reducible rfl))
  simp only [Act.put, List.getElem_toArray, List.getElem_cons_zero, List.getElem_cons_succ, List.setIfInBounds_toArray, List.set_cons_zero, List.set_cons_succ]
  refine wpAnyH_take (i := 7) (v := ?_) rfl (by kernel_rfl) (by kernel_rfl) (by kernel_rfl) (fun _ _ _ h => h) (Or.inl ⟨by rfl, ?_⟩) (by assumption) ?_
  rotate_left
  · (intro w hSw; (try dsimp only at hSw); first | (go_simp; done) | (go_simp; with_reducible rfl))
  simp only [Act.put, List.getElem_toArray, List.getElem_cons_zero, List.getElem_cons_succ, List.setIfInBounds_toArray, List.set_cons_zero, List.set_cons_succ]
  refine wpAnyH_ready (rs := [8]) (by kernel_rfl) (by simp) ?_
  refine AllReadyH.cons rfl (fun K hK => ?_) AllReadyH.nil
  go_simp
  go_wp2_with (go_at_call 17; refine HX6.out.mono ?_; rintro e1 w7 ⟨rfl, hb⟩)
  have D7 := Lib.hid (up D5.out hb D5.out.size)
  refine hK.out _ _ (SS.out _ D7.out) (fun hH1 => ?_)
  clear hK K hHeld hb HX6
  refine wpAnyH_take (i := 9) (v := ?_) rfl (by kernel_rfl) (by kernel_rfl) (by kernel_rfl) (fun _ _ _ h => h) (Or.inl ⟨by rfl, ?_⟩) (by assumption) ?_
  rotate_left
  · (intro w hSw; (try dsimp only at hSw); first | (go_simp; done) | (go_simp; with_reducible rfl))
  simp only [Act.put, List.getElem_toArray, List.getElem_cons_zero, List.getElem_cons_succ, List.setIfInBounds_toArray, List.set_cons_zero, List.set_cons_succ]
  refine wpAnyH_take (i := 10) (v := ?_) rfl (by kernel_rfl) (by kernel_rfl) (by kernel_rfl) (fun _ _ _ h => h) (Or.inl ⟨by rfl, ?_⟩) (by assumption) ?_
  rotate_left
  · (intro w hSw; (try dsimp only at hSw); first | (go_simp; done) | (go_simp; with_reducible rfl))
  simp only [Act.put, List.getElem_toArray, List.getElem_cons_zero, List.getElem_cons_succ, List.setIfInBounds_toArray, List.set_cons_zero, List.set_cons_succ]
  refine wpAnyH_take (i := 11) (v := ?_) rfl (by kernel_rfl) (by kernel_rfl) (by kernel_rfl) (fun _ _ _ h => h) (Or.inl ⟨by rfl, ?_⟩) (by assumption) ?_
  rotate_left
  · (intro w hSw; (try dsimp only at hSw); first | (go_simp; done) | (go_simp; with_reducible rfl))
  simp only [Act.put, List.getElem_toArray, List.getElem_cons_zero, List.getElem_cons_succ, List.setIfInBounds_toArray, List.set_cons_zero, List.set_cons_succ]
  refine wpAnyH_take (i := 12) (v := ?_) rfl (by kernel_rfl) (by kernel_rfl) (by kernel_rfl) (fun _ _ _ h => h) (Or.inl ⟨by rfl, ?_⟩) (by assumption) ?_
  rotate_left
  · (intro w hSw; (try dsimp only at hSw); first | (go_simp; done) | (go_simp; with_reducible rfl))
  simp only [Act.put, List.getElem_toArray, List.getElem_cons_zero, List.getElem_cons_succ, List.setIfInBounds_toArray, List.set_cons_zero, List.set_cons_succ]
  refine wpAnyH_take (i := 13) (v := ?_) rfl (by kernel_rfl) (by kernel_rfl) (by kernel_rfl) (fun _ _ _ h => h) (Or.inl ⟨by rfl, ?_⟩) (by assumption) ?_
  rotate_left
  · (intro w hSw; (try dsimp only at hSw); first | (go_simp; done) | (go_simp; with_reducible rfl))
  simp only [Act.put, List.getElem_toArray, List.getElem_cons_zero, List.getElem_cons_succ, List.setIfInBounds_toArray, List.set_cons_zero, List.set_cons_succ]
  refine wpAnyH_take (i := 14) (v := ?_) rfl (by kernel_rfl) (by kernel_rfl) (by kernel_rfl) (fun _ _ _ h => h) (Or.inl ⟨by rfl, ?_⟩) (by assumption) ?_
  rotate_left
  · (intro w hSw; (try dsimp only at hSw); first | (go_simp; done) | (go_simp; with_reducible rfl))
  simp only [Act.put, List.getElem_toArray, List.getElem_cons_zero, List.getElem_cons_succ, List.setIfInBounds_toArray, List.set_cons_zero, List.set_cons_succ]
  refine wpAnyH_take (i := 15) (v := ?_) rfl (by kernel_rfl) (by kernel_rfl) (by kernel_rfl) (fun _ _ _ h => h) (Or.inl ⟨by rfl, ?_⟩) (by assumption) ?_
  rotate_left
  · (intro w hSw; (try dsimp only at hSw); first | (go_simp; done) | (go_simp; with_reducible rfl))
  simp only [Act.put, List.getElem_toArray, List.getElem_cons_zero, List.getElem_cons_succ, List.setIfInBounds_toArray, List.set_cons_zero, List.set_cons_succ]
  refine wpAnyH_take (i := 16) (v := ?_) rfl (by kernel_rfl) (by kernel_rfl) (by kernel_rfl) (fun _ _ _ h => h) (Or.inl ⟨by rfl, ?_⟩) (by assumption) ?_
  rotate_left
  · (intro w hSw; (try dsimp only at hSw); first | (go_simp; done) | (go_simp; with_reducible rfl))
  simp only [Act.put, List.getElem_toArray, List.getElem_cons_zero, List.getElem_cons_succ, List.setIfInBounds_toArray, List.set_cons_zero, List.set_cons_succ]
  have EQ := Lib.hid (requal_any A4 c4 A c zs e n w7 (base.Nums.keep N5.out D7.out) (base.Nums.keep NN.out (up B5.out D7.out B5.out.size)) (by omega))
  unfold BoolP at EQ
  refine wpAnyH_ready (rs := [17]) (by kernel_rfl) (by simp) ?_
  refine AllReadyH.cons rfl (fun K hK => ?_) AllReadyH.nil
  go_simp
  go_wp2_with (go_at_call 18; refine EQ.out.mono ?_; rintro e1 w8 ⟨rfl, hb⟩)
  have D8 := Lib.hid (up D7.out hb D7.out.size)
  refine hK.out _ _ (SS.out _ D8.out) (fun hH2 => ?_)
  clear hK K hH1 hb EQ
  refine wpAnyH_take (i := 18) (v := ?_) rfl (by kernel_rfl) (by kernel_rfl) (by kernel_rfl) (fun _ _ _ h => h) (Or.inl ⟨by rfl, ?_⟩) (by assumption) ?_
  rotate_left
  · (intro w hSw; (try dsimp only at hSw); first | (go_simp; done) | (go_simp; with_reducible rfl))
  simp only [Act.put, List.getElem_toArray, List.getElem_cons_zero, List.getElem_cons_succ, List.setIfInBounds_toArray, List.set_cons_zero, List.set_cons_succ]
  refine wpAnyH_take (i := 19) (v := ?_) rfl (by kernel_rfl) (by kernel_rfl) (by kernel_rfl) (fun _ _ _ h => h) (Or.inl ⟨by rfl, ?_⟩) (by assumption) ?_
  rotate_left
  · (intro w hSw; (try dsimp only at hSw); first | (go_simp; done) | (go_simp; with_reducible rfl))
  simp only [Act.put, List.getElem_toArray, List.getElem_cons_zero, List.getElem_cons_succ, List.setIfInBounds_toArray, List.set_cons_zero, List.set_cons_succ]
  refine wpAnyH_done (by kernel_rfl) ?_ _
  clear hH2
  have B8 := Lib.hid (up B5.out D8.out B5.out.size)
  have PB := Lib.hid (parser_any B cb lb w8 (LB.out.below B8.out) SB.out (by omega))
  clear SS D5 D7 D8 HX L5 BX5 BP5 N5 L3 BX3 BX M1 PX
  go_wp2_with fail
  refine PB.out.mono ?_
  rintro e1 w9 ⟨hb9, h9⟩
  have B9 := Lib.hid (up B8.out hb9 B8.out.size)
  rcases h9 with ⟨h9, rfl⟩ | ⟨E', n', zs', A', c', h9, rfl, hn9⟩
  · clear hb9 PB h9
    have M10 := Lib.hid (made w9 (.cells #[.int .i64 0, .int .i64 0, .slice none 0 0] 44))
    have BQ := Lib.hid (Blk.new w9 44 #[.int .i64 0, .int .i64 0, .slice none 0 0])
    go_upto_region 9 with fail
    have B10 := Lib.hid (show Below w.heap.size w (w9.alloc (.cells #[.int .i64 0, .int .i64 0, .slice none 0 0] 44)).drew from base.below_drewN (up B9.out M10.out B9.out.size) 1)
    have BD := Lib.hid (show Blk (w9.alloc (.cells #[.int .i64 0, .int .i64 0, .slice none 0 0] 44)).drew w9.heap.size 44 #[.int .i64 0, .int .i64 0, .slice none 0 0] from BQ.out.drewN 1)
    refine wp_region_held_drew (S := fun _ => True) (by kernel_rfl) trivial (fun hHeld => ?_)
    generalize (w9.alloc (.cells #[.int .i64 0, .int .i64 0, .slice none 0 0] 44)).drew = wA at *
    refine more.any_more (S' := fun ws => Below wA.heap.size wA ws ∧ ws.cell? ⟨w9.heap.size, 0, none⟩ = some (.int .i64 0) ∧ ws.cell? ⟨w9.heap.size, 1, none⟩ = some (.int .i64 0) ∧ ws.cell? ⟨w9.heap.size, 2, none⟩ = some (.slice none 0 0)) (fun _ _ => trivial) _ _ _ _ ?_
    have SQ := Lib.hid (fun ws (h : Below wA.heap.size wA ws) => (show Below wA.heap.size wA ws ∧ ws.cell? ⟨w9.heap.size, 0, none⟩ = some (.int .i64 0) ∧ ws.cell? ⟨w9.heap.size, 1, none⟩ = some (.int .i64 0) ∧ ws.cell? ⟨w9.heap.size, 2, none⟩ = some (.slice none 0 0) from ⟨h, (BD.out.below h BD.out.lt).cell 0, (BD.out.below h BD.out.lt).cell 1, (BD.out.below h BD.out.lt).cell 2⟩))
    have hH0 : (fun ws => Below wA.heap.size wA ws ∧ ws.cell? ⟨w9.heap.size, 0, none⟩ = some (.int .i64 0) ∧ ws.cell? ⟨w9.heap.size, 1, none⟩ = some (.int .i64 0) ∧ ws.cell? ⟨w9.heap.size, 2, none⟩ = some (.slice none 0 0)) wA := SQ.out _ (Below.refl _ _)
    refine wpAnyH_take (i := 0) (v := ?_) rfl (by kernel_rfl) (by kernel_rfl) (by kernel_rfl) (fun _ _ _ h => h) (Or.inl ⟨by rfl, ?_⟩) (by assumption) ?_
    rotate_left
    · (intro w hSw; (try dsimp only at hSw); first | (go_simp; done) | (go_simp; with_reducible rfl))
    simp only [Act.put, List.getElem_toArray, List.getElem_cons_zero, List.getElem_cons_succ, List.setIfInBounds_toArray, List.set_cons_zero, List.set_cons_succ]
    refine wpAnyH_take (i := 1) (v := ?_) rfl (by kernel_rfl) (by kernel_rfl) (by kernel_rfl) (fun _ _ _ h => h) (Or.inl ⟨by rfl, ?_⟩) (by assumption) ?_
    rotate_left
    · (intro w hSw; (try dsimp only at hSw); first | (go_simp; done) | (go_simp; with_reducible rfl))
    simp only [Act.put, List.getElem_toArray, List.getElem_cons_zero, List.getElem_cons_succ, List.setIfInBounds_toArray, List.set_cons_zero, List.set_cons_succ]
    have EQ := Lib.hid (requal_any none 0 none 0 [] 0 0 wA (nums_nil _) (nums_nil _) (by simp))
    unfold BoolP at EQ
    refine wpAnyH_ready (rs := [2]) (by kernel_rfl) (by simp) ?_
    refine AllReadyH.cons rfl (fun K hK => ?_) AllReadyH.nil
    go_simp
    go_wp2_with (go_at_call 18; refine EQ.out.mono ?_; rintro e1 wB ⟨rfl, hb⟩)
    have DB := Lib.hid hb
    refine hK.out _ _ (SQ.out _ DB.out) (fun hH1 => ?_)
    clear hK K hHeld hH0 hb EQ
    refine wpAnyH_take (i := 3) (v := ?_) rfl (by kernel_rfl) (by kernel_rfl) (by kernel_rfl) (fun _ _ _ h => h) (Or.inl ⟨by rfl, ?_⟩) (by assumption) ?_
    rotate_left
    · (intro w hSw; (try dsimp only at hSw); first | (go_simp; done) | (go_simp; with_reducible rfl))
    simp only [Act.put, List.getElem_toArray, List.getElem_cons_zero, List.getElem_cons_succ, List.setIfInBounds_toArray, List.set_cons_zero, List.set_cons_succ]
    have FU := Lib.hid (full_any wB)
    unfold vi.NewB at FU
    refine wpAnyH_ready (rs := [4]) (by kernel_rfl) (by simp) ?_
    refine AllReadyH.cons rfl (fun K hK => ?_) AllReadyH.nil
    go_simp
    go_wp2_with (go_at_call 19; refine FU.out.mono ?_; rintro e1 wC ⟨vC, rfl, hoC, hb⟩)
    obtain ⟨AC, cC, rfl, hlC, -, -⟩ := hoC.lay
    have DC := Lib.hid (up DB.out hb DB.out.size)
    have cvC := fun ws (h : Lay ws AC (replyb 21 0 [])) => conv_any ws AC cC _ h replyb_small
    have LC := Lib.hid hlC
    refine hK.out _ _ (SQ.out _ DC.out) (fun hH2 => ?_)
    clear hK K hH1 hoC hb FU hlC
    refine more.any_more (S' := fun ws => (Below wA.heap.size wA ws ∧ ws.cell? ⟨w9.heap.size, 0, none⟩ = some (.int .i64 0) ∧ ws.cell? ⟨w9.heap.size, 1, none⟩ = some (.int .i64 0) ∧ ws.cell? ⟨w9.heap.size, 2, none⟩ = some (.slice none 0 0)) ∧ (convert 32 9 (.slice AC (replyb 21 0 []).length cC)).run Tryd.prog ws = .ok (.string (str (replyb 21 0 []))) ws) (fun _ h => h.1) _ _ _ _ ?_
    have hH3 : (fun ws => (Below wA.heap.size wA ws ∧ ws.cell? ⟨w9.heap.size, 0, none⟩ = some (.int .i64 0) ∧ ws.cell? ⟨w9.heap.size, 1, none⟩ = some (.int .i64 0) ∧ ws.cell? ⟨w9.heap.size, 2, none⟩ = some (.slice none 0 0)) ∧ (convert 32 9 (.slice AC (replyb 21 0 []).length cC)).run Tryd.prog ws = .ok (.string (str (replyb 21 0 []))) ws) wC := ⟨SQ.out _ DC.out, cvC _ LC.out⟩
    refine wpAnyH_take (i := 5) (v := ?_) rfl (by kernel_rfl) (by kernel_rfl) (by kernel_rfl) (fun _ _ _ h => h) (Or.inl ⟨by rfl, ?_⟩) (by assumption) ?_
    rotate_left
    · (intro w hSw; (try dsimp only at hSw); first | (go_simp; done) | (go_simp; with_reducible rfl))
    simp only [Act.put, List.getElem_toArray, List.getElem_cons_zero, List.getElem_cons_succ, List.setIfInBounds_toArray, List.set_cons_zero, List.set_cons_succ]
    have RR := Lib.hid (rreply_any none 0 [] 21 0 wC (nums_nil _) (fun z h => by cases h) w21 w0 (by simp))
    unfold StrP at RR
    refine wpAnyH_ready (rs := [6]) (by kernel_rfl) (by simp) ?_
    refine AllReadyH.cons rfl (fun K hK => ?_) AllReadyH.nil
    go_simp
    go_wp2_with (go_at_call 17; refine RR.out.mono ?_; rintro e1 wD ⟨rfl, hb⟩)
    have DD := Lib.hid (up DC.out hb DC.out.size)
    refine hK.out _ _ ⟨SQ.out _ DD.out, cvC _ (LC.out.below hb)⟩ (fun hH4 => ?_)
    have LD := Lib.hid (LC.out.below hb)
    clear hK K hH2 hH3 hb RR
    refine wpAnyH_take (i := 7) (v := ?_) rfl (by kernel_rfl) (by kernel_rfl) (by kernel_rfl) (fun _ _ _ h => h) (Or.inl ⟨by rfl, ?_⟩) (by assumption) ?_
    rotate_left
    · (intro w hSw; (try dsimp only at hSw); first | (go_simp; done) | (go_simp; with_reducible rfl))
    simp only [Act.put, List.getElem_toArray, List.getElem_cons_zero, List.getElem_cons_succ, List.setIfInBounds_toArray, List.set_cons_zero, List.set_cons_succ]
    refine wpAnyH_take (i := 8) (v := ?_) rfl (by kernel_rfl) (by kernel_rfl) (by kernel_rfl) (fun _ _ _ h => h) (Or.inl ⟨by rfl, ?_⟩) (by assumption) ?_
    rotate_left
    · (intro w hSw; (try dsimp only at hSw); first | (go_simp; done) | (go_simp; with_reducible rfl))
    simp only [Act.put, List.getElem_toArray, List.getElem_cons_zero, List.getElem_cons_succ, List.setIfInBounds_toArray, List.set_cons_zero, List.set_cons_succ]
    refine wpAnyH_take (i := 9) (v := ?_) rfl (by kernel_rfl) (by kernel_rfl) (by kernel_rfl) (fun _ _ _ h => h) (Or.inl ⟨by rfl, ?_⟩) (by assumption) ?_
    rotate_left
    · (intro w hSw; (try dsimp only at hSw); first | (go_simp; done) | (go_simp; with_reducible rfl))
    simp only [Act.put, List.getElem_toArray, List.getElem_cons_zero, List.getElem_cons_succ, List.setIfInBounds_toArray, List.set_cons_zero, List.set_cons_succ]
    have BD2 := Lib.hid (up B10.out DD.out B10.out.size)
    have AW := Lib.hid (awake_any wD (TW.out.keep BD2.out))
    unfold BoolP at AW
    refine wpAnyH_ready (rs := [10]) (by kernel_rfl) (by simp) ?_
    refine AllReadyH.cons rfl (fun K hK => ?_) AllReadyH.nil
    go_simp
    go_wp2_with (go_at_call 8; refine AW.out.mono ?_; rintro e1 wE ⟨rfl, hb⟩)
    have DE := Lib.hid (up DD.out hb DD.out.size)
    refine hK.out _ _ ⟨SQ.out _ DE.out, cvC _ (LD.out.below hb)⟩ (fun hH5 => ?_)
    clear hK K hH4 hb AW
    refine wpAnyH_take (i := 11) (v := ?_) rfl (by kernel_rfl) (by kernel_rfl) (by kernel_rfl) (fun _ _ _ h => h) (Or.inl ⟨by rfl, ?_⟩) (by assumption) ?_
    rotate_left
    · (intro w hSw; (try dsimp only at hSw); first | (go_simp; done) | (go_simp; with_reducible rfl))
    simp only [Act.put, List.getElem_toArray, List.getElem_cons_zero, List.getElem_cons_succ, List.setIfInBounds_toArray, List.set_cons_zero, List.set_cons_succ]
    refine wpAnyH_take (i := 12) (v := ?_) rfl (by kernel_rfl) (by kernel_rfl) (by kernel_rfl) (fun _ _ _ h => h) (Or.inl ⟨by rfl, ?_⟩) (by assumption) ?_
    rotate_left
    · (intro w hSw; (try dsimp only at hSw); first | (go_simp; done) | (go_simp; with_reducible rfl))
    simp only [Act.put, List.getElem_toArray, List.getElem_cons_zero, List.getElem_cons_succ, List.setIfInBounds_toArray, List.set_cons_zero, List.set_cons_succ]
    refine wpAnyH_done (by kernel_rfl) ?_ _
    clear hH5
    go_wp2_with fail
    go_ret
    exact ⟨rfl, up B10.out DE.out B10.out.size⟩
  · obtain ⟨f1, f2, f3, f4, f5⟩ := reply_parse SB.out h9
    have M10 := Lib.hid (made w9 (.cells #[.int .i64 E', .int .i64 n', .slice A' zs'.length c'] 44))
    have BQ := Lib.hid (Blk.new w9 44 #[.int .i64 E', .int .i64 n', .slice A' zs'.length c'])
    have N10 := Lib.hid (base.Nums.keep hn9 M10.out)
    have F1 := Lib.hid f1
    have F2 := Lib.hid (And.intro f2 (And.intro f3 (And.intro f4 f5)))
    clear hb9 PB h9 hn9 f1 f2 f3 f4 f5
    go_upto_region 10 with fail
    have B10 := Lib.hid (show Below w.heap.size w (w9.alloc (.cells #[.int .i64 E', .int .i64 n', .slice A' zs'.length c'] 44)).drew from base.below_drewN (up B9.out M10.out B9.out.size) 1)
    have BD := Lib.hid (show Blk (w9.alloc (.cells #[.int .i64 E', .int .i64 n', .slice A' zs'.length c'] 44)).drew w9.heap.size 44 #[.int .i64 E', .int .i64 n', .slice A' zs'.length c'] from BQ.out.drewN 1)
    have ND := Lib.hid (show Nums .i64 (w9.alloc (.cells #[.int .i64 E', .int .i64 n', .slice A' zs'.length c'] 44)).drew A' zs' from N10.out)
    generalize hwA : (w9.alloc (.cells #[.int .i64 E', .int .i64 n', .slice A' zs'.length c'] 44)).drew = wA at *
    have SQ := Lib.hid (fun ws (h : Below wA.heap.size wA ws) => (show ((convert 32 9 (.slice B lb.length cb)).run Tryd.prog ws = .ok (.string (str lb)) ws ∧ ws.cell? ⟨w9.heap.size, 0, none⟩ = some (.int .i64 E') ∧ ws.cell? ⟨w9.heap.size, 1, none⟩ = some (.int .i64 n') ∧ ws.cell? ⟨w9.heap.size, 2, none⟩ = some (.slice A' zs'.length c')) from ⟨conv_any ws B cb lb (LB.out.below (up B10.out h B10.out.size)) SB.out, (BD.out.below h BD.out.lt).cell 0, (BD.out.below h BD.out.lt).cell 1, (BD.out.below h BD.out.lt).cell 2⟩))
    refine wp_region_held_drew (S := fun ws => (convert 32 9 (.slice B lb.length cb)).run Tryd.prog ws = .ok (.string (str lb)) ws ∧ ws.cell? ⟨w9.heap.size, 0, none⟩ = some (.int .i64 E') ∧ ws.cell? ⟨w9.heap.size, 1, none⟩ = some (.int .i64 n') ∧ ws.cell? ⟨w9.heap.size, 2, none⟩ = some (.slice A' zs'.length c')) (by kernel_rfl) (by rw [hwA]; exact SQ.out _ (Below.refl _ _)) (fun hHeld => ?_)
    rw [hwA] at hHeld
    rw [hwA]
    clear hwA
    refine wpAnyH_take (i := 0) (v := ?_) rfl (by kernel_rfl) (by kernel_rfl) (by kernel_rfl) (fun _ _ _ h => h) (Or.inl ⟨by rfl, ?_⟩) (by assumption) ?_
    rotate_left
    · (intro w hSw; (try dsimp only at hSw); first | (go_simp; done) | (go_simp; with_reducible rfl))
    simp only [Act.put, List.getElem_toArray, List.getElem_cons_zero, List.getElem_cons_succ, List.setIfInBounds_toArray, List.set_cons_zero, List.set_cons_succ]
    refine wpAnyH_take (i := 1) (v := ?_) rfl (by kernel_rfl) (by kernel_rfl) (by kernel_rfl) (fun _ _ _ h => h) (Or.inl ⟨by rfl, ?_⟩) (by assumption) ?_
    rotate_left
    · (intro w hSw; (try dsimp only at hSw); first | (go_simp; done) | (go_simp; with_reducible rfl))
    simp only [Act.put, List.getElem_toArray, List.getElem_cons_zero, List.getElem_cons_succ, List.setIfInBounds_toArray, List.set_cons_zero, List.set_cons_succ]
    refine wpAnyH_take (i := 2) (v := ?_) rfl (by kernel_rfl) (by kernel_rfl) (by kernel_rfl) (fun _ _ _ h => h) (Or.inl ⟨by rfl, ?_⟩) (by assumption) ?_
    rotate_left
    · (intro w hSw; (try dsimp only at hSw); first | (go_simp; done) | (go_simp; with_reducible rfl))
    simp only [Act.put, List.getElem_toArray, List.getElem_cons_zero, List.getElem_cons_succ, List.setIfInBounds_toArray, List.set_cons_zero, List.set_cons_succ]
    refine wpAnyH_take (i := 3) (v := ?_) rfl (by kernel_rfl) (by kernel_rfl) (by kernel_rfl) (fun _ _ _ h => h) (Or.inl ⟨by rfl, ?_⟩) (by assumption) ?_
    rotate_left
    · (intro w hSw; (try dsimp only at hSw); first | (go_simp; done) | (go_simp; with_reducible rfl))
    simp only [Act.put, List.getElem_toArray, List.getElem_cons_zero, List.getElem_cons_succ, List.setIfInBounds_toArray, List.set_cons_zero, List.set_cons_succ]
    refine wpAnyH_take (i := 4) (v := ?_) rfl (by kernel_rfl) (by kernel_rfl) (by kernel_rfl) (fun _ _ _ h => h) (Or.inl ⟨by rfl, ?_⟩) (by assumption) ?_
    rotate_left
    · (intro w hSw; (try dsimp only at hSw); first | (go_simp; done) | (go_simp; with_reducible rfl))
    simp only [Act.put, List.getElem_toArray, List.getElem_cons_zero, List.getElem_cons_succ, List.setIfInBounds_toArray, List.set_cons_zero, List.set_cons_succ]
    refine wpAnyH_take (i := 5) (v := ?_) rfl (by kernel_rfl) (by kernel_rfl) (by kernel_rfl) (fun _ _ _ h => h) (Or.inl ⟨by rfl, ?_⟩) (by assumption) ?_
    rotate_left
    · (intro w hSw; (try dsimp only at hSw); first | (go_simp; done) | (go_simp; with_reducible rfl))
    simp only [Act.put, List.getElem_toArray, List.getElem_cons_zero, List.getElem_cons_succ, List.setIfInBounds_toArray, List.set_cons_zero, List.set_cons_succ]
    refine wpAnyH_take (i := 7) (v := ?_) rfl (by kernel_rfl) (by kernel_rfl) (by kernel_rfl) (fun _ _ _ h => h) (Or.inl ⟨by rfl, ?_⟩) (by assumption) ?_
    rotate_left
    · (intro w hSw; (try dsimp only at hSw); first | (go_simp; done) | (go_simp; with_reducible rfl))
    simp only [Act.put, List.getElem_toArray, List.getElem_cons_zero, List.getElem_cons_succ, List.setIfInBounds_toArray, List.set_cons_zero, List.set_cons_succ]
    refine wpAnyH_take (i := 8) (v := ?_) rfl (by kernel_rfl) (by kernel_rfl) (by kernel_rfl) (fun _ _ _ h => h) (Or.inl ⟨by rfl, ?_⟩) (by assumption) ?_
    rotate_left
    · (intro w hSw; (try dsimp only at hSw); first | (go_simp; done) | (go_simp; with_reducible rfl))
    simp only [Act.put, List.getElem_toArray, List.getElem_cons_zero, List.getElem_cons_succ, List.setIfInBounds_toArray, List.set_cons_zero, List.set_cons_succ]
    have RR := Lib.hid (rreply_any A' c' zs' E' n' wA ND.out F2.out.2.2.1 F2.out.1 F2.out.2.1 (by have := F2.out.2.2.2; omega))
    rw [F1.out] at RR
    unfold StrP at RR
    refine wpAnyH_ready (rs := [6]) (by kernel_rfl) (by simp) ?_
    refine AllReadyH.cons rfl (fun K hK => ?_) AllReadyH.nil
    go_simp
    go_wp2_with (go_at_call 17; refine RR.out.mono ?_; rintro e1 wB ⟨rfl, hb⟩)
    have DB := Lib.hid hb
    refine hK.out _ _ (SQ.out _ DB.out) (fun hH1 => ?_)
    clear hK K hHeld hb RR
    refine wpAnyH_take (i := 9) (v := ?_) rfl (by kernel_rfl) (by kernel_rfl) (by kernel_rfl) (fun _ _ _ h => h) (Or.inl ⟨by rfl, ?_⟩) (by assumption) ?_
    rotate_left
    · (intro w hSw; (try dsimp only at hSw); first | (go_simp; done) | (go_simp; with_reducible rfl))
    simp only [Act.put, List.getElem_toArray, List.getElem_cons_zero, List.getElem_cons_succ, List.setIfInBounds_toArray, List.set_cons_zero, List.set_cons_succ]
    refine wpAnyH_take (i := 10) (v := ?_) rfl (by kernel_rfl) (by kernel_rfl) (by kernel_rfl) (fun _ _ _ h => h) (Or.inl ⟨by rfl, ?_⟩) (by assumption) ?_
    rotate_left
    · (intro w hSw; (try dsimp only at hSw); first | (go_simp; done) | (go_simp; with_reducible rfl))
    simp only [Act.put, List.getElem_toArray, List.getElem_cons_zero, List.getElem_cons_succ, List.setIfInBounds_toArray, List.set_cons_zero, List.set_cons_succ]
    have BB2 := Lib.hid (up B10.out DB.out B10.out.size)
    have AW := Lib.hid (awake_any wB (TW.out.keep BB2.out))
    unfold BoolP at AW
    refine wpAnyH_ready (rs := [11]) (by kernel_rfl) (by simp) ?_
    refine AllReadyH.cons rfl (fun K hK => ?_) AllReadyH.nil
    go_simp
    go_wp2_with (go_at_call 8; refine AW.out.mono ?_; rintro e1 wC ⟨rfl, hb⟩)
    have DC := Lib.hid (up DB.out hb DB.out.size)
    refine hK.out _ _ (SQ.out _ DC.out) (fun hH2 => ?_)
    clear hK K hH1 hb AW
    refine wpAnyH_take (i := 12) (v := ?_) rfl (by kernel_rfl) (by kernel_rfl) (by kernel_rfl) (fun _ _ _ h => h) (Or.inl ⟨by rfl, ?_⟩) (by assumption) ?_
    rotate_left
    · (intro w hSw; (try dsimp only at hSw); first | (go_simp; done) | (go_simp; with_reducible rfl))
    simp only [Act.put, List.getElem_toArray, List.getElem_cons_zero, List.getElem_cons_succ, List.setIfInBounds_toArray, List.set_cons_zero, List.set_cons_succ]
    refine wpAnyH_take (i := 13) (v := ?_) rfl (by kernel_rfl) (by kernel_rfl) (by kernel_rfl) (fun _ _ _ h => h) (Or.inl ⟨by rfl, ?_⟩) (by assumption) ?_
    rotate_left
    · (intro w hSw; (try dsimp only at hSw); first | (go_simp; done) | (go_simp; with_reducible rfl))
    simp only [Act.put, List.getElem_toArray, List.getElem_cons_zero, List.getElem_cons_succ, List.setIfInBounds_toArray, List.set_cons_zero, List.set_cons_succ]
    refine wpAnyH_done (by kernel_rfl) ?_ _
    clear hH2
    go_wp2_with fail
    go_ret
    exact ⟨rfl, up B10.out DC.out B10.out.size⟩
theorem wf_u8 {a : Int} (h : (Lit.int .u8 a).wf = true) : 0 ≤ a ∧ a < 256 := by
  simp [Lit.wf, IntKind.min, IntKind.max, IntKind.signed, IntKind.bits] at h
  omega
theorem walk (w : World) (hT : Tab w) (e n : Int) (A : Option Addr) (c : Nat) (zs : List Int) (he : W64 e) (hn : W64 n) (hN : Nums .i64 w A zs) (hz : ∀ z ∈ zs, I64 z) (hc : zs.length ≤ c) (hm : c ≤ maxLen)
    (B : Option Addr) (cb : Nat) (l : List Int) (hL : Nums .u8 w B l) (hl : l.length ≤ cb) (hcb : cb ≤ maxLen) (hw : ∀ n ∈ l, (Lit.int .u8 n).wf = true) :
    Calls Tryd.prog 6 #[.agg #[.int .i64 e, .int .i64 n, .slice A zs.length c], .slice B l.length cb] w fun e w' => e = .returned (.bool true) ∧ Below w.heap.size w w' := by
  obtain ⟨lb, rfl, hs⟩ : ∃ lb : List Nat, l = bytes.ints lb ∧ Small lb := by
    refine ⟨l.map Int.toNat, ?_, fun x hx => ?_⟩
    · unfold bytes.ints
      rw [List.map_map]
      conv => lhs; rw [← List.map_id l]
      apply List.map_congr_left
      intro z hz
      have := wf_u8 (hw z hz)
      simp
      omega
    · obtain ⟨z, hz, rfl⟩ := List.mem_map.1 hx
      have := wf_u8 (hw z hz)
      omega
  have hlen : (bytes.ints lb).length = lb.length := by simp [bytes.ints]
  rw [hlen]
  by_cases h1 : 100 < zs.length
  · exact walk_big w hT e n A c zs B cb lb h1
  by_cases h2 : 500 < lb.length
  · exact walk_long w hT e n A c zs B cb lb h1 h2
  exact walk_main w hT e n A c zs B cb lb he hn hN hz hL hs (by omega) (by omega)

theorem contract (H : Type) (enc : TypeId × Value → H) (W : World) (bs : Nat) (args : Array Value) (ds gs : List (DataW H)) (before : List MemPlace)
    (hval : ∀ (j : Nat) t v, Tryd.f6.params[j]? = some t → args[j]? = some v → Value.okWide Tryd.prog W .any bs t v)
    (hW : DataW.Whole enc Tryd.prog Tryd.f6.params.toList Rows.orderRepliesSpec.vars false W args.toList ds gs before) (hL : laidMetH Tryd.prog Rows.orderRepliesRow.laid W) :
    Calls Tryd.prog 6 args W fun e W' => ∃ v, e = .returned v ∧ Rows.orderRepliesSpec.post enc Tryd.prog Tryd.f6 false true false false W args v W' := by
  have hW' := hW
  obtain ⟨p, q, hA0, hV, rfl, _, _⟩ := hW
  have hA : DataW.TrodAll enc Tryd.prog W 0 (fun _ => true) true Tryd.f6.params.toList args.toList ds p := hA0
  rw [Tryd.params6] at hA hval
  obtain ⟨v0, vs0, d0, ds0, p0, q0, hargs, rfl, rfl, h0, r0⟩ := trodAll_cons hA
  obtain ⟨v1, vs1, d1, ds1, p1, q1, rfl, rfl, rfl, h1, r1⟩ := trodAll_cons r0
  obtain ⟨rfl, rfl, rfl⟩ := trodAll_nil r1
  obtain rfl : args = #[v0, v1] := by cases args; simp_all
  obtain ⟨rfl, rfl⟩ := trodVars_none hV
  obtain ⟨e0, n0, A0, c0, zs0, rfl, he0, hn0, hN0, hz0, hc0, hm0⟩ := od.open_reply (hval 0 44 v0 rfl rfl) h0
  obtain ⟨A1, c1, l1, rfl, b1, m1, n1, w1⟩ := base.open_nums Tryd.underlying32 Tryd.underlying5 (by kernel_rfl) (hval 1 32 v1 rfl rfl) h1
  clear hA0
  refine (walk W (tableOf hL) e0 n0 A0 c0 zs0 he0 hn0 hN0 hz0 hc0 hm0 A1 c1 l1 n1 b1 m1 w1).mono fun e W' ⟨he, hb⟩ => ?_
  subst he
  exact ⟨_, rfl, base.law_post base.laid (by kernel_rfl) rfl rfl Tryd.underlying4 hW' rfl rfl rfl hb⟩

noncomputable def laidWorld (os : Os) : World :=
  { World.holding Tryd.prog os ⟨#[], #[], []⟩ with heap := (World.holding Tryd.prog os ⟨#[], #[], []⟩).heap.modify 0 fun
      | .cells _ t frozen => .cells #[.string ⟨#[]⟩, .string ⟨#[84]⟩, .string ⟨#[65, 66]⟩, .string ⟨#[65, 66]⟩, .string ⟨#[65, 66, 67, 68]⟩, .string ⟨#[65]⟩, .string ⟨#[65, 66]⟩, .string ⟨#[65, 66, 67, 68]⟩, .string ⟨#[84]⟩, .string ⟨#[65]⟩, .string ⟨#[65, 66]⟩, .string ⟨#[65, 66, 67]⟩, .string ⟨#[65]⟩, .string ⟨#[65]⟩, .string ⟨#[65, 66, 67]⟩, .string ⟨#[65]⟩, .string ⟨#[65]⟩, .string ⟨#[65]⟩, .string ⟨#[65, 66]⟩, .string ⟨#[65, 66, 67]⟩, .string ⟨#[65, 66]⟩, .string ⟨#[65, 66]⟩, .string ⟨#[65, 66, 67, 68]⟩, .string ⟨#[65]⟩, .string ⟨#[]⟩, .string ⟨#[65]⟩, .string ⟨#[65, 66]⟩, .string ⟨#[]⟩] t frozen
      | o => o }
theorem laid_met (os : Os) : laidMet Tryd.prog Rows.orderRepliesRow.laid ((laidWorld os).forCall (fun _ _ => 0) ⟨#[], #[.agg #[.int .i64 0, .int .i64 0, .slice none 0 0], .slice none 0 0], []⟩).memory :=
  laidMet_of_run' 8 (by kernel_rfl) (by kernel_rfl)
theorem reads (os : Os) {H : Type} (enc : TypeId × Value → H) : ∃ places, DataW.whole enc Tryd.prog ((laidWorld os).forCall (fun _ _ => 0) ⟨#[], #[.agg #[.int .i64 0, .int .i64 0, .slice none 0 0], .slice none 0 0], []⟩).memory Tryd.f6.params.toList Rows.orderRepliesSpec.vars false (#[.agg #[.int .i64 0, .int .i64 0, .slice none 0 0], .slice none 0 0] : Array Value).toList 8 = some ([.agg [.lit (.int .i64 0), .lit (.int .i64 0), .nil], .nil], [], places) :=
  ⟨[], by kernel_rfl⟩

set_option maxRecDepth 100000 in
theorem lifted (os : Os) (started : os.Started) (H : Type) (enc : TypeId × Value → H) (F : Stop.Interp) :
    ReturnsInHanded {} Tryd.checked os 6 .any ((OpenSpec.ofChange Rows.orderRepliesSpec).preRow enc Tryd.prog Tryd.f6 Rows.orderRepliesRow.domain false Rows.orderRepliesRow.laid) (((OpenSpec.ofChange Rows.orderRepliesSpec).at F).post enc Tryd.prog Tryd.f6 false true false false) := by
  obtain ⟨places, hx⟩ := reads os enc
  refine returnsInHanded_of_row (C := Tryd.checked) (s := OpenSpec.ofChange Rows.orderRepliesSpec) base.own started (by kernel_rfl) Tryd.func6
    (witness_row_at (enc := enc) (C := Tryd.checked) false (laidWorld os) #[.agg #[.int .i64 0, .int .i64 0, .slice none 0 0], .slice none 0 0] rfl (by kernel_rfl) (by kernel_rfl) (by kernel_rfl)
      (OpenSpec.preRow_of_cond 8 hx (by kernel_rfl) (fun k hk => by cases hk) (by kernel_rfl) (laid_met os))) ?_
  intro W bs args ds gs before hval hW _ _ _ hL _ _
  exact contract H enc W bs args ds gs before hval hW hL

theorem said : Rows.OrderRepliesSaid :=
  OpenClaim.holds_of_cond 6 Tryd.f6 rfl rfl rfl rfl rfl rfl rfl ⟨rfl, rfl, rfl, rfl, rfl⟩ rfl rfl rfl rfl rfl (by kernel_rfl) Tryd.func6 (by kernel_rfl)
    (of_decide_eq_true (by kernel_rfl)) (by unfold Func.isWrapper; first | (rw [if_pos (by decide +kernel)]; kernel_rfl) | (rw [if_neg (by decide +kernel)]; exact ⟨rfl, rfl⟩))
    (fun os started H enc _ F => by rw [OpenClaim.pre_eq_preRow]; exact lifted os started H enc F)

theorem plain (f : FuncId) (fn : Func) (hf : Tryd.pinned.checked.prog.funcNamed "deedhold/deedholdlaw27.OrderReplies" = some f) (hfn : Tryd.pinned.checked.prog.funcs[f]? = some fn) :
    false = Tryd.pinned.checked.prog.looks [] ∧ ∀ (j : Nat) t, fn.params[j]? = some t → Tryd.pinned.checked.prog.wantsStandIn t = false := by
  obtain rfl : f = 6 := Option.some.inj ((show Tryd.prog.funcNamed "deedhold/deedholdlaw27.OrderReplies" = some 6 by kernel_rfl).symm.trans hf) |>.symm
  obtain rfl : fn = Tryd.f6 := (Option.some.inj (Tryd.func6.symm.trans hfn)).symm
  refine ⟨by kernel_rfl, fun j t ht => ?_⟩
  rw [Tryd.params6] at ht
  have ht2 : t = 44 ∨ t = 32 := by simpa using Array.mem_of_getElem? ht
  rcases ht2 with rfl | rfl
  all_goals first | exact (show Tryd.prog.wantsStandIn _ = false by kernel_rfl)

theorem card : Rows.OrderRepliesCardSaid :=
  Claim7.holds_tied_plain_at .later [] _ _ _ _ said (fun _ h => by cases h) (by kernel_rfl) (fun _ h => by cases h) orderReplies_row_tie rfl ⟨rfl, rfl⟩ (by kernel_rfl) rfl plain (by kernel_rfl)
#print axioms card
end Go.Proofs.YtndhammngejdiaaDoor.orderReplies
