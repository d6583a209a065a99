/-
  The law's told: a number, a text, a flag, where all is well.
-/
import Derived.Test.YtjbbphdjemdinaaVtE
namespace Go.Proofs.Ytjbbphdjemdinaa.vi
open Go.RowKit
open base (ret_bool ret_int made up Nums Only Blk)
open bytes vnum
set_option linter.unusedVariables false
set_option linter.unusedSimpArgs false
variable {w : World}
/-- what is told is as it was put; the rest is left -/
def ToldP (g : Nat) (r : List Nat) (w : World) (e : Ending) (w' : World) : Prop := e = .returned (.bool true) ∧ Only (fun k => k = g) w w' ∧ ∃ A c, InAt w' g A r c false
theorem only_made (g : Nat) (w : World) (o : Obj) : Only (fun k => k = g) w (w.alloc o) := (Only.refl _ w).alloc o
theorem str_bs (s : ByteArray) : str (bs s) = s := by
  unfold str bs
  rw [List.map_map]
  have e : (UInt8.ofNat ∘ UInt8.toNat) = id := by funext x; simp
  rw [e, List.map_id]
theorem cnt_text (s : ByteArray) (r : List Nat) (hs : s.size ≤ 300) : cnt 1000 (enc (s.size : Int) ++ (bs s ++ r)) = some (s.size, bs s ++ r) := by
  unfold cnt
  rw [dec_enc _ (by omega) (by omega)]
  simp only [List.drop_left]
  rw [if_pos ⟨by omega, by omega, by rw [List.length_append, bs_len]; omega⟩]
  simp
set_option maxRecDepth 100000 in
set_option maxHeartbeats 600000 in
theorem told_0 (g : Nat) (A : Option Addr) (c : Nat) (r : List Nat) (t : Th) (h : InAt w g A (enc t.n ++ r) c false) (hl : (enc t.n ++ r).length ≤ 1000000) (hn : -9223372036854775808 ≤ t.n ∧ t.n ≤ 9223372036854775807) :
    Calls Try.prog 24 #[.pointer (some ⟨g, 0, none⟩), .agg #[.int .i64 0, .int .i64 t.n, .string t.s, .bool t.f, .slice t.A t.zs.length t.c]] w (ToldP g r w) := by
  have M1 := Lib.hid (made w (.cells #[.int .i64 0, .int .i64 t.n, .string t.s, .bool t.f, .slice t.A t.zs.length t.c] 44))
  have BX := Lib.hid (Blk.new w 44 #[.int .i64 0, .int .i64 t.n, .string t.s, .bool t.f, .slice t.A t.zs.length t.c])
  have O1 := Lib.hid (only_made g w (.cells #[.int .i64 0, .int .i64 t.n, .string t.s, .bool t.f, .slice t.A t.zs.length t.c] 44))
  have HG := Lib.hid (show g < w.heap.size from h.blk.lt)
  have H1 := Lib.hid (h.below M1.out)
  clear h
  go_enter Try.func24, Try.ntmps24
  go_upto_region 3 with fail
  have BW := Lib.hid (show Blk (w.alloc (.cells #[.int .i64 0, .int .i64 t.n, .string t.s, .bool t.f, .slice t.A t.zs.length t.c] 44)).drew w.heap.size 44 #[.int .i64 0, .int .i64 t.n, .string t.s, .bool t.f, .slice t.A t.zs.length t.c] from BX.out.drewN 1)
  have HW := Lib.hid (H1.out.below (Below.refl _ _).drew)
  have OW := Lib.hid (show Only (fun k => k = g) w (w.alloc (.cells #[.int .i64 0, .int .i64 t.n, .string t.s, .bool t.f, .slice t.A t.zs.length t.c] 44)).drew from O1.out.drewN 1)
  have SZ := Lib.hid (show w.heap.size < (w.alloc (.cells #[.int .i64 0, .int .i64 t.n, .string t.s, .bool t.f, .slice t.A t.zs.length t.c] 44)).drew.heap.size from BW.out.lt)
  generalize w.alloc (.cells #[.int .i64 0, .int .i64 t.n, .string t.s, .bool t.f, .slice t.A t.zs.length t.c] 44) = w1 at *
  have CAL := Lib.hid (show Calls Try.prog 13 #[.pointer (some ⟨g, 0, none⟩)] w1.drew (fun e w' => e = .returned (.int .i64 t.n) ∧ Only (fun k => k = g) w1.drew w' ∧ ∃ A c, InAt w' g A r c false) from by
    refine (iint_yes g A (enc t.n ++ r) c false t.n _ _ HW.out (dec_enc r hn.1 hn.2) (by omega)).mono ?_
    rintro e w' ⟨h1, h2, h3⟩
    rw [List.drop_left] at h3
    exact ⟨h1, h2, h3⟩)
  have KS := Lib.hid (fun ws (h : Only (fun k => k = g) w1.drew ws) => (show ws.cell? ⟨w.heap.size, 1, none⟩ = some (.int .i64 t.n) from (show Blk ws w.heap.size 44 #[.int .i64 0, .int .i64 t.n, .string t.s, .bool t.f, .slice t.A t.zs.length t.c] from (h.block w.heap.size SZ.out (by have := HG.out; omega)).trans BW.out).cell 1))
  refine wp_region_held_drew (S := fun ws => ws.cell? ⟨w.heap.size, 1, none⟩ = some (.int .i64 t.n)) (by kernel_rfl) (KS.out _ (Only.refl _ _)) (fun hHeld => ?_)
  generalize w1.drew = w2 at *
  refine wpAnyH_take (i := 0) (v := ?_) rfl (by kernel_rfl) (by kernel_rfl) (by kernel_rfl) (fun _ _ _ h => h) (Or.inl ⟨by rfl, ?_⟩) (by assumption) ?_
  rotate_left
  · (intro w hSw; (try dsimp only at hSw); first | (go_simp; done) | (go_simp; with_reducible rfl))
  simp only [Act.put, List.getElem_toArray, List.getElem_cons_zero, List.getElem_cons_succ, List.setIfInBounds_toArray, List.set_cons_zero, List.set_cons_succ]
  refine wpAnyH_take (i := 2) (v := ?_) rfl (by kernel_rfl) (by kernel_rfl) (by kernel_rfl) (fun _ _ _ h => h) (Or.inl ⟨by rfl, ?_⟩) (by assumption) ?_
  rotate_left
  · (intro w hSw; (try dsimp only at hSw); first | (go_simp; done) | (go_simp; with_reducible rfl))
  simp only [Act.put, List.getElem_toArray, List.getElem_cons_zero, List.getElem_cons_succ, List.setIfInBounds_toArray, List.set_cons_zero, List.set_cons_succ]
  refine wpAnyH_take (i := 3) (v := ?_) rfl (by kernel_rfl) (by kernel_rfl) (by kernel_rfl) (fun _ _ _ h => h) (Or.inl ⟨by rfl, ?_⟩) (by assumption) ?_
  rotate_left
  · (intro w hSw; (try dsimp only at hSw); first | (go_simp; done) | (go_simp; with_reducible rfl))
  simp only [Act.put, List.getElem_toArray, List.getElem_cons_zero, List.getElem_cons_succ, List.setIfInBounds_toArray, List.set_cons_zero, List.set_cons_succ]
  refine wpAnyH_ready (rs := [1]) (by kernel_rfl) (by simp) ?_
  refine AllReadyH.cons rfl (fun K hK => ?_) AllReadyH.nil
  go_simp
  go_wp2_with (go_at_call 13; refine CAL.out.mono ?_; rintro e w3 ⟨rfl, h3, h4⟩)
  have E3 := Lib.hid (And.intro h3 h4)
  refine hK.out _ _ (KS.out _ h3) (fun hH1 => ?_)
  clear hK K hHeld h3 h4
  refine wpAnyH_take (i := 4) (v := ?_) rfl (by kernel_rfl) (by kernel_rfl) (by kernel_rfl) (fun _ _ _ h => h) (Or.inl ⟨by rfl, ?_⟩) (by assumption) ?_
  rotate_left
  · (intro w hSw; (try dsimp only at hSw); first | (go_simp; done) | (go_simp; with_reducible rfl))
  simp only [Act.put, List.getElem_toArray, List.getElem_cons_zero, List.getElem_cons_succ, List.setIfInBounds_toArray, List.set_cons_zero, List.set_cons_succ]
  refine wpAnyH_take (i := 5) (v := ?_) rfl (by kernel_rfl) (by kernel_rfl) (by kernel_rfl) (fun _ _ _ h => h) (Or.inl ⟨by rfl, ?_⟩) (by assumption) ?_
  rotate_left
  · (intro w hSw; (try dsimp only at hSw); first | (go_simp; done) | (go_simp; with_reducible rfl))
  simp only [Act.put, List.getElem_toArray, List.getElem_cons_zero, List.getElem_cons_succ, List.setIfInBounds_toArray, List.set_cons_zero, List.set_cons_succ]
  refine wpAnyH_done (by kernel_rfl) ?_ _
  clear hH1
  go_wp2_with fail
  go_ret
  exact ⟨rfl, OW.out.trans E3.out.1 (fun _ _ e => e), E3.out.2⟩
set_option maxRecDepth 100000 in
set_option maxHeartbeats 600000 in
theorem told_1 (g : Nat) (A : Option Addr) (c : Nat) (r : List Nat) (t : Th) (h : InAt w g A (enc (t.s.size : Int) ++ (bs t.s ++ r)) c false) (hl : (enc (t.s.size : Int) ++ (bs t.s ++ r)).length ≤ 1000000) (hs : t.s.size ≤ 300) :
    Calls Try.prog 24 #[.pointer (some ⟨g, 0, none⟩), .agg #[.int .i64 1, .int .i64 t.n, .string t.s, .bool t.f, .slice t.A t.zs.length t.c]] w (ToldP g r w) := by
  have M1 := Lib.hid (made w (.cells #[.int .i64 1, .int .i64 t.n, .string t.s, .bool t.f, .slice t.A t.zs.length t.c] 44))
  have BX := Lib.hid (Blk.new w 44 #[.int .i64 1, .int .i64 t.n, .string t.s, .bool t.f, .slice t.A t.zs.length t.c])
  have O1 := Lib.hid (only_made g w (.cells #[.int .i64 1, .int .i64 t.n, .string t.s, .bool t.f, .slice t.A t.zs.length t.c] 44))
  have HG := Lib.hid (show g < w.heap.size from h.blk.lt)
  have H1 := Lib.hid (h.below M1.out)
  clear h
  go_enter Try.func24, Try.ntmps24
  go_upto_region 5 with fail
  have BW := Lib.hid (show Blk (w.alloc (.cells #[.int .i64 1, .int .i64 t.n, .string t.s, .bool t.f, .slice t.A t.zs.length t.c] 44)).drew w.heap.size 44 #[.int .i64 1, .int .i64 t.n, .string t.s, .bool t.f, .slice t.A t.zs.length t.c] from BX.out.drewN 1)
  have HW := Lib.hid (H1.out.below (Below.refl _ _).drew)
  have OW := Lib.hid (show Only (fun k => k = g) w (w.alloc (.cells #[.int .i64 1, .int .i64 t.n, .string t.s, .bool t.f, .slice t.A t.zs.length t.c] 44)).drew from O1.out.drewN 1)
  have SZ := Lib.hid (show w.heap.size < (w.alloc (.cells #[.int .i64 1, .int .i64 t.n, .string t.s, .bool t.f, .slice t.A t.zs.length t.c] 44)).drew.heap.size from BW.out.lt)
  generalize w.alloc (.cells #[.int .i64 1, .int .i64 t.n, .string t.s, .bool t.f, .slice t.A t.zs.length t.c] 44) = w1 at *
  have CAL := Lib.hid (show Calls Try.prog 19 #[.pointer (some ⟨g, 0, none⟩), .int .i64 1000] w1.drew (fun e w' => e = .returned (.string t.s) ∧ Only (fun k => k = g) w1.drew w' ∧ ∃ A c, InAt w' g A r c false) from by
    refine (text_yes g A _ c 1000 t.s.size (bs t.s ++ r) _ HW.out (cnt_text t.s r hs) (by omega)).mono ?_
    rintro e w' ⟨h1, h2, h3⟩
    rw [← bs_len, List.drop_left] at h3
    rw [← bs_len, List.take_left, str_bs] at h1
    exact ⟨h1, h2, h3⟩)
  have KS := Lib.hid (fun ws (h : Only (fun k => k = g) w1.drew ws) => (show ws.cell? ⟨w.heap.size, 2, none⟩ = some (.string t.s) from (show Blk ws w.heap.size 44 #[.int .i64 1, .int .i64 t.n, .string t.s, .bool t.f, .slice t.A t.zs.length t.c] from (h.block w.heap.size SZ.out (by have := HG.out; omega)).trans BW.out).cell 2))
  refine wp_region_held_drew (S := fun ws => ws.cell? ⟨w.heap.size, 2, none⟩ = some (.string t.s)) (by kernel_rfl) (KS.out _ (Only.refl _ _)) (fun hHeld => ?_)
  generalize w1.drew = w2 at *
  refine wpAnyH_take (i := 0) (v := ?_) rfl (by kernel_rfl) (by kernel_rfl) (by kernel_rfl) (fun _ _ _ h => h) (Or.inl ⟨by rfl, ?_⟩) (by assumption) ?_
  rotate_left
  · (intro w hSw; (try dsimp only at hSw); first | (go_simp; done) | (go_simp; with_reducible rfl))
  simp only [Act.put, List.getElem_toArray, List.getElem_cons_zero, List.getElem_cons_succ, List.setIfInBounds_toArray, List.set_cons_zero, List.set_cons_succ]
  refine wpAnyH_take (i := 2) (v := ?_) rfl (by kernel_rfl) (by kernel_rfl) (by kernel_rfl) (fun _ _ _ h => h) (Or.inl ⟨by rfl, ?_⟩) (by assumption) ?_
  rotate_left
  · (intro w hSw; (try dsimp only at hSw); first | (go_simp; done) | (go_simp; with_reducible rfl))
  simp only [Act.put, List.getElem_toArray, List.getElem_cons_zero, List.getElem_cons_succ, List.setIfInBounds_toArray, List.set_cons_zero, List.set_cons_succ]
  refine wpAnyH_take (i := 3) (v := ?_) rfl (by kernel_rfl) (by kernel_rfl) (by kernel_rfl) (fun _ _ _ h => h) (Or.inl ⟨by rfl, ?_⟩) (by assumption) ?_
  rotate_left
  · (intro w hSw; (try dsimp only at hSw); first | (go_simp; done) | (go_simp; with_reducible rfl))
  simp only [Act.put, List.getElem_toArray, List.getElem_cons_zero, List.getElem_cons_succ, List.setIfInBounds_toArray, List.set_cons_zero, List.set_cons_succ]
  refine wpAnyH_ready (rs := [1]) (by kernel_rfl) (by simp) ?_
  refine AllReadyH.cons rfl (fun K hK => ?_) AllReadyH.nil
  go_simp
  go_wp2_with (go_at_call 19; refine CAL.out.mono ?_; rintro e w3 ⟨rfl, h3, h4⟩)
  have E3 := Lib.hid (And.intro h3 h4)
  refine hK.out _ _ (KS.out _ h3) (fun hH1 => ?_)
  clear hK K hHeld h3 h4
  refine wpAnyH_take (i := 4) (v := ?_) rfl (by kernel_rfl) (by kernel_rfl) (by kernel_rfl) (fun _ _ _ h => h) (Or.inl ⟨by rfl, ?_⟩) (by assumption) ?_
  rotate_left
  · (intro w hSw; (try dsimp only at hSw); first | (go_simp; done) | (go_simp; with_reducible rfl))
  simp only [Act.put, List.getElem_toArray, List.getElem_cons_zero, List.getElem_cons_succ, List.setIfInBounds_toArray, List.set_cons_zero, List.set_cons_succ]
  refine wpAnyH_take (i := 5) (v := ?_) rfl (by kernel_rfl) (by kernel_rfl) (by kernel_rfl) (fun _ _ _ h => h) (Or.inl ⟨by rfl, ?_⟩) (by assumption) ?_
  rotate_left
  · (intro w hSw; (try dsimp only at hSw); first | (go_simp; done) | (go_simp; with_reducible rfl))
  simp only [Act.put, List.getElem_toArray, List.getElem_cons_zero, List.getElem_cons_succ, List.setIfInBounds_toArray, List.set_cons_zero, List.set_cons_succ]
  refine wpAnyH_done (by kernel_rfl) ?_ _
  clear hH1
  go_wp2_with fail
  go_ret
  exact ⟨rfl, OW.out.trans E3.out.1 (fun _ _ e => e), E3.out.2⟩
set_option maxRecDepth 100000 in
set_option maxHeartbeats 600000 in
theorem told_2t (g : Nat) (A : Option Addr) (c : Nat) (r : List Nat) (t : Th) (h : InAt w g A (1 :: r) c false) (hl : (1 :: r).length ≤ 1000000)  :
    Calls Try.prog 24 #[.pointer (some ⟨g, 0, none⟩), .agg #[.int .i64 2, .int .i64 t.n, .string t.s, .bool true, .slice t.A t.zs.length t.c]] w (ToldP g r w) := by
  have M1 := Lib.hid (made w (.cells #[.int .i64 2, .int .i64 t.n, .string t.s, .bool true, .slice t.A t.zs.length t.c] 44))
  have BX := Lib.hid (Blk.new w 44 #[.int .i64 2, .int .i64 t.n, .string t.s, .bool true, .slice t.A t.zs.length t.c])
  have O1 := Lib.hid (only_made g w (.cells #[.int .i64 2, .int .i64 t.n, .string t.s, .bool true, .slice t.A t.zs.length t.c] 44))
  have HG := Lib.hid (show g < w.heap.size from h.blk.lt)
  have H1 := Lib.hid (h.below M1.out)
  clear h
  go_enter Try.func24, Try.ntmps24
  go_upto_region 7 with fail
  have BW := Lib.hid (show Blk (w.alloc (.cells #[.int .i64 2, .int .i64 t.n, .string t.s, .bool true, .slice t.A t.zs.length t.c] 44)).drew w.heap.size 44 #[.int .i64 2, .int .i64 t.n, .string t.s, .bool true, .slice t.A t.zs.length t.c] from BX.out.drewN 1)
  have HW := Lib.hid (H1.out.below (Below.refl _ _).drew)
  have OW := Lib.hid (show Only (fun k => k = g) w (w.alloc (.cells #[.int .i64 2, .int .i64 t.n, .string t.s, .bool true, .slice t.A t.zs.length t.c] 44)).drew from O1.out.drewN 1)
  have SZ := Lib.hid (show w.heap.size < (w.alloc (.cells #[.int .i64 2, .int .i64 t.n, .string t.s, .bool true, .slice t.A t.zs.length t.c] 44)).drew.heap.size from BW.out.lt)
  generalize w.alloc (.cells #[.int .i64 2, .int .i64 t.n, .string t.s, .bool true, .slice t.A t.zs.length t.c] 44) = w1 at *
  have CAL := Lib.hid (show Calls Try.prog 18 #[.pointer (some ⟨g, 0, none⟩)] w1.drew (fun e w' => e = .returned (.bool true) ∧ Only (fun k => k = g) w1.drew w' ∧ ∃ A c, InAt w' g A r c false) from by
    exact bool_yes g A 1 r c _ HW.out (by omega))
  have KS := Lib.hid (fun ws (h : Only (fun k => k = g) w1.drew ws) => (show ws.cell? ⟨w.heap.size, 3, none⟩ = some (.bool true) from (show Blk ws w.heap.size 44 #[.int .i64 2, .int .i64 t.n, .string t.s, .bool true, .slice t.A t.zs.length t.c] from (h.block w.heap.size SZ.out (by have := HG.out; omega)).trans BW.out).cell 3))
  refine wp_region_held_drew (S := fun ws => ws.cell? ⟨w.heap.size, 3, none⟩ = some (.bool true)) (by kernel_rfl) (KS.out _ (Only.refl _ _)) (fun hHeld => ?_)
  generalize w1.drew = w2 at *
  refine wpAnyH_take (i := 0) (v := ?_) rfl (by kernel_rfl) (by kernel_rfl) (by kernel_rfl) (fun _ _ _ h => h) (Or.inl ⟨by rfl, ?_⟩) (by assumption) ?_
  rotate_left
  · (intro w hSw; (try dsimp only at hSw); first | (go_simp; done) | (go_simp; with_reducible rfl))
  simp only [Act.put, List.getElem_toArray, List.getElem_cons_zero, List.getElem_cons_succ, List.setIfInBounds_toArray, List.set_cons_zero, List.set_cons_succ]
  refine wpAnyH_take (i := 2) (v := ?_) rfl (by kernel_rfl) (by kernel_rfl) (by kernel_rfl) (fun _ _ _ h => h) (Or.inl ⟨by rfl, ?_⟩) (by assumption) ?_
  rotate_left
  · (intro w hSw; (try dsimp only at hSw); first | (go_simp; done) | (go_simp; with_reducible rfl))
  simp only [Act.put, List.getElem_toArray, List.getElem_cons_zero, List.getElem_cons_succ, List.setIfInBounds_toArray, List.set_cons_zero, List.set_cons_succ]
  refine wpAnyH_take (i := 3) (v := ?_) rfl (by kernel_rfl) (by kernel_rfl) (by kernel_rfl) (fun _ _ _ h => h) (Or.inl ⟨by rfl, ?_⟩) (by assumption) ?_
  rotate_left
  · (intro w hSw; (try dsimp only at hSw); first | (go_simp; done) | (go_simp; with_reducible rfl))
  simp only [Act.put, List.getElem_toArray, List.getElem_cons_zero, List.getElem_cons_succ, List.setIfInBounds_toArray, List.set_cons_zero, List.set_cons_succ]
  refine wpAnyH_ready (rs := [1]) (by kernel_rfl) (by simp) ?_
  refine AllReadyH.cons rfl (fun K hK => ?_) AllReadyH.nil
  go_simp
  go_wp2_with (go_at_call 18; refine CAL.out.mono ?_; rintro e w3 ⟨rfl, h3, h4⟩)
  have E3 := Lib.hid (And.intro h3 h4)
  refine hK.out _ _ (KS.out _ h3) (fun hH1 => ?_)
  clear hK K hHeld h3 h4
  refine wpAnyH_take (i := 4) (v := ?_) rfl (by kernel_rfl) (by kernel_rfl) (by kernel_rfl) (fun _ _ _ h => h) (Or.inl ⟨by rfl, ?_⟩) (by assumption) ?_
  rotate_left
  · (intro w hSw; (try dsimp only at hSw); first | (go_simp; done) | (go_simp; with_reducible rfl))
  simp only [Act.put, List.getElem_toArray, List.getElem_cons_zero, List.getElem_cons_succ, List.setIfInBounds_toArray, List.set_cons_zero, List.set_cons_succ]
  refine wpAnyH_take (i := 5) (v := ?_) rfl (by kernel_rfl) (by kernel_rfl) (by kernel_rfl) (fun _ _ _ h => h) (Or.inl ⟨by rfl, ?_⟩) (by assumption) ?_
  rotate_left
  · (intro w hSw; (try dsimp only at hSw); first | (go_simp; done) | (go_simp; with_reducible rfl))
  simp only [Act.put, List.getElem_toArray, List.getElem_cons_zero, List.getElem_cons_succ, List.setIfInBounds_toArray, List.set_cons_zero, List.set_cons_succ]
  refine wpAnyH_done (by kernel_rfl) ?_ _
  clear hH1
  go_wp2_with fail
  go_ret
  exact ⟨rfl, OW.out.trans E3.out.1 (fun _ _ e => e), E3.out.2⟩
set_option maxRecDepth 100000 in
set_option maxHeartbeats 600000 in
theorem told_2f (g : Nat) (A : Option Addr) (c : Nat) (r : List Nat) (t : Th) (h : InAt w g A (0 :: r) c false) (hl : (0 :: r).length ≤ 1000000)  :
    Calls Try.prog 24 #[.pointer (some ⟨g, 0, none⟩), .agg #[.int .i64 2, .int .i64 t.n, .string t.s, .bool false, .slice t.A t.zs.length t.c]] w (ToldP g r w) := by
  have M1 := Lib.hid (made w (.cells #[.int .i64 2, .int .i64 t.n, .string t.s, .bool false, .slice t.A t.zs.length t.c] 44))
  have BX := Lib.hid (Blk.new w 44 #[.int .i64 2, .int .i64 t.n, .string t.s, .bool false, .slice t.A t.zs.length t.c])
  have O1 := Lib.hid (only_made g w (.cells #[.int .i64 2, .int .i64 t.n, .string t.s, .bool false, .slice t.A t.zs.length t.c] 44))
  have HG := Lib.hid (show g < w.heap.size from h.blk.lt)
  have H1 := Lib.hid (h.below M1.out)
  clear h
  go_enter Try.func24, Try.ntmps24
  go_upto_region 7 with fail
  have BW := Lib.hid (show Blk (w.alloc (.cells #[.int .i64 2, .int .i64 t.n, .string t.s, .bool false, .slice t.A t.zs.length t.c] 44)).drew w.heap.size 44 #[.int .i64 2, .int .i64 t.n, .string t.s, .bool false, .slice t.A t.zs.length t.c] from BX.out.drewN 1)
  have HW := Lib.hid (H1.out.below (Below.refl _ _).drew)
  have OW := Lib.hid (show Only (fun k => k = g) w (w.alloc (.cells #[.int .i64 2, .int .i64 t.n, .string t.s, .bool false, .slice t.A t.zs.length t.c] 44)).drew from O1.out.drewN 1)
  have SZ := Lib.hid (show w.heap.size < (w.alloc (.cells #[.int .i64 2, .int .i64 t.n, .string t.s, .bool false, .slice t.A t.zs.length t.c] 44)).drew.heap.size from BW.out.lt)
  generalize w.alloc (.cells #[.int .i64 2, .int .i64 t.n, .string t.s, .bool false, .slice t.A t.zs.length t.c] 44) = w1 at *
  have CAL := Lib.hid (show Calls Try.prog 18 #[.pointer (some ⟨g, 0, none⟩)] w1.drew (fun e w' => e = .returned (.bool false) ∧ Only (fun k => k = g) w1.drew w' ∧ ∃ A c, InAt w' g A r c false) from by
    exact bool_yes g A 0 r c _ HW.out (by omega))
  have KS := Lib.hid (fun ws (h : Only (fun k => k = g) w1.drew ws) => (show ws.cell? ⟨w.heap.size, 3, none⟩ = some (.bool false) from (show Blk ws w.heap.size 44 #[.int .i64 2, .int .i64 t.n, .string t.s, .bool false, .slice t.A t.zs.length t.c] from (h.block w.heap.size SZ.out (by have := HG.out; omega)).trans BW.out).cell 3))
  refine wp_region_held_drew (S := fun ws => ws.cell? ⟨w.heap.size, 3, none⟩ = some (.bool false)) (by kernel_rfl) (KS.out _ (Only.refl _ _)) (fun hHeld => ?_)
  generalize w1.drew = w2 at *
  refine wpAnyH_take (i := 0) (v := ?_) rfl (by kernel_rfl) (by kernel_rfl) (by kernel_rfl) (fun _ _ _ h => h) (Or.inl ⟨by rfl, ?_⟩) (by assumption) ?_
  rotate_left
  · (intro w hSw; (try dsimp only at hSw); first | (go_simp; done) | (go_simp; with_reducible rfl))
  simp only [Act.put, List.getElem_toArray, List.getElem_cons_zero, List.getElem_cons_succ, List.setIfInBounds_toArray, List.set_cons_zero, List.set_cons_succ]
  refine wpAnyH_take (i := 2) (v := ?_) rfl (by kernel_rfl) (by kernel_rfl) (by kernel_rfl) (fun _ _ _ h => h) (Or.inl ⟨by rfl, ?_⟩) (by assumption) ?_
  rotate_left
  · (intro w hSw; (try dsimp only at hSw); first | (go_simp; done) | (go_simp; with_reducible rfl))
  simp only [Act.put, List.getElem_toArray, List.getElem_cons_zero, List.getElem_cons_succ, List.setIfInBounds_toArray, List.set_cons_zero, List.set_cons_succ]
  refine wpAnyH_take (i := 3) (v := ?_) rfl (by kernel_rfl) (by kernel_rfl) (by kernel_rfl) (fun _ _ _ h => h) (Or.inl ⟨by rfl, ?_⟩) (by assumption) ?_
  rotate_left
  · (intro w hSw; (try dsimp only at hSw); first | (go_simp; done) | (go_simp; with_reducible rfl))
  simp only [Act.put, List.getElem_toArray, List.getElem_cons_zero, List.getElem_cons_succ, List.setIfInBounds_toArray, List.set_cons_zero, List.set_cons_succ]
  refine wpAnyH_ready (rs := [1]) (by kernel_rfl) (by simp) ?_
  refine AllReadyH.cons rfl (fun K hK => ?_) AllReadyH.nil
  go_simp
  go_wp2_with (go_at_call 18; refine CAL.out.mono ?_; rintro e w3 ⟨rfl, h3, h4⟩)
  have E3 := Lib.hid (And.intro h3 h4)
  refine hK.out _ _ (KS.out _ h3) (fun hH1 => ?_)
  clear hK K hHeld h3 h4
  refine wpAnyH_take (i := 4) (v := ?_) rfl (by kernel_rfl) (by kernel_rfl) (by kernel_rfl) (fun _ _ _ h => h) (Or.inl ⟨by rfl, ?_⟩) (by assumption) ?_
  rotate_left
  · (intro w hSw; (try dsimp only at hSw); first | (go_simp; done) | (go_simp; with_reducible rfl))
  simp only [Act.put, List.getElem_toArray, List.getElem_cons_zero, List.getElem_cons_succ, List.setIfInBounds_toArray, List.set_cons_zero, List.set_cons_succ]
  refine wpAnyH_take (i := 5) (v := ?_) rfl (by kernel_rfl) (by kernel_rfl) (by kernel_rfl) (fun _ _ _ h => h) (Or.inl ⟨by rfl, ?_⟩) (by assumption) ?_
  rotate_left
  · (intro w hSw; (try dsimp only at hSw); first | (go_simp; done) | (go_simp; with_reducible rfl))
  simp only [Act.put, List.getElem_toArray, List.getElem_cons_zero, List.getElem_cons_succ, List.setIfInBounds_toArray, List.set_cons_zero, List.set_cons_succ]
  refine wpAnyH_done (by kernel_rfl) ?_ _
  clear hH1
  go_wp2_with fail
  go_ret
  exact ⟨rfl, OW.out.trans E3.out.1 (fun _ _ e => e), E3.out.2⟩
end Go.Proofs.Ytjbbphdjemdinaa.vi
