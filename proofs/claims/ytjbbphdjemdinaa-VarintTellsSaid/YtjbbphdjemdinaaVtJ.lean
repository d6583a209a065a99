/-
  The law's told where what is left is cut off, or all is bad: then all is bad.
-/
import Derived.Test.YtjbbphdjemdinaaVtI
namespace Go.Proofs.Ytjbbphdjemdinaa.vi
open Go.RowKit
open base (ret_bool ret_int made up Nums Only Blk)
open bytes vnum
set_option linter.unusedVariables false
set_option linter.unusedSimpArgs false
def IntsZ (g : Nat) (w : World) (e : Ending) (w' : World) : Prop := e = .returned (.slice none 0 0) ∧ (∃ A c, InAt w' g A [] c true) ∧ Only (fun k => k = g) w w'
set_option maxRecDepth 100000 in
set_option maxHeartbeats 2000000 in
theorem intsz_bad (g : Nat) (most : Int) (w : World) (hgl : g < w.heap.size) (C : Calls Try.prog 36 #[.pointer (some ⟨g, 0, none⟩), .int .i64 most] w (BadP g (.int .i64 0) w)) :
    Calls Try.prog 20 #[.pointer (some ⟨g, 0, none⟩), .int .i64 most] w (IntsZ g w) := by
  have CC := Lib.hid C
  have hmk := run_make_row' (P := Try.prog) 38 3 (.int .i64 0) 8 Try.underlying38 info_i64 rfl .i64 .i64 0 (by omega) (by omega)
  rw [show ((0 : Nat) : Int) = 0 from rfl] at hmk
  clear C
  go_enter Try.func20, Try.ntmps20
  go_wp2_with fail
  refine CC.out.mono ?_
  rintro e w1 ⟨rfl, hi, ho⟩
  have hi2 := hi.below (made w1 (.cells (madeCells #[.int .i64 0] 0) 3))
  have b1 := hi2.blk.cell 1
  have R := Lib.hid (show IntsZ g w (.returned (.slice none 0 0)) (w1.alloc (.cells (madeCells #[.int .i64 0] 0) 3)) from ⟨rfl, ⟨_, _, hi2⟩, ho.alloc _⟩)
  clear hi ho hi2
  go_wp2_with fail
  go_loopw [15] (fun i wr => i = .int .i64 0 ∧ wr = w1.alloc (.cells (madeCells #[.int .i64 0] 0) 3)) (fun i _ => 0)
  case atStart => exact ⟨rfl, rfl⟩
  case round =>
    obtain ⟨rfl, rfl⟩ := hrel
    go_wp2_with fail
    go_ret
    exact R.out
set_option maxRecDepth 100000 in
set_option maxHeartbeats 2000000 in
theorem intsz_fail (g : Nat) (A : Option Addr) (l : List Nat) (c : Nat) (most : Int) (n : Nat) (r : List Nat) (w : World) (h : InAt w g A l c false) (hd : cnt most l = some (n, r)) (hz : rdN n r = none) (hl : l.length ≤ 10000000) :
    Calls Try.prog 20 #[.pointer (some ⟨g, 0, none⟩), .int .i64 most] w (IntsZ g w) := by
  have CC := Lib.hid (count_yes g A l c most n r w h hd hl)
  obtain ⟨k, hk, hr, hm, hn⟩ := cnt_some hd
  have hrl : r.length ≤ 10000000 := by rw [hr]; simp; omega
  have hmk := run_make_row' (P := Try.prog) 38 3 (.int .i64 0) 8 Try.underlying38 info_i64 rfl .i64 .i64 n (by omega) (by omega)
  have Z := Lib.hid hz
  have hgl := h.blk.lt
  clear h hd hk hm hr hz
  go_enter Try.func20, Try.ntmps20
  go_wp2_with fail
  refine CC.out.mono ?_
  rintro e w1 ⟨rfl, ho, hi⟩
  have R0 : RowAt g w w1.heap.size n 0 (List.replicate n 0) r false (w1.alloc (.cells (madeCells #[.int .i64 0] n) 3)) := by
    obtain ⟨A1, c1, hi⟩ := hi
    exact ⟨made_ints w1 n, by simp, ho.size, by have := ho.size; omega, ho.alloc _, A1, c1, hi.below (made _ _)⟩
  have RR := Lib.hid R0
  clear ho hi R0
  go_wp2_with fail
  go_loopw [15] (fun i wr => ∃ (j : Nat) (W : World) (ys : List Int) (rj : List Nat) (bad : Bool), W = wr ∧ j ≤ n ∧ i = .int .i64 j ∧ RowAt g w w1.heap.size n j ys rj bad wr ∧ rj.length ≤ 10000000 ∧ (bad = true ∧ rj = [] ∨ bad = false ∧ rdN (n - j) rj = none)) (fun i _ => n - (intOf i).toNat)
  case atStart => exact ⟨0, _, _, r, false, rfl, by omega, rfl, RR.out, hrl, .inr ⟨rfl, by rw [Nat.sub_zero]; exact Z.out⟩⟩
  case round =>
    obtain ⟨j, w2, ys, rj, bad, rfl, hj, rfl, hrow, hrjl, hst⟩ := hrel
    have RW := Lib.hid hrow
    have ST := Lib.hid hst
    obtain ⟨A2, c2, hi2⟩ := hrow.at_
    have I2 := Lib.hid hi2
    have b1 := hi2.blk.cell 1
    clear hrow hst hi2 RR
    by_cases hjn : j < n
    · have hlen := RW.out.len
      cases hdz : dec rj with
      | none =>
        have II := Lib.hid (iint_no g A2 rj c2 bad w2 I2.out hdz hrjl)
        clear hdz
        go_wp2_with fail
        refine II.out.mono ?_
        rintro e w3 ⟨rfl, hi, ho⟩
        obtain ⟨hb3, hrow3⟩ := RW.out.next ho ⟨_, _, hi⟩ 0
        have hf := hb3.free j
        have hcj : w3.cell? ⟨w1.heap.size, j, none⟩ = some (.int .i64 (ys.getD j 0)) := OnI.cell hb3 (by omega)
        have R3 := Lib.hid hrow3
        clear ho hi hb3 hrow3 II
        go_wp2_with fail
        refine ⟨⟨j + 1, _, _, _, _, rfl, by omega, by go_num, R3.out, by simp, .inl ⟨rfl, rfl⟩⟩, by simp [intOf]; omega⟩
      | some p =>
        obtain ⟨z, kz⟩ := p
        obtain ⟨rfl, hst⟩ : bad = false ∧ rdN (n - j) rj = none := by
          rcases ST.out with ⟨_, rfl⟩ | hh
          · cases hdz
          · exact hh
        rw [show n - j = (n - (j + 1)) + 1 by omega] at hst
        have REST := Lib.hid (rdN_none hst hdz)
        have II := Lib.hid (iint_yes g A2 rj c2 false z kz w2 I2.out hdz hrjl)
        clear hdz hst
        go_wp2_with fail
        refine II.out.mono ?_
        rintro e w3 ⟨rfl, ho, hi⟩
        obtain ⟨hb3, hrow3⟩ := RW.out.next ho hi z
        have hf := hb3.free j
        have hcj : w3.cell? ⟨w1.heap.size, j, none⟩ = some (.int .i64 (ys.getD j 0)) := OnI.cell hb3 (by omega)
        have R3 := Lib.hid hrow3
        clear ho hi hb3 hrow3 II
        go_wp2_with fail
        refine ⟨⟨j + 1, _, _, _, _, rfl, by omega, by go_num, R3.out, by simp; omega, .inr ⟨rfl, REST.out⟩⟩, by simp [intOf]; omega⟩
    · obtain rfl : j = n := by omega
      obtain ⟨hbad, hrj⟩ : bad = true ∧ rj = [] := by
        rcases ST.out with hb | ⟨_, hh⟩
        · exact hb
        · rw [Nat.sub_self] at hh; simp [rdN] at hh
      subst hbad hrj
      go_wp2_with fail
      go_ret
      exact ⟨rfl, ⟨_, _, I2.out⟩, RW.out.only⟩
variable {w : World}
/-- some flag is told; all is bad -/
def ToldB (g : Nat) (w : World) (e : Ending) (w' : World) : Prop := ∃ v, e = .returned v ∧ (∃ b, v = .bool b) ∧ Only (fun k => k = g) w w' ∧ ∃ A c, InAt w' g A [] c true
theorem count_z (g : Nat) (A : Option Addr) (l : List Nat) (c : Nat) (bad : Bool) (h : InAt w g A l c bad) (hd : dec l = none ∨ bad = false ∧ cnt 1000 l = none) (hl : l.length ≤ 1000000) :
    Calls Try.prog 36 #[.pointer (some ⟨g, 0, none⟩), .int .i64 1000] w (BadP g (.int .i64 0) w) := by
  rcases hd with hd | ⟨rfl, hd⟩
  · exact count_bad g A l c bad 1000 w h hd (by omega)
  · exact count_no g A l c 1000 w h hd (by omega)
set_option maxRecDepth 100000 in
set_option maxHeartbeats 600000 in
theorem bad_0 (g : Nat) (A : Option Addr) (c : Nat) (l : List Nat) (bad : Bool) (t : Th) (h : InAt w g A l c bad) (hl : l.length ≤ 1000000) (hd : dec l = none) :
    Calls Try.prog 24 #[.pointer (some ⟨g, 0, none⟩), .agg #[.int .i64 0, .int .i64 t.n, .string t.s, .bool t.f, .slice t.A t.zs.length t.c]] w (ToldB g w) := by
  have M1 := Lib.hid (made w (.cells #[.int .i64 0, .int .i64 t.n, .string t.s, .bool t.f, .slice t.A t.zs.length t.c] 44))
  have BX := Lib.hid (Blk.new w 44 #[.int .i64 0, .int .i64 t.n, .string t.s, .bool t.f, .slice t.A t.zs.length t.c])
  have O1 := Lib.hid (only_made g w (.cells #[.int .i64 0, .int .i64 t.n, .string t.s, .bool t.f, .slice t.A t.zs.length t.c] 44))
  have HG := Lib.hid (show g < w.heap.size from h.blk.lt)
  have H1 := Lib.hid (h.below M1.out)
  clear h
  go_enter Try.func24, Try.ntmps24
  go_upto_region 3 with fail
  have BW := Lib.hid (show Blk (w.alloc (.cells #[.int .i64 0, .int .i64 t.n, .string t.s, .bool t.f, .slice t.A t.zs.length t.c] 44)).drew w.heap.size 44 #[.int .i64 0, .int .i64 t.n, .string t.s, .bool t.f, .slice t.A t.zs.length t.c] from BX.out.drewN 1)
  have HW := Lib.hid (H1.out.below (Below.refl _ _).drew)
  have OW := Lib.hid (show Only (fun k => k = g) w (w.alloc (.cells #[.int .i64 0, .int .i64 t.n, .string t.s, .bool t.f, .slice t.A t.zs.length t.c] 44)).drew from O1.out.drewN 1)
  have SZ := Lib.hid (show w.heap.size < (w.alloc (.cells #[.int .i64 0, .int .i64 t.n, .string t.s, .bool t.f, .slice t.A t.zs.length t.c] 44)).drew.heap.size from BW.out.lt)
  generalize w.alloc (.cells #[.int .i64 0, .int .i64 t.n, .string t.s, .bool t.f, .slice t.A t.zs.length t.c] 44) = w1 at *
  have CAL := Lib.hid (show Calls Try.prog 13 #[.pointer (some ⟨g, 0, none⟩)] w1.drew (fun e w' => e = .returned (.int .i64 0) ∧ Only (fun k => k = g) w1.drew w' ∧ ∃ A c, InAt w' g A [] c true) from by
    refine (iint_no g A l c bad _ HW.out hd (by omega)).mono ?_
    rintro e w' ⟨h1, h2, h3⟩
    exact ⟨h1, h3, _, _, h2⟩)
  have KS := Lib.hid (fun ws (h : Only (fun k => k = g) w1.drew ws) => (show ws.cell? ⟨w.heap.size, 1, none⟩ = some (.int .i64 t.n) from (show Blk ws w.heap.size 44 #[.int .i64 0, .int .i64 t.n, .string t.s, .bool t.f, .slice t.A t.zs.length t.c] from (h.block w.heap.size SZ.out (by have := HG.out; omega)).trans BW.out).cell 1))
  refine wp_region_held_drew (S := fun ws => ws.cell? ⟨w.heap.size, 1, none⟩ = some (.int .i64 t.n)) (by kernel_rfl) (KS.out _ (Only.refl _ _)) (fun hHeld => ?_)
  generalize w1.drew = w2 at *
  refine wpAnyH_take (i := 0) (v := ?_) rfl (by kernel_rfl) (by kernel_rfl) (by kernel_rfl) (fun _ _ _ h => h) (Or.inl ⟨by rfl, ?_⟩) (by assumption) ?_
  rotate_left
  · (intro w hSw; (try dsimp only at hSw); first | (go_simp; done) | (go_simp; with_reducible rfl))
  simp only [Act.put, List.getElem_toArray, List.getElem_cons_zero, List.getElem_cons_succ, List.setIfInBounds_toArray, List.set_cons_zero, List.set_cons_succ]
  refine wpAnyH_take (i := 2) (v := ?_) rfl (by kernel_rfl) (by kernel_rfl) (by kernel_rfl) (fun _ _ _ h => h) (Or.inl ⟨by rfl, ?_⟩) (by assumption) ?_
  rotate_left
  · (intro w hSw; (try dsimp only at hSw); first | (go_simp; done) | (go_simp; with_reducible rfl))
  simp only [Act.put, List.getElem_toArray, List.getElem_cons_zero, List.getElem_cons_succ, List.setIfInBounds_toArray, List.set_cons_zero, List.set_cons_succ]
  refine wpAnyH_take (i := 3) (v := ?_) rfl (by kernel_rfl) (by kernel_rfl) (by kernel_rfl) (fun _ _ _ h => h) (Or.inl ⟨by rfl, ?_⟩) (by assumption) ?_
  rotate_left
  · (intro w hSw; (try dsimp only at hSw); first | (go_simp; done) | (go_simp; with_reducible rfl))
  simp only [Act.put, List.getElem_toArray, List.getElem_cons_zero, List.getElem_cons_succ, List.setIfInBounds_toArray, List.set_cons_zero, List.set_cons_succ]
  refine wpAnyH_ready (rs := [1]) (by kernel_rfl) (by simp) ?_
  refine AllReadyH.cons rfl (fun K hK => ?_) AllReadyH.nil
  go_simp
  go_wp2_with (go_at_call 13; refine CAL.out.mono ?_; rintro e w3 ⟨rfl, h3, h4⟩)
  have E3 := Lib.hid (And.intro h3 h4)
  refine hK.out _ _ (KS.out _ h3) (fun hH1 => ?_)
  clear hK K hHeld h3 h4
  refine wpAnyH_take (i := 4) (v := ?_) rfl (by kernel_rfl) (by kernel_rfl) (by kernel_rfl) (fun _ _ _ h => h) (Or.inl ⟨by rfl, ?_⟩) (by assumption) ?_
  rotate_left
  · (intro w hSw; (try dsimp only at hSw); first | (go_simp; done) | (go_simp; with_reducible rfl))
  simp only [Act.put, List.getElem_toArray, List.getElem_cons_zero, List.getElem_cons_succ, List.setIfInBounds_toArray, List.set_cons_zero, List.set_cons_succ]
  refine wpAnyH_take (i := 5) (v := ?_) rfl (by kernel_rfl) (by kernel_rfl) (by kernel_rfl) (fun _ _ _ h => h) (Or.inl ⟨by rfl, ?_⟩) (by assumption) ?_
  rotate_left
  · (intro w hSw; (try dsimp only at hSw); first | (go_simp; done) | (go_simp; with_reducible rfl))
  simp only [Act.put, List.getElem_toArray, List.getElem_cons_zero, List.getElem_cons_succ, List.setIfInBounds_toArray, List.set_cons_zero, List.set_cons_succ]
  refine wpAnyH_done (by kernel_rfl) ?_ _
  clear hH1
  go_wp2_with fail
  go_ret
  exact ⟨_, rfl, ⟨_, rfl⟩, OW.out.trans E3.out.1 (fun _ _ e => e), E3.out.2⟩
set_option maxRecDepth 100000 in
set_option maxHeartbeats 600000 in
theorem bad_1 (g : Nat) (A : Option Addr) (c : Nat) (l : List Nat) (bad : Bool) (t : Th) (h : InAt w g A l c bad) (hl : l.length ≤ 1000000) (hd : dec l = none ∨ bad = false ∧ cnt 1000 l = none) :
    Calls Try.prog 24 #[.pointer (some ⟨g, 0, none⟩), .agg #[.int .i64 1, .int .i64 t.n, .string t.s, .bool t.f, .slice t.A t.zs.length t.c]] w (ToldB g w) := by
  have M1 := Lib.hid (made w (.cells #[.int .i64 1, .int .i64 t.n, .string t.s, .bool t.f, .slice t.A t.zs.length t.c] 44))
  have BX := Lib.hid (Blk.new w 44 #[.int .i64 1, .int .i64 t.n, .string t.s, .bool t.f, .slice t.A t.zs.length t.c])
  have O1 := Lib.hid (only_made g w (.cells #[.int .i64 1, .int .i64 t.n, .string t.s, .bool t.f, .slice t.A t.zs.length t.c] 44))
  have HG := Lib.hid (show g < w.heap.size from h.blk.lt)
  have H1 := Lib.hid (h.below M1.out)
  clear h
  go_enter Try.func24, Try.ntmps24
  go_upto_region 5 with fail
  have BW := Lib.hid (show Blk (w.alloc (.cells #[.int .i64 1, .int .i64 t.n, .string t.s, .bool t.f, .slice t.A t.zs.length t.c] 44)).drew w.heap.size 44 #[.int .i64 1, .int .i64 t.n, .string t.s, .bool t.f, .slice t.A t.zs.length t.c] from BX.out.drewN 1)
  have HW := Lib.hid (H1.out.below (Below.refl _ _).drew)
  have OW := Lib.hid (show Only (fun k => k = g) w (w.alloc (.cells #[.int .i64 1, .int .i64 t.n, .string t.s, .bool t.f, .slice t.A t.zs.length t.c] 44)).drew from O1.out.drewN 1)
  have SZ := Lib.hid (show w.heap.size < (w.alloc (.cells #[.int .i64 1, .int .i64 t.n, .string t.s, .bool t.f, .slice t.A t.zs.length t.c] 44)).drew.heap.size from BW.out.lt)
  generalize w.alloc (.cells #[.int .i64 1, .int .i64 t.n, .string t.s, .bool t.f, .slice t.A t.zs.length t.c] 44) = w1 at *
  have CAL := Lib.hid (show Calls Try.prog 19 #[.pointer (some ⟨g, 0, none⟩), .int .i64 1000] w1.drew (fun e w' => e = .returned (.string ⟨#[]⟩) ∧ Only (fun k => k = g) w1.drew w' ∧ ∃ A c, InAt w' g A [] c true) from by
    refine (text_bad g 1000 _ (count_z g A l c bad HW.out hd hl)).mono ?_
    rintro e w' ⟨h1, h2, h3⟩
    exact ⟨h1, h3, h2⟩)
  have KS := Lib.hid (fun ws (h : Only (fun k => k = g) w1.drew ws) => (show ws.cell? ⟨w.heap.size, 2, none⟩ = some (.string t.s) from (show Blk ws w.heap.size 44 #[.int .i64 1, .int .i64 t.n, .string t.s, .bool t.f, .slice t.A t.zs.length t.c] from (h.block w.heap.size SZ.out (by have := HG.out; omega)).trans BW.out).cell 2))
  refine wp_region_held_drew (S := fun ws => ws.cell? ⟨w.heap.size, 2, none⟩ = some (.string t.s)) (by kernel_rfl) (KS.out _ (Only.refl _ _)) (fun hHeld => ?_)
  generalize w1.drew = w2 at *
  refine wpAnyH_take (i := 0) (v := ?_) rfl (by kernel_rfl) (by kernel_rfl) (by kernel_rfl) (fun _ _ _ h => h) (Or.inl ⟨by rfl, ?_⟩) (by assumption) ?_
  rotate_left
  · (intro w hSw; (try dsimp only at hSw); first | (go_simp; done) | (go_simp; with_reducible rfl))
  simp only [Act.put, List.getElem_toArray, List.getElem_cons_zero, List.getElem_cons_succ, List.setIfInBounds_toArray, List.set_cons_zero, List.set_cons_succ]
  refine wpAnyH_take (i := 2) (v := ?_) rfl (by kernel_rfl) (by kernel_rfl) (by kernel_rfl) (fun _ _ _ h => h) (Or.inl ⟨by rfl, ?_⟩) (by assumption) ?_
  rotate_left
  · (intro w hSw; (try dsimp only at hSw); first | (go_simp; done) | (go_simp; with_reducible rfl))
  simp only [Act.put, List.getElem_toArray, List.getElem_cons_zero, List.getElem_cons_succ, List.setIfInBounds_toArray, List.set_cons_zero, List.set_cons_succ]
  refine wpAnyH_take (i := 3) (v := ?_) rfl (by kernel_rfl) (by kernel_rfl) (by kernel_rfl) (fun _ _ _ h => h) (Or.inl ⟨by rfl, ?_⟩) (by assumption) ?_
  rotate_left
  · (intro w hSw; (try dsimp only at hSw); first | (go_simp; done) | (go_simp; with_reducible rfl))
  simp only [Act.put, List.getElem_toArray, List.getElem_cons_zero, List.getElem_cons_succ, List.setIfInBounds_toArray, List.set_cons_zero, List.set_cons_succ]
  refine wpAnyH_ready (rs := [1]) (by kernel_rfl) (by simp) ?_
  refine AllReadyH.cons rfl (fun K hK => ?_) AllReadyH.nil
  go_simp
  go_wp2_with (go_at_call 19; refine CAL.out.mono ?_; rintro e w3 ⟨rfl, h3, h4⟩)
  have E3 := Lib.hid (And.intro h3 h4)
  refine hK.out _ _ (KS.out _ h3) (fun hH1 => ?_)
  clear hK K hHeld h3 h4
  refine wpAnyH_take (i := 4) (v := ?_) rfl (by kernel_rfl) (by kernel_rfl) (by kernel_rfl) (fun _ _ _ h => h) (Or.inl ⟨by rfl, ?_⟩) (by assumption) ?_
  rotate_left
  · (intro w hSw; (try dsimp only at hSw); first | (go_simp; done) | (go_simp; with_reducible rfl))
  simp only [Act.put, List.getElem_toArray, List.getElem_cons_zero, List.getElem_cons_succ, List.setIfInBounds_toArray, List.set_cons_zero, List.set_cons_succ]
  refine wpAnyH_take (i := 5) (v := ?_) rfl (by kernel_rfl) (by kernel_rfl) (by kernel_rfl) (fun _ _ _ h => h) (Or.inl ⟨by rfl, ?_⟩) (by assumption) ?_
  rotate_left
  · (intro w hSw; (try dsimp only at hSw); first | (go_simp; done) | (go_simp; with_reducible rfl))
  simp only [Act.put, List.getElem_toArray, List.getElem_cons_zero, List.getElem_cons_succ, List.setIfInBounds_toArray, List.set_cons_zero, List.set_cons_succ]
  refine wpAnyH_done (by kernel_rfl) ?_ _
  clear hH1
  go_wp2_with fail
  go_ret
  exact ⟨_, rfl, ⟨_, rfl⟩, OW.out.trans E3.out.1 (fun _ _ e => e), E3.out.2⟩
set_option maxRecDepth 100000 in
set_option maxHeartbeats 600000 in
theorem bad_2t (g : Nat) (A : Option Addr) (c : Nat) (l : List Nat) (bad : Bool) (t : Th) (h : InAt w g A l c bad) (hl : l.length ≤ 1000000) (hd : l = []) :
    Calls Try.prog 24 #[.pointer (some ⟨g, 0, none⟩), .agg #[.int .i64 2, .int .i64 t.n, .string t.s, .bool true, .slice t.A t.zs.length t.c]] w (ToldB g w) := by
  have M1 := Lib.hid (made w (.cells #[.int .i64 2, .int .i64 t.n, .string t.s, .bool true, .slice t.A t.zs.length t.c] 44))
  have BX := Lib.hid (Blk.new w 44 #[.int .i64 2, .int .i64 t.n, .string t.s, .bool true, .slice t.A t.zs.length t.c])
  have O1 := Lib.hid (only_made g w (.cells #[.int .i64 2, .int .i64 t.n, .string t.s, .bool true, .slice t.A t.zs.length t.c] 44))
  have HG := Lib.hid (show g < w.heap.size from h.blk.lt)
  have H1 := Lib.hid (h.below M1.out)
  clear h
  go_enter Try.func24, Try.ntmps24
  go_upto_region 7 with fail
  have BW := Lib.hid (show Blk (w.alloc (.cells #[.int .i64 2, .int .i64 t.n, .string t.s, .bool true, .slice t.A t.zs.length t.c] 44)).drew w.heap.size 44 #[.int .i64 2, .int .i64 t.n, .string t.s, .bool true, .slice t.A t.zs.length t.c] from BX.out.drewN 1)
  have HW := Lib.hid (H1.out.below (Below.refl _ _).drew)
  have OW := Lib.hid (show Only (fun k => k = g) w (w.alloc (.cells #[.int .i64 2, .int .i64 t.n, .string t.s, .bool true, .slice t.A t.zs.length t.c] 44)).drew from O1.out.drewN 1)
  have SZ := Lib.hid (show w.heap.size < (w.alloc (.cells #[.int .i64 2, .int .i64 t.n, .string t.s, .bool true, .slice t.A t.zs.length t.c] 44)).drew.heap.size from BW.out.lt)
  generalize w.alloc (.cells #[.int .i64 2, .int .i64 t.n, .string t.s, .bool true, .slice t.A t.zs.length t.c] 44) = w1 at *
  have CAL := Lib.hid (show Calls Try.prog 18 #[.pointer (some ⟨g, 0, none⟩)] w1.drew (fun e w' => e = .returned (.bool false) ∧ Only (fun k => k = g) w1.drew w' ∧ ∃ A c, InAt w' g A [] c true) from by
    refine (bool_no g A l c bad _ HW.out (.inl hd)).mono ?_
    rintro e w' ⟨h1, h2, h3⟩
    exact ⟨h1, h3, _, _, h2⟩)
  have KS := Lib.hid (fun ws (h : Only (fun k => k = g) w1.drew ws) => (show ws.cell? ⟨w.heap.size, 3, none⟩ = some (.bool true) from (show Blk ws w.heap.size 44 #[.int .i64 2, .int .i64 t.n, .string t.s, .bool true, .slice t.A t.zs.length t.c] from (h.block w.heap.size SZ.out (by have := HG.out; omega)).trans BW.out).cell 3))
  refine wp_region_held_drew (S := fun ws => ws.cell? ⟨w.heap.size, 3, none⟩ = some (.bool true)) (by kernel_rfl) (KS.out _ (Only.refl _ _)) (fun hHeld => ?_)
  generalize w1.drew = w2 at *
  refine wpAnyH_take (i := 0) (v := ?_) rfl (by kernel_rfl) (by kernel_rfl) (by kernel_rfl) (fun _ _ _ h => h) (Or.inl ⟨by rfl, ?_⟩) (by assumption) ?_
  rotate_left
  · (intro w hSw; (try dsimp only at hSw); first | (go_simp; done) | (go_simp; with_reducible rfl))
  simp only [Act.put, List.getElem_toArray, List.getElem_cons_zero, List.getElem_cons_succ, List.setIfInBounds_toArray, List.set_cons_zero, List.set_cons_succ]
  refine wpAnyH_take (i := 2) (v := ?_) rfl (by kernel_rfl) (by kernel_rfl) (by kernel_rfl) (fun _ _ _ h => h) (Or.inl ⟨by rfl, ?_⟩) (by assumption) ?_
  rotate_left
  · (intro w hSw; (try dsimp only at hSw); first | (go_simp; done) | (go_simp; with_reducible rfl))
  simp only [Act.put, List.getElem_toArray, List.getElem_cons_zero, List.getElem_cons_succ, List.setIfInBounds_toArray, List.set_cons_zero, List.set_cons_succ]
  refine wpAnyH_take (i := 3) (v := ?_) rfl (by kernel_rfl) (by kernel_rfl) (by kernel_rfl) (fun _ _ _ h => h) (Or.inl ⟨by rfl, ?_⟩) (by assumption) ?_
  rotate_left
  · (intro w hSw; (try dsimp only at hSw); first | (go_simp; done) | (go_simp; with_reducible rfl))
  simp only [Act.put, List.getElem_toArray, List.getElem_cons_zero, List.getElem_cons_succ, List.setIfInBounds_toArray, List.set_cons_zero, List.set_cons_succ]
  refine wpAnyH_ready (rs := [1]) (by kernel_rfl) (by simp) ?_
  refine AllReadyH.cons rfl (fun K hK => ?_) AllReadyH.nil
  go_simp
  go_wp2_with (go_at_call 18; refine CAL.out.mono ?_; rintro e w3 ⟨rfl, h3, h4⟩)
  have E3 := Lib.hid (And.intro h3 h4)
  refine hK.out _ _ (KS.out _ h3) (fun hH1 => ?_)
  clear hK K hHeld h3 h4
  refine wpAnyH_take (i := 4) (v := ?_) rfl (by kernel_rfl) (by kernel_rfl) (by kernel_rfl) (fun _ _ _ h => h) (Or.inl ⟨by rfl, ?_⟩) (by assumption) ?_
  rotate_left
  · (intro w hSw; (try dsimp only at hSw); first | (go_simp; done) | (go_simp; with_reducible rfl))
  simp only [Act.put, List.getElem_toArray, List.getElem_cons_zero, List.getElem_cons_succ, List.setIfInBounds_toArray, List.set_cons_zero, List.set_cons_succ]
  refine wpAnyH_take (i := 5) (v := ?_) rfl (by kernel_rfl) (by kernel_rfl) (by kernel_rfl) (fun _ _ _ h => h) (Or.inl ⟨by rfl, ?_⟩) (by assumption) ?_
  rotate_left
  · (intro w hSw; (try dsimp only at hSw); first | (go_simp; done) | (go_simp; with_reducible rfl))
  simp only [Act.put, List.getElem_toArray, List.getElem_cons_zero, List.getElem_cons_succ, List.setIfInBounds_toArray, List.set_cons_zero, List.set_cons_succ]
  refine wpAnyH_done (by kernel_rfl) ?_ _
  clear hH1
  go_wp2_with fail
  go_ret
  exact ⟨_, rfl, ⟨_, rfl⟩, OW.out.trans E3.out.1 (fun _ _ e => e), E3.out.2⟩
set_option maxRecDepth 100000 in
set_option maxHeartbeats 600000 in
theorem bad_2f (g : Nat) (A : Option Addr) (c : Nat) (l : List Nat) (bad : Bool) (t : Th) (h : InAt w g A l c bad) (hl : l.length ≤ 1000000) (hd : l = []) :
    Calls Try.prog 24 #[.pointer (some ⟨g, 0, none⟩), .agg #[.int .i64 2, .int .i64 t.n, .string t.s, .bool false, .slice t.A t.zs.length t.c]] w (ToldB g w) := by
  have M1 := Lib.hid (made w (.cells #[.int .i64 2, .int .i64 t.n, .string t.s, .bool false, .slice t.A t.zs.length t.c] 44))
  have BX := Lib.hid (Blk.new w 44 #[.int .i64 2, .int .i64 t.n, .string t.s, .bool false, .slice t.A t.zs.length t.c])
  have O1 := Lib.hid (only_made g w (.cells #[.int .i64 2, .int .i64 t.n, .string t.s, .bool false, .slice t.A t.zs.length t.c] 44))
  have HG := Lib.hid (show g < w.heap.size from h.blk.lt)
  have H1 := Lib.hid (h.below M1.out)
  clear h
  go_enter Try.func24, Try.ntmps24
  go_upto_region 7 with fail
  have BW := Lib.hid (show Blk (w.alloc (.cells #[.int .i64 2, .int .i64 t.n, .string t.s, .bool false, .slice t.A t.zs.length t.c] 44)).drew w.heap.size 44 #[.int .i64 2, .int .i64 t.n, .string t.s, .bool false, .slice t.A t.zs.length t.c] from BX.out.drewN 1)
  have HW := Lib.hid (H1.out.below (Below.refl _ _).drew)
  have OW := Lib.hid (show Only (fun k => k = g) w (w.alloc (.cells #[.int .i64 2, .int .i64 t.n, .string t.s, .bool false, .slice t.A t.zs.length t.c] 44)).drew from O1.out.drewN 1)
  have SZ := Lib.hid (show w.heap.size < (w.alloc (.cells #[.int .i64 2, .int .i64 t.n, .string t.s, .bool false, .slice t.A t.zs.length t.c] 44)).drew.heap.size from BW.out.lt)
  generalize w.alloc (.cells #[.int .i64 2, .int .i64 t.n, .string t.s, .bool false, .slice t.A t.zs.length t.c] 44) = w1 at *
  have CAL := Lib.hid (show Calls Try.prog 18 #[.pointer (some ⟨g, 0, none⟩)] w1.drew (fun e w' => e = .returned (.bool false) ∧ Only (fun k => k = g) w1.drew w' ∧ ∃ A c, InAt w' g A [] c true) from by
    refine (bool_no g A l c bad _ HW.out (.inl hd)).mono ?_
    rintro e w' ⟨h1, h2, h3⟩
    exact ⟨h1, h3, _, _, h2⟩)
  have KS := Lib.hid (fun ws (h : Only (fun k => k = g) w1.drew ws) => (show ws.cell? ⟨w.heap.size, 3, none⟩ = some (.bool false) from (show Blk ws w.heap.size 44 #[.int .i64 2, .int .i64 t.n, .string t.s, .bool false, .slice t.A t.zs.length t.c] from (h.block w.heap.size SZ.out (by have := HG.out; omega)).trans BW.out).cell 3))
  refine wp_region_held_drew (S := fun ws => ws.cell? ⟨w.heap.size, 3, none⟩ = some (.bool false)) (by kernel_rfl) (KS.out _ (Only.refl _ _)) (fun hHeld => ?_)
  generalize w1.drew = w2 at *
  refine wpAnyH_take (i := 0) (v := ?_) rfl (by kernel_rfl) (by kernel_rfl) (by kernel_rfl) (fun _ _ _ h => h) (Or.inl ⟨by rfl, ?_⟩) (by assumption) ?_
  rotate_left
  · (intro w hSw; (try dsimp only at hSw); first | (go_simp; done) | (go_simp; with_reducible rfl))
  simp only [Act.put, List.getElem_toArray, List.getElem_cons_zero, List.getElem_cons_succ, List.setIfInBounds_toArray, List.set_cons_zero, List.set_cons_succ]
  refine wpAnyH_take (i := 2) (v := ?_) rfl (by kernel_rfl) (by kernel_rfl) (by kernel_rfl) (fun _ _ _ h => h) (Or.inl ⟨by rfl, ?_⟩) (by assumption) ?_
  rotate_left
  · (intro w hSw; (try dsimp only at hSw); first | (go_simp; done) | (go_simp; with_reducible rfl))
  simp only [Act.put, List.getElem_toArray, List.getElem_cons_zero, List.getElem_cons_succ, List.setIfInBounds_toArray, List.set_cons_zero, List.set_cons_succ]
  refine wpAnyH_take (i := 3) (v := ?_) rfl (by kernel_rfl) (by kernel_rfl) (by kernel_rfl) (fun _ _ _ h => h) (Or.inl ⟨by rfl, ?_⟩) (by assumption) ?_
  rotate_left
  · (intro w hSw; (try dsimp only at hSw); first | (go_simp; done) | (go_simp; with_reducible rfl))
  simp only [Act.put, List.getElem_toArray, List.getElem_cons_zero, List.getElem_cons_succ, List.setIfInBounds_toArray, List.set_cons_zero, List.set_cons_succ]
  refine wpAnyH_ready (rs := [1]) (by kernel_rfl) (by simp) ?_
  refine AllReadyH.cons rfl (fun K hK => ?_) AllReadyH.nil
  go_simp
  go_wp2_with (go_at_call 18; refine CAL.out.mono ?_; rintro e w3 ⟨rfl, h3, h4⟩)
  have E3 := Lib.hid (And.intro h3 h4)
  refine hK.out _ _ (KS.out _ h3) (fun hH1 => ?_)
  clear hK K hHeld h3 h4
  refine wpAnyH_take (i := 4) (v := ?_) rfl (by kernel_rfl) (by kernel_rfl) (by kernel_rfl) (fun _ _ _ h => h) (Or.inl ⟨by rfl, ?_⟩) (by assumption) ?_
  rotate_left
  · (intro w hSw; (try dsimp only at hSw); first | (go_simp; done) | (go_simp; with_reducible rfl))
  simp only [Act.put, List.getElem_toArray, List.getElem_cons_zero, List.getElem_cons_succ, List.setIfInBounds_toArray, List.set_cons_zero, List.set_cons_succ]
  refine wpAnyH_take (i := 5) (v := ?_) rfl (by kernel_rfl) (by kernel_rfl) (by kernel_rfl) (fun _ _ _ h => h) (Or.inl ⟨by rfl, ?_⟩) (by assumption) ?_
  rotate_left
  · (intro w hSw; (try dsimp only at hSw); first | (go_simp; done) | (go_simp; with_reducible rfl))
  simp only [Act.put, List.getElem_toArray, List.getElem_cons_zero, List.getElem_cons_succ, List.setIfInBounds_toArray, List.set_cons_zero, List.set_cons_succ]
  refine wpAnyH_done (by kernel_rfl) ?_ _
  clear hH1
  go_wp2_with fail
  go_ret
  exact ⟨_, rfl, ⟨_, rfl⟩, OW.out.trans E3.out.1 (fun _ _ e => e), E3.out.2⟩
set_option maxRecDepth 100000 in
set_option maxHeartbeats 800000 in
theorem bad_3 (g : Nat) (A : Option Addr) (c : Nat) (l : List Nat) (bad : Bool) (t : Th) (h : InAt w g A l c bad) (hl : l.length ≤ 1000000)
    (hd : (dec l = none ∨ bad = false ∧ cnt 1000 l = none) ∨ bad = false ∧ ∃ n r, cnt 1000 l = some (n, r) ∧ rdN n r = none) (hm : t.zs.length ≤ 40) :
    Calls Try.prog 24 #[.pointer (some ⟨g, 0, none⟩), .agg #[.int .i64 3, .int .i64 t.n, .string t.s, .bool t.f, .slice t.A t.zs.length t.c]] w (ToldB g w) := by
  have M1 := Lib.hid (made w (.cells #[.int .i64 3, .int .i64 t.n, .string t.s, .bool t.f, .slice t.A t.zs.length t.c] 44))
  have BX := Lib.hid (Blk.new w 44 #[.int .i64 3, .int .i64 t.n, .string t.s, .bool t.f, .slice t.A t.zs.length t.c])
  have O1 := Lib.hid (only_made g w (.cells #[.int .i64 3, .int .i64 t.n, .string t.s, .bool t.f, .slice t.A t.zs.length t.c] 44))
  have HG := Lib.hid (show g < w.heap.size from h.blk.lt)
  have H1 := Lib.hid (h.below M1.out)
  have CAL := Lib.hid (show Calls Try.prog 20 #[.pointer (some ⟨g, 0, none⟩), .int .i64 1000] (w.alloc (.cells #[.int .i64 3, .int .i64 t.n, .string t.s, .bool t.f, .slice t.A t.zs.length t.c] 44)) (IntsZ g (w.alloc (.cells #[.int .i64 3, .int .i64 t.n, .string t.s, .bool t.f, .slice t.A t.zs.length t.c] 44))) from by
    rcases hd with hd | ⟨rfl, n, r, h1, h2⟩
    · exact intsz_bad g 1000 _ H1.out.blk.lt (count_z g A l c bad H1.out hd hl)
    · exact intsz_fail g A l c 1000 n r _ H1.out h1 h2 (by omega))
  clear h hd
  go_enter Try.func24, Try.ntmps24
  go_wp2_with fail
  refine CAL.out.mono ?_
  rintro e w3 ⟨rfl, hi, ho⟩
  have SZ := Lib.hid (show w.heap.size < (w.alloc (.cells #[.int .i64 3, .int .i64 t.n, .string t.s, .bool t.f, .slice t.A t.zs.length t.c] 44)).heap.size from BX.out.lt)
  have B3 := Lib.hid (show Blk w3 w.heap.size 44 #[.int .i64 3, .int .i64 t.n, .string t.s, .bool t.f, .slice t.A t.zs.length t.c] from (ho.block w.heap.size SZ.out (by have := HG.out; omega)).trans BX.out)
  have OW := Lib.hid (show Only (fun k => k = g) w w3 from O1.out.trans ho (fun _ _ e => e))
  have HI := Lib.hid hi
  have c4 := B3.out.cell 4
  clear ho hi M1 BX O1 H1 CAL SZ
  by_cases hz : t.zs.length = 0
  · have z0 : ((0 : Int) != (t.zs.length : Int)) = false := by rw [hz]; rfl
    clear hz
    go_wp2_with fail
    go_loopw [42] (fun i wr => i = .int .i64 0 ∧ wr = w3) (fun i _ => 0)
    case atStart => exact ⟨rfl, rfl⟩
    case round =>
      obtain ⟨rfl, rfl⟩ := hrel
      go_wp2_with fail
      go_ret
      exact ⟨_, rfl, ⟨_, rfl⟩, OW.out, HI.out⟩
  · have z0 : ((0 : Int) != (t.zs.length : Int)) = true := by simp; omega
    go_wp2_with fail
    go_ret
    exact ⟨_, rfl, ⟨_, rfl⟩, OW.out, HI.out⟩
set_option maxHeartbeats 400000 in
theorem bad_oth (g : Nat) (A : Option Addr) (c : Nat) (t : Th) (h : InAt w g A [] c true) (kk : Int) (k0 : kk ≠ 0) (k1 : kk ≠ 1) (k2 : kk ≠ 2) (k3 : kk ≠ 3) :
    Calls Try.prog 24 #[.pointer (some ⟨g, 0, none⟩), .agg #[.int .i64 kk, .int .i64 t.n, .string t.s, .bool t.f, .slice t.A t.zs.length t.c]] w (ToldB g w) := by
  have t0 : decide (kk = 0) = false := decide_eq_false k0
  have t1 : decide (kk = 1) = false := decide_eq_false k1
  have t2 : decide (kk = 2) = false := decide_eq_false k2
  have t3 : decide (kk = 3) = false := decide_eq_false k3
  have H1 := Lib.hid (h.below (made w (.cells #[.int .i64 kk, .int .i64 t.n, .string t.s, .bool t.f, .slice t.A t.zs.length t.c] 44)))
  have O1 := Lib.hid (only_made g w (.cells #[.int .i64 kk, .int .i64 t.n, .string t.s, .bool t.f, .slice t.A t.zs.length t.c] 44))
  clear h
  go_enter Try.func24, Try.ntmps24
  go_wp2_with fail
  go_ret
  exact ⟨_, rfl, ⟨_, rfl⟩, O1.out, _, _, H1.out⟩
/-- cut off within a thing, or bad before it -/
theorem cut_any (g : Nat) (A : Option Addr) (c : Nat) (l : List Nat) (bad : Bool) (t : Th) (h : InAt w g A l c bad) (hl : l.length ≤ 1000000) (ok : t.Ok w) (hs : t.s.size ≤ 300) (hm : t.zs.length ≤ 40)
    (hc : bad = true ∧ l = [] ∨ bad = false ∧ ∃ m, m < (pe t).length ∧ l = (pe t).take m) :
    Calls Try.prog 24 #[.pointer (some ⟨g, 0, none⟩), .agg #[.int .i64 t.k, .int .i64 t.n, .string t.s, .bool t.f, .slice t.A t.zs.length t.c]] w (ToldB g w) := by
  obtain ⟨k, n, s, f, At, ct, zs⟩ := t
  dsimp only at ok hs hm ⊢
  unfold pe at hc
  dsimp only at hc
  by_cases k0 : k = 0
  · subst k0
    rw [if_pos rfl] at hc
    refine bad_0 g A c l bad ⟨0, n, s, f, At, ct, zs⟩ h hl ?_
    rcases hc with ⟨_, rfl⟩ | ⟨_, m, h1, rfl⟩
    · exact dec_nil
    · exact dec_cut ok.n.1 ok.n.2 h1
  rw [if_neg k0] at hc
  by_cases k1 : k = 1
  · subst k1
    rw [if_pos rfl] at hc
    refine bad_1 g A c l bad ⟨1, n, s, f, At, ct, zs⟩ h hl ?_
    rcases hc with ⟨_, rfl⟩ | ⟨rfl, m, h1, rfl⟩
    · exact .inl dec_nil
    · exact .inr ⟨rfl, cnt_cut hs (bs_len s) h1⟩
  rw [if_neg k1] at hc
  by_cases k2 : k = 2
  · subst k2
    rw [if_pos rfl] at hc
    have hl0 : l = [] := by
      rcases hc with ⟨_, rfl⟩ | ⟨_, m, h1, rfl⟩
      · rfl
      · obtain rfl : m = 0 := by simp at h1; exact h1
        rfl
    cases f with
    | true => exact bad_2t g A c l bad ⟨2, n, s, true, At, ct, zs⟩ h hl hl0
    | false => exact bad_2f g A c l bad ⟨2, n, s, false, At, ct, zs⟩ h hl hl0
  rw [if_neg k2] at hc
  by_cases k3 : k = 3
  · subst k3
    rw [if_pos rfl] at hc
    refine bad_3 g A c l bad ⟨3, n, s, f, At, ct, zs⟩ h hl ?_ hm
    rcases hc with ⟨_, rfl⟩ | ⟨rfl, m, h1, rfl⟩
    · exact .inl (.inl dec_nil)
    · rcases cnt_cut_ints hm ok.z h1 with h | ⟨r, h2, h3⟩
      · exact .inl (.inr ⟨rfl, h⟩)
      · exact .inr ⟨rfl, _, r, h2, h3⟩
  rw [if_neg k3] at hc
  rcases hc with ⟨rfl, rfl⟩ | ⟨_, m, h1, _⟩
  · exact bad_oth g A c ⟨k, n, s, f, At, ct, zs⟩ h k k0 k1 k2 k3
  · simp at h1
end Go.Proofs.Ytjbbphdjemdinaa.vi
