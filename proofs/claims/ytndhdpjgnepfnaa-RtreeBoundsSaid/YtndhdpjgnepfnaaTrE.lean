/-
  R-trees: the entry for which it matters most into which part it goes; the part that a rectangle goes to.
-/
import Derived.Test.YtndhdpjgnepfnaaTrD
namespace Go.Proofs.Ytndhdpjgnepfnaa.tr
open Go.RowKit
open base (ret_bool ret_int made up Blk Only)
open rect
set_option linter.unusedVariables false
set_option linter.unusedSimpArgs false
attribute [local go_sem] Oper.semAt_some

set_option maxRecDepth 100000 in
set_option maxHeartbeats 8000000 in
theorem farthest_any (c : Nat) (A : Option Addr) (L : List En) (q r : Bx) (w : World) (h : rk.Lay E6 w A L) (h0 : 0 < L.length) (hl : L.length ≤ 1000) (hL : ∀ e ∈ L, e.b.right = true) (hq : q.right = true) (hr : r.right = true) :
    Calls Try.prog 62 #[.slice A L.length c, (.agg #[.int .i64 q.x, .int .i64 q.y, .int .i64 q.w, .int .i64 q.h]), (.agg #[.int .i64 r.x, .int .i64 r.y, .int .i64 r.w, .int .i64 r.h])] w fun e w' => (∃ i : Nat, e = .returned (.int .i64 i) ∧ i < L.length) ∧ Below w.heap.size w w' := by
  obtain ⟨w1, hw1⟩ : ∃ w1, w.alloc (.cells #[.int .i64 q.x, .int .i64 q.y, .int .i64 q.w, .int .i64 q.h] 28) = w1 := ⟨_, rfl⟩
  have M1 : Below w.heap.size w w1 := by rw [← hw1]; exact made w _
  have Q1 : Blk w1 w.heap.size 28 #[.int .i64 q.x, .int .i64 q.y, .int .i64 q.w, .int .i64 q.h] := by rw [← hw1]; exact Blk.new _ _ _
  obtain ⟨w2, hw2⟩ : ∃ w2, w1.alloc (.cells #[.int .i64 r.x, .int .i64 r.y, .int .i64 r.w, .int .i64 r.h] 28) = w2 := ⟨_, rfl⟩
  have M2 : Below w1.heap.size w1 w2 := by rw [← hw2]; exact made w1 _
  have hz1 : w1.heap.size = w.heap.size + 1 := by rw [← hw1, asz]
  have R2 := Lib.hid (show Blk w2 (w.heap.size + 1) 28 #[.int .i64 r.x, .int .i64 r.y, .int .i64 r.w, .int .i64 r.h] from by rw [← hz1, ← hw2]; exact Blk.new _ _ _)
  have Q2 := Lib.hid (Q1.below M2 Q1.lt)
  have MM := Lib.hid (up M1 M2 M1.size)
  have L2 := Lib.hid (h.below MM.out)
  have RT := Lib.hid (fun (i : Nat) (hi : i < L.length) => (show (L.getD i en0).b.right = true from by
    rw [List.getD_eq_getElem?_getD, List.getElem?_eq_getElem hi, Option.getD_some]
    exact hL _ (List.getElem_mem hi)))
  have HQ := Lib.hid hq
  have HR := Lib.hid hr
  have HL := Lib.hid hl
  have HW1 := Lib.hid hw1
  have HW2 := Lib.hid hw2
  clear hw1 hw2 h hL hr hl hq M1 M2 Q1 hz1
  go_enter Try.func62, Try.ntmps62
  go_upto_region 1 with fail
  have hw1 := HW1.out
  have hw2 := HW2.out
  simp only [hw1, hw2]
  clear hw1 HW1 hw2 HW2
  go_wp2_with fail
  go_loopw [7, 8, 14] (fun bv wv i wr => ∃ (p t : Nat) (x : Int) (W : World), W = wr ∧ p ≤ L.length ∧ t < L.length ∧ i = .int .i64 p ∧ bv = .int .i64 t ∧ wv = .int .i64 x ∧ Below w2.heap.size w2 wr) (fun _ _ i _ => L.length - (intOf i).toNat)
  case atStart => exact ⟨0, 0, _, _, rfl, by omega, h0, rfl, rfl, rfl, Below.refl _ _⟩
  case round =>
  obtain ⟨p, t, x, w5, rfl, hp, ht, rfl, rfl, rfl, hb⟩ := hrel
  have HT := Lib.hid ht
  by_cases hpl : p < L.length
  · have re := RT.out _ hpl
    obtain ⟨b0, o0, rfl, e0, e1, e2, e3, e4, e5⟩ := lay6 (L2.out.below hb) hpl
    generalize L.getD p en0 = e at *
    obtain ⟨P, hP⟩ : ∃ P, e.ptr = .pointer P := ⟨_, rfl⟩
    rw [hP] at e4
    obtain ⟨wE, hwE⟩ : ∃ wE, w5.alloc (.cells #[.int .i64 e.b.x, .int .i64 e.b.y, .int .i64 e.b.w, .int .i64 e.b.h, .pointer P, .int .i64 e.v] 79) = wE := ⟨_, rfl⟩
    have ME : Below w5.heap.size w5 wE := by rw [← hwE]; exact made w5 _
    have EB : Blk wE w5.heap.size 79 #[.int .i64 e.b.x, .int .i64 e.b.y, .int .i64 e.b.w, .int .i64 e.b.h, .pointer P, .int .i64 e.v] := by rw [← hwE]; exact Blk.new _ _ _
    have q5 := (Q2.out.below hb Q2.out.lt).below ME (Nat.lt_of_lt_of_le Q2.out.lt hb.size)
    have r5 := (R2.out.below hb R2.out.lt).below ME (Nat.lt_of_lt_of_le R2.out.lt hb.size)
    have SS := Lib.hid (fun W (hW : Below wE.heap.size wE W) => (show (fun ws => ws.cell? ⟨w.heap.size, 0, none⟩ = some (.int .i64 q.x) ∧ ws.cell? ⟨w.heap.size, 1, none⟩ = some (.int .i64 q.y) ∧ ws.cell? ⟨w.heap.size, 2, none⟩ = some (.int .i64 q.w) ∧ ws.cell? ⟨w.heap.size, 3, none⟩ = some (.int .i64 q.h) ∧ ws.cell? ⟨w.heap.size + 1, 0, none⟩ = some (.int .i64 r.x) ∧ ws.cell? ⟨w.heap.size + 1, 1, none⟩ = some (.int .i64 r.y) ∧ ws.cell? ⟨w.heap.size + 1, 2, none⟩ = some (.int .i64 r.w) ∧ ws.cell? ⟨w.heap.size + 1, 3, none⟩ = some (.int .i64 r.h) ∧ ws.cell? ⟨w5.heap.size, 0, none⟩ = some (.int .i64 e.b.x) ∧ ws.cell? ⟨w5.heap.size, 1, none⟩ = some (.int .i64 e.b.y) ∧ ws.cell? ⟨w5.heap.size, 2, none⟩ = some (.int .i64 e.b.w) ∧ ws.cell? ⟨w5.heap.size, 3, none⟩ = some (.int .i64 e.b.h)) W from
      ⟨(q5.below hW q5.lt).cell 0, (q5.below hW q5.lt).cell 1, (q5.below hW q5.lt).cell 2, (q5.below hW q5.lt).cell 3, (r5.below hW r5.lt).cell 0, (r5.below hW r5.lt).cell 1, (r5.below hW r5.lt).cell 2, (r5.below hW r5.lt).cell 3, (EB.below hW EB.lt).cell 0, (EB.below hW EB.lt).cell 1, (EB.below hW EB.lt).cell 2, (EB.below hW EB.lt).cell 3⟩))
    have BE := Lib.hid (show Below w2.heap.size w2 wE from up hb ME hb.size)
    have G1 := Lib.hid (fun W => growth_any q e.b W HQ.out re)
    have G2 := Lib.hid (fun W => growth_any r e.b W HR.out re)
    have g1 := gr_le HQ.out re
    have g2 := gr_le HR.out re
    generalize gr q e.b = X at *
    generalize gr r e.b = Y at *
    have k1 : IntKind.i64.wrap (X - Y) = X - Y := IntWalk.i64_in _ (by omega)
    have hD : -200000 ≤ X - Y ∧ X - Y ≤ 200000 := by clear k1; omega
    obtain ⟨D, hDe⟩ : ∃ D, D = X - Y := ⟨_, rfl⟩
    rw [← hDe] at k1 hD
    have HDE := Lib.hid hDe
    clear hDe
    have dp : decide (p < L.length) = true := decide_eq_true hpl
    have HP := Lib.hid hpl
    have WK := Lib.hid (show IntKind.i64.wrap ((p : Int) + 1) = (p : Int) + 1 from IntWalk.i64_in _ (by clear k1; have := HL.out; omega))
    have i0 : (0 : Int) ≤ (p : Int) := Int.natCast_nonneg _
    have HWE := Lib.hid hwE
    have B0 := Lib.hid (show Below wE.heap.size wE wE.drew from base.below_drewN (Below.refl _ wE) 1)
    clear hb hp hP hwE ME EB q5 r5 re g1 g2
    go_upto_region 5 with fail
    have hwE := HWE.out
    simp only [hwE]
    clear hwE HWE e0 e1 e2 e3 e4 e5
    have kd : X - Y = D := HDE.out.symm
    refine wp_region_held_drew (S := (fun ws => ws.cell? ⟨w.heap.size, 0, none⟩ = some (.int .i64 q.x) ∧ ws.cell? ⟨w.heap.size, 1, none⟩ = some (.int .i64 q.y) ∧ ws.cell? ⟨w.heap.size, 2, none⟩ = some (.int .i64 q.w) ∧ ws.cell? ⟨w.heap.size, 3, none⟩ = some (.int .i64 q.h) ∧ ws.cell? ⟨w.heap.size + 1, 0, none⟩ = some (.int .i64 r.x) ∧ ws.cell? ⟨w.heap.size + 1, 1, none⟩ = some (.int .i64 r.y) ∧ ws.cell? ⟨w.heap.size + 1, 2, none⟩ = some (.int .i64 r.w) ∧ ws.cell? ⟨w.heap.size + 1, 3, none⟩ = some (.int .i64 r.h) ∧ ws.cell? ⟨w5.heap.size, 0, none⟩ = some (.int .i64 e.b.x) ∧ ws.cell? ⟨w5.heap.size, 1, none⟩ = some (.int .i64 e.b.y) ∧ ws.cell? ⟨w5.heap.size, 2, none⟩ = some (.int .i64 e.b.w) ∧ ws.cell? ⟨w5.heap.size, 3, none⟩ = some (.int .i64 e.b.h))) (by kernel_rfl) (SS.out _ B0.out) (fun hHeld => ?_)
    refine wpAnyH_take (i := 0) (v := ?_) rfl (by kernel_rfl) (by kernel_rfl) (by kernel_rfl) (fun _ _ _ h => h) (Or.inl ⟨by rfl, ?_⟩) (by assumption) ?_
    rotate_left
    · (intro w hSw; (try dsimp only at hSw); first | (go_simp; done) | (go_simp; with_reducible rfl))
    simp only [Act.put, List.getElem_toArray, List.getElem_cons_zero, List.getElem_cons_succ, List.setIfInBounds_toArray, List.set_cons_zero, List.set_cons_succ]
    refine wpAnyH_take (i := 1) (v := ?_) rfl (by kernel_rfl) (by kernel_rfl) (by kernel_rfl) (fun _ _ _ h => h) (Or.inl ⟨by rfl, ?_⟩) (by assumption) ?_
    rotate_left
    · (intro w hSw; (try dsimp only at hSw); first | (go_simp; done) | (go_simp; with_reducible rfl))
    simp only [Act.put, List.getElem_toArray, List.getElem_cons_zero, List.getElem_cons_succ, List.setIfInBounds_toArray, List.set_cons_zero, List.set_cons_succ]
    refine wpAnyH_take (i := 2) (v := ?_) rfl (by kernel_rfl) (by kernel_rfl) (by kernel_rfl) (fun _ _ _ h => h) (Or.inl ⟨by rfl, ?_⟩) (by assumption) ?_
    rotate_left
    · (intro w hSw; (try dsimp only at hSw); first | (go_simp; done) | (go_simp; with_reducible rfl))
    simp only [Act.put, List.getElem_toArray, List.getElem_cons_zero, List.getElem_cons_succ, List.setIfInBounds_toArray, List.set_cons_zero, List.set_cons_succ]
    refine wpAnyH_take (i := 4) (v := ?_) rfl (by kernel_rfl) (by kernel_rfl) (by kernel_rfl) (fun _ _ _ h => h) (Or.inl ⟨by rfl, ?_⟩) (by assumption) ?_
    rotate_left
    · (intro w hSw; (try dsimp only at hSw); first | (go_simp; done) | (go_simp; with_reducible rfl))
    simp only [Act.put, List.getElem_toArray, List.getElem_cons_zero, List.getElem_cons_succ, List.setIfInBounds_toArray, List.set_cons_zero, List.set_cons_succ]
    refine wpAnyH_take (i := 5) (v := ?_) rfl (by kernel_rfl) (by kernel_rfl) (by kernel_rfl) (fun _ _ _ h => h) (Or.inl ⟨by rfl, ?_⟩) (by assumption) ?_
    rotate_left
    · (intro w hSw; (try dsimp only at hSw); first | (go_simp; done) | (go_simp; with_reducible rfl))
    simp only [Act.put, List.getElem_toArray, List.getElem_cons_zero, List.getElem_cons_succ, List.setIfInBounds_toArray, List.set_cons_zero, List.set_cons_succ]
    refine wpAnyH_take (i := 6) (v := ?_) rfl (by kernel_rfl) (by kernel_rfl) (by kernel_rfl) (fun _ _ _ h => h) (Or.inl ⟨by rfl, ?_⟩) (by assumption) ?_
    rotate_left
    · (intro w hSw; (try dsimp only at hSw); first | (go_simp; done) | (go_simp; with_reducible rfl))
    simp only [Act.put, List.getElem_toArray, List.getElem_cons_zero, List.getElem_cons_succ, List.setIfInBounds_toArray, List.set_cons_zero, List.set_cons_succ]
    refine wpAnyH_ready (rs := [3]) (by kernel_rfl) (by simp) ?_
    refine AllReadyH.cons rfl (fun K hK => ?_) AllReadyH.nil
    go_simp
    refine (G1.out _).mono ?_
    rintro e' w7 ⟨rfl, hb7⟩
    have B7 := Lib.hid (B0.out.trans (hb7.mono B0.out.size))
    refine hK.out _ _ (SS.out _ B7.out) (fun hHeld2 => ?_)
    clear hK K hHeld hb7
    refine wpAnyH_ready (rs := [7]) (by kernel_rfl) (by simp) ?_
    refine AllReadyH.cons rfl (fun K hK => ?_) AllReadyH.nil
    go_simp
    refine (G2.out _).mono ?_
    rintro e' w8 ⟨rfl, hb8⟩
    have B8 := Lib.hid (B7.out.trans (hb8.mono B7.out.size))
    refine hK.out _ _ (SS.out _ B8.out) (fun hHeld => ?_)
    clear hK K hHeld2 hb8 G1 G2
    refine wpAnyH_take (i := 8) (v := ?_) rfl (by kernel_rfl) (by kernel_rfl) (by kernel_rfl) (fun _ _ _ h => h) (Or.inl ⟨by rfl, ?_⟩) (by assumption) ?_
    rotate_left
    · (intro w hSw; (try dsimp only at hSw); first | (go_simp; done) | (go_simp; with_reducible rfl))
    simp only [Act.put, List.getElem_toArray, List.getElem_cons_zero, List.getElem_cons_succ, List.setIfInBounds_toArray, List.set_cons_zero, List.set_cons_succ]
    refine wpAnyH_take (i := 9) (v := ?_) rfl (by kernel_rfl) (by kernel_rfl) (by kernel_rfl) (fun _ _ _ h => h) (Or.inl ⟨by rfl, ?_⟩) (by assumption) ?_
    rotate_left
    · (intro w hSw; (try dsimp only at hSw); first | (go_simp; done) | (go_simp; with_reducible rfl))
    simp only [Act.put, List.getElem_toArray, List.getElem_cons_zero, List.getElem_cons_succ, List.setIfInBounds_toArray, List.set_cons_zero, List.set_cons_succ]
    refine wpAnyH_done (by kernel_rfl) ?_ _
    clear hHeld k1 kd
    have F := Lib.hid (up BE.out B8.out BE.out.size)
    have wn : IntKind.i64.wrap (-D) = -D := IntWalk.i64_in _ (by omega)
    have vn := (IntWalk.i64_left _).symm.trans wn
    obtain ⟨Z, hZ⟩ : ∃ Z, Z = max D (-D) := ⟨_, rfl⟩
    have hmx : max D (-D) = Z := hZ.symm
    by_cases hgt : x < Z
    · have c1 : decide (x < Z) = true := decide_eq_true hgt
      clear hgt hD hZ i0
      have wk := WK.out
      go_wp2_with fail
      clear wn vn wk
      exact ⟨⟨p + 1, p, Z, _, rfl, by have := HP.out; omega, HP.out, by go_num, rfl, rfl, F.out⟩, by have := HP.out; simp [intOf]; omega⟩
    · have c1 : decide (x < Z) = false := decide_eq_false hgt
      clear hgt hD hZ i0
      have wk := WK.out
      go_wp2_with fail
      clear wn vn wk
      exact ⟨⟨p + 1, t, x, _, rfl, by have := HP.out; omega, HT.out, by go_num, rfl, rfl, F.out⟩, by have := HP.out; simp [intOf]; omega⟩
  · have dp : decide (p < L.length) = false := decide_eq_false hpl
    have F := Lib.hid (up MM.out hb MM.out.size)
    clear hb hp hpl
    go_wp2_with fail
    go_ret
    exact ⟨⟨t, rfl, HT.out⟩, F.out⟩
end Go.Proofs.Ytndhdpjgnepfnaa.tr
