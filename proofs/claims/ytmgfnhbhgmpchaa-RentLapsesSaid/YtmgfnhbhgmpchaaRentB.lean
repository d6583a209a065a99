/-
  Contracts of package rent: Pay, Cost, Stage, Drop, Len.
-/
import Derived.Test.YtmgfnhbhgmpchaaRentA
namespace Go.Proofs.Ytmgfnhbhgmpchaa.rn
open Go.RowKit
open base (ret_bool ret_int made up Blk Only)
open mk
set_option linter.unusedVariables false
set_option linter.unusedSimpArgs false

def payErr (o : Option R3) (p t : Int) : Int :=
  match o with
  | none => 14
  | some d => if okPer p = false ∨ okTick t = false then 11 else if t + 1200 < d.2.2 + p * 100 then 34 else 0
def costOf (o : Option R3) (p : Int) : Int × Int :=
  match o with
  | none => (0, 14)
  | some d => if okPer p = false then (0, 11) else if d.2.1 * p ≤ 1099511627776 then (d.2.1 * p, 0) else (0, 15)
def stageOf (due now : Int) : Int := if now ≤ due then 0 else if 40 < now - due then 5 else (now - due + 9) / 10
theorem get_none {g b c : Nat} {m : Int → Option R3} {n : Int} {w : World} (h : RAt w g b m c) (hw : (Lit.int .i64 n).wf = true) (ho : m n = none) :
    Calls Try.prog 15 #[.pointer (some ⟨g, 0, none⟩), .int .i64 n] w fun e w' => e = .returned (.tuple #[.agg #[.int .i64 0, .int .i64 0, .int .i64 0], .int .i64 14]) ∧ Below w.heap.size w w' := by
  have q := get_any g b c m n w h hw
  rw [ho] at q
  exact q
theorem get_some {g b c : Nat} {m : Int → Option R3} {n : Int} {w : World} (h : RAt w g b m c) (hw : (Lit.int .i64 n).wf = true) {d0 d1 d2 : Int} (ho : m n = some (d0, d1, d2)) :
    Calls Try.prog 15 #[.pointer (some ⟨g, 0, none⟩), .int .i64 n] w fun e w' => e = .returned (.tuple #[.agg #[.int .i64 d0, .int .i64 d1, .int .i64 d2], .int .i64 0]) ∧ Below w.heap.size w w' := by
  have q := get_any g b c m n w h hw
  rw [ho] at q
  exact q
set_option maxRecDepth 100000 in
set_option maxHeartbeats 2000000 in
theorem pay_no (g b c : Nat) (m : Int → Option R3) (n p t : Int) (w : World) (h : RAt w g b m c) (hw : (Lit.int .i64 n).wf = true) (he : payErr (m n) p t ≠ 0) (hdue : ∀ d, m n = some d → 0 ≤ d.2.2 ∧ d.2.2 ≤ 17592186044416) :
    Calls Try.prog 24 #[.pointer (some ⟨g, 0, none⟩), .int .i64 n, .int .i64 p, .int .i64 t] w (ErrP g b m c (payErr (m n) p t) w) := by
  have H := Lib.hid h
  have PE := Lib.hid (fun ws => per_any p ws)
  have TI := Lib.hid (fun ws => tick_any t ws)
  have PE := Lib.hid (PE.out)
  cases ho : m n with
  | none =>
    rw [ho] at he
    have GE := Lib.hid (get_none h hw ho)
    clear ho he hdue hw h PE TI
    have e0 : payErr none p t = 14 := rfl
    rw [e0]
    clear e0
    go_enter Try.func24, Try.ntmps24
    go_wp2_with fail
    refine GE.out.mono ?_
    rintro e w1 ⟨rfl, hb1⟩
    have H1 := Lib.hid (H.out.below hb1)
    have hm := made w1 (.cells #[.int .i64 0, .int .i64 0, .int .i64 0] 38)
    have H2 := Lib.hid (H1.out.below hm)
    have B2 := Lib.hid (up hb1 hm hb1.size)
    have BX2 := Lib.hid (Blk.new w1 38 #[.int .i64 0, .int .i64 0, .int .i64 0])
    have NG := Lib.hid (show g ≠ w1.heap.size by have := H1.out.blk.lt; omega)
    have NB := Lib.hid (show b ≠ w1.heap.size by have := MapIs.lt H1.out.map; omega)
    clear hb1 hm GE
    go_upto_region 2 with fail
    generalize w1.alloc (.cells #[.int .i64 0, .int .i64 0, .int .i64 0] 38) = w2 at *
    have x1 := BX2.out.cell 1
    have x2 := BX2.out.cell 2
    go_wp2_with fail
    go_ret
    exact ⟨rfl, H2.out, Mut.of_below B2.out⟩
  | some d =>
    have hd := hdue d ho
    obtain ⟨d0, d1, d2⟩ := d
    rw [ho] at he
    have GE := Lib.hid (get_some h hw ho)
    have AE := Lib.hid (show payErr (some (d0, d1, d2)) p t = if okPer p = false ∨ okTick t = false then 11 else if t + 1200 < d2 + p * 100 then 34 else 0 from rfl)
    have HE := Lib.hid he
    generalize payErr (some (d0, d1, d2)) p t = er at *
    dsimp only at hd
    obtain ⟨hd0, hd1⟩ := hd
    clear ho he hdue hw h
    cases q1 : okPer p with
    | false =>
      have e1 := AE.out
      rw [if_pos (.inl q1)] at e1
      subst e1
      have PE := Lib.hid (fun ws => per_any p ws)
      rw [q1] at PE
      clear AE
      go_enter Try.func24, Try.ntmps24
      go_wp2_with fail
      refine GE.out.mono ?_
      rintro e w1 ⟨rfl, hb1⟩
      have H1 := Lib.hid (H.out.below hb1)
      have hm := made w1 (.cells #[.int .i64 d0, .int .i64 d1, .int .i64 d2] 38)
      have H2 := Lib.hid (H1.out.below hm)
      have B2 := Lib.hid (up hb1 hm hb1.size)
      have BX2 := Lib.hid (Blk.new w1 38 #[.int .i64 d0, .int .i64 d1, .int .i64 d2])
      have NG := Lib.hid (show g ≠ w1.heap.size by have := H1.out.blk.lt; omega)
      have NB := Lib.hid (show b ≠ w1.heap.size by have := MapIs.lt H1.out.map; omega)
      clear hb1 hm GE
      go_upto_region 4 with fail
      generalize w1.alloc (.cells #[.int .i64 d0, .int .i64 d1, .int .i64 d2] 38) = w2 at *
      have x1 := BX2.out.cell 1
      have x2 := BX2.out.cell 2
      go_wp2_with fail
      refine (PE.out _).mono ?_
      rintro e w5 ⟨rfl, rfl⟩
      go_wp2_with fail
      go_ret
      exact ⟨rfl, H2.out, Mut.of_below B2.out⟩
    | true =>
    cases q2 : okTick t with
    | false =>
      have e1 := AE.out
      rw [if_pos (.inr q2)] at e1
      subst e1
      have PE := Lib.hid (fun ws => per_any p ws)
      rw [q1] at PE
      rw [q2] at TI
      clear AE
      go_enter Try.func24, Try.ntmps24
      go_wp2_with fail
      refine GE.out.mono ?_
      rintro e w1 ⟨rfl, hb1⟩
      have H1 := Lib.hid (H.out.below hb1)
      have hm := made w1 (.cells #[.int .i64 d0, .int .i64 d1, .int .i64 d2] 38)
      have H2 := Lib.hid (H1.out.below hm)
      have B2 := Lib.hid (up hb1 hm hb1.size)
      have BX2 := Lib.hid (Blk.new w1 38 #[.int .i64 d0, .int .i64 d1, .int .i64 d2])
      have NG := Lib.hid (show g ≠ w1.heap.size by have := H1.out.blk.lt; omega)
      have NB := Lib.hid (show b ≠ w1.heap.size by have := MapIs.lt H1.out.map; omega)
      clear hb1 hm GE
      go_upto_region 4 with fail
      generalize w1.alloc (.cells #[.int .i64 d0, .int .i64 d1, .int .i64 d2] 38) = w2 at *
      have x1 := BX2.out.cell 1
      have x2 := BX2.out.cell 2
      go_wp2_with fail
      refine (PE.out _).mono ?_
      rintro e w5 ⟨rfl, rfl⟩
      go_wp2_with fail
      refine (TI.out _).mono ?_
      rintro e w5 ⟨rfl, rfl⟩
      go_wp2_with fail
      go_ret
      exact ⟨rfl, H2.out, Mut.of_below B2.out⟩
    | true =>
      have e1 := AE.out
      rw [if_neg (by rw [q1, q2]; simp)] at e1
      by_cases q3 : t + 1200 < d2 + p * 100
      · rw [if_pos q3] at e1
        subst e1
        have PE := Lib.hid (fun ws => per_any p ws)
        rw [q1] at PE
        rw [q2] at TI
        have qp : 1 ≤ p ∧ p ≤ 12 := by simpa [okPer] using q1
        have qt : 0 ≤ t ∧ t ≤ 1099511627776 := by simpa [okTick] using q2
        obtain ⟨qp0, qp1⟩ := qp
        obtain ⟨qt0, qt1⟩ := qt
        have q3a : decide (t + 1200 < d2 + p * 100) = true := by simpa using q3
        have q3b : decide (d2 + p * 100 > t + 1200) = true := by simpa using q3
        clear AE q3
        go_enter Try.func24, Try.ntmps24
        go_wp2_with fail
        refine GE.out.mono ?_
        rintro e w1 ⟨rfl, hb1⟩
        have B1 := Lib.hid hb1
        have H1 := Lib.hid (H.out.below hb1)
        have hm := made w1 (.cells #[.int .i64 d0, .int .i64 d1, .int .i64 d2] 38)
        have H2 := Lib.hid (H1.out.below hm)
        have B2 := Lib.hid (up hb1 hm hb1.size)
        have BX2 := Lib.hid (Blk.new w1 38 #[.int .i64 d0, .int .i64 d1, .int .i64 d2])
        have NG := Lib.hid (show g ≠ w1.heap.size by have := H1.out.blk.lt; omega)
        have NB := Lib.hid (show b ≠ w1.heap.size by have := MapIs.lt H1.out.map; omega)
        clear hb1 hm GE
        go_upto_region 4 with fail
        generalize w1.alloc (.cells #[.int .i64 d0, .int .i64 d1, .int .i64 d2] 38) = w2 at *
        have x1 := BX2.out.cell 1
        have x2 := BX2.out.cell 2
        go_wp2_with fail
        refine (PE.out _).mono ?_
        rintro e w5 ⟨rfl, rfl⟩
        go_wp2_with fail
        refine (TI.out _).mono ?_
        rintro e w5 ⟨rfl, rfl⟩
        have g2 := BX2.out.free 2
        have BX3 := Lib.hid (BX2.out.put 2 (.int .i64 (d2 + p * 100)))
        have y2 : (w2.setCell ⟨w1.heap.size, 2, none⟩ (.int .i64 (d2 + p * 100))).cell? ⟨w1.heap.size, 2, none⟩ = some (.int .i64 (d2 + p * 100)) := BX3.out.cell 2
        have H3 := Lib.hid (show RAt (w2.setCell ⟨w1.heap.size, 2, none⟩ (.int .i64 (d2 + p * 100))) g b m c from ⟨H2.out.blk.far NG.out _, MapIs.far H2.out.map NB.out _⟩)
        have B3 := Lib.hid (show Below w.heap.size w (w2.setCell ⟨w1.heap.size, 2, none⟩ (.int .i64 (d2 + p * 100))) from B2.out.setCell (p := ⟨w1.heap.size, 2, none⟩) (by have := B1.out.size; exact this) _)
        go_wp2_with fail
        go_ret
        exact ⟨rfl, H3.out, Mut.of_below B3.out⟩
      · rw [if_neg q3] at e1
        exact absurd e1 HE.out
set_option maxRecDepth 100000 in
set_option maxHeartbeats 2000000 in
theorem pay_yes (g b c : Nat) (m : Int → Option R3) (n p t : Int) (w : World) (h : RAt w g b m c) (hw : (Lit.int .i64 n).wf = true) (d0 d1 d2 : Int) (ho : m n = some (d0, d1, d2)) (hdue : 0 ≤ d2 ∧ d2 ≤ 17592186044416) (he : payErr (some (d0, d1, d2)) p t = 0) (hc : c < 1000000) :
    Calls Try.prog 24 #[.pointer (some ⟨g, 0, none⟩), .int .i64 n, .int .i64 p, .int .i64 t] w (ErrP g b (set m n (some (d0, d1, d2 + p * 100))) c 0 w) := by
  have he1 : (if okPer p = false ∨ okTick t = false then (11 : Int) else if t + 1200 < d2 + p * 100 then 34 else 0) = 0 := he
  split at he1
  · exact absurd he1 (by decide)
  rename_i q0
  split at he1
  · exact absurd he1 (by decide)
  rename_i q3
  have q1 : okPer p = true := by
    cases q : okPer p with
    | true => rfl
    | false => exact absurd (.inl q) q0
  have q2 : okTick t = true := by
    cases q : okTick t with
    | true => rfl
    | false => exact absurd (.inr q) q0
  have qp : 1 ≤ p ∧ p ≤ 12 := by simpa [okPer] using q1
  have qt : 0 ≤ t ∧ t ≤ 1099511627776 := by simpa [okTick] using q2
  obtain ⟨qp0, qp1⟩ := qp
  obtain ⟨qt0, qt1⟩ := qt
  obtain ⟨hd0, hd1⟩ := hdue
  have H := Lib.hid h
  have HW := Lib.hid hw
  have GE := Lib.hid (get_some h hw ho)
  have GM := Lib.hid (show gv m n = some (row (d0, d1, d2)) from by unfold gv; rw [ho]; rfl)
  have PE := Lib.hid (fun ws => per_any p ws)
  have TI := Lib.hid (fun ws => tick_any t ws)
  rw [q1] at PE
  rw [q2] at TI
  have q3a : decide (t + 1200 < d2 + p * 100) = false := by simp; omega
  have q3b : decide (d2 + p * 100 > t + 1200) = false := by simp; omega
  clear h hw ho he he1 q0 q3 q1 q2
  go_enter Try.func24, Try.ntmps24
  go_wp2_with fail
  refine GE.out.mono ?_
  rintro e w1 ⟨rfl, hb1⟩
  have B1 := Lib.hid hb1
  have H1 := Lib.hid (H.out.below hb1)
  have hm := made w1 (.cells #[.int .i64 d0, .int .i64 d1, .int .i64 d2] 38)
  have H2 := Lib.hid (H1.out.below hm)
  have B2 := Lib.hid (up hb1 hm hb1.size)
  have BX2 := Lib.hid (Blk.new w1 38 #[.int .i64 d0, .int .i64 d1, .int .i64 d2])
  have NG := Lib.hid (show g ≠ w1.heap.size by have := H1.out.blk.lt; omega)
  have NB := Lib.hid (show b ≠ w1.heap.size by have := MapIs.lt H1.out.map; omega)
  clear hb1 hm GE
  go_upto_region 4 with fail
  generalize w1.alloc (.cells #[.int .i64 d0, .int .i64 d1, .int .i64 d2] 38) = w2 at *
  have x1 := BX2.out.cell 1
  have x2 := BX2.out.cell 2
  go_wp2_with fail
  refine (PE.out _).mono ?_
  rintro e w5 ⟨rfl, rfl⟩
  go_wp2_with fail
  refine (TI.out _).mono ?_
  rintro e w5 ⟨rfl, rfl⟩
  have g2 := BX2.out.free 2
  have BX3 := Lib.hid (BX2.out.put 2 (.int .i64 (d2 + p * 100)))
  have y2 : (w2.setCell ⟨w1.heap.size, 2, none⟩ (.int .i64 (d2 + p * 100))).cell? ⟨w1.heap.size, 2, none⟩ = some (.int .i64 (d2 + p * 100)) := BX3.out.cell 2
  have H3 := Lib.hid (show RAt (w2.setCell ⟨w1.heap.size, 2, none⟩ (.int .i64 (d2 + p * 100))) g b m c from ⟨H2.out.blk.far NG.out _, MapIs.far H2.out.map NB.out _⟩)
  have B3 := Lib.hid (show Below w.heap.size w (w2.setCell ⟨w1.heap.size, 2, none⟩ (.int .i64 (d2 + p * 100))) from B2.out.setCell (p := ⟨w1.heap.size, 2, none⟩) (by have := B1.out.size; exact this) _)
  go_upto_region 9 with fail
  clear y2 x1 x2 g2
  generalize w2.setCell ⟨w1.heap.size, 2, none⟩ (.int .i64 (d2 + p * 100)) = w3 at *
  have H4 := Lib.hid (show RAt w3.drew g b m c from ⟨H3.out.blk.drewN 1, MapIs.drewN H3.out.map 1⟩)
  obtain ⟨w4, hrun, hmp, hon⟩ := IMap.store (t := 56) H4.out.map Try.underlying3 Try.underlying56 (by unfold maxLen; omega) HW.out (.agg #[.int .i64 d0, .int .i64 d1, .int .i64 (d2 + p * 100)])
  rw [GM.out] at hmp
  have R4 := Lib.hid (show RAt w4 g b (set m n (some (d0, d1, d2 + p * 100))) c from ⟨H4.out.blk.only hon (fun e => H4.out.ne e.symm), by
    have := gv_set m n (some (d0, d1, d2 + p * 100))
    rw [← this]
    exact hmp⟩)
  have M4 := Lib.hid (show Mut b w w4 from (Mut.of_below (b := b) B3.out.drew).then_ hon)
  have BX4 := Lib.hid ((BX3.out.drewN 1).only hon (fun e => NB.out e.symm))
  have S3 := Lib.hid (show w3.drew.cell? ⟨g, 0, none⟩ = some (.map (some b)) ∧ w3.drew.cell? ⟨w1.heap.size, 0, none⟩ = some (.int .i64 d0) ∧ w3.drew.cell? ⟨w1.heap.size, 1, none⟩ = some (.int .i64 d1) ∧ w3.drew.cell? ⟨w1.heap.size, 2, none⟩ = some (.int .i64 (d2 + p * 100)) from ⟨(H3.out.blk.drewN 1).cell 0, (BX3.out.drewN 1).cell 0, (BX3.out.drewN 1).cell 1, (BX3.out.drewN 1).cell 2⟩)
  have S4 := Lib.hid (show w4.cell? ⟨g, 0, none⟩ = some (.map (some b)) ∧ w4.cell? ⟨w1.heap.size, 0, none⟩ = some (.int .i64 d0) ∧ w4.cell? ⟨w1.heap.size, 1, none⟩ = some (.int .i64 d1) ∧ w4.cell? ⟨w1.heap.size, 2, none⟩ = some (.int .i64 (d2 + p * 100)) from ⟨R4.out.blk.cell 0, BX4.out.cell 0, BX4.out.cell 1, BX4.out.cell 2⟩)
  clear hmp hon
  refine wp_region_held_drew (S := fun ws => ws.cell? ⟨g, 0, none⟩ = some (.map (some b)) ∧ ws.cell? ⟨w1.heap.size, 0, none⟩ = some (.int .i64 d0) ∧ ws.cell? ⟨w1.heap.size, 1, none⟩ = some (.int .i64 d1) ∧ ws.cell? ⟨w1.heap.size, 2, none⟩ = some (.int .i64 (d2 + p * 100))) (by kernel_rfl) S3.out (fun hHeld => ?_)
  refine wpAnyH_take (i := 0) (v := ?_) rfl (by kernel_rfl) (by kernel_rfl) (by kernel_rfl) (fun _ _ _ h => h) (Or.inl ⟨by rfl, ?_⟩) (by assumption) ?_
  rotate_left
  · (intro w hSw; (try dsimp only at hSw); first | (go_simp; done) | (go_simp; with_reducible rfl))
  simp only [Act.put, List.getElem_toArray, List.getElem_cons_zero, List.getElem_cons_succ, List.setIfInBounds_toArray, List.set_cons_zero, List.set_cons_succ]
  refine wpAnyH_take (i := 1) (v := ?_) rfl (by kernel_rfl) (by kernel_rfl) (by kernel_rfl) (fun _ _ _ h => h) (Or.inl ⟨by rfl, ?_⟩) (by assumption) ?_
  rotate_left
  · (intro w hSw; (try dsimp only at hSw); first | (go_simp; done) | (go_simp; with_reducible rfl))
  simp only [Act.put, List.getElem_toArray, List.getElem_cons_zero, List.getElem_cons_succ, List.setIfInBounds_toArray, List.set_cons_zero, List.set_cons_succ]
  refine wpAnyH_take (i := 2) (v := ?_) rfl (by kernel_rfl) (by kernel_rfl) (by kernel_rfl) (fun _ _ _ h => h) (Or.inl ⟨by rfl, ?_⟩) (by assumption) ?_
  rotate_left
  · (intro w hSw; (try dsimp only at hSw); first | (go_simp; done) | (go_simp; with_reducible rfl))
  simp only [Act.put, List.getElem_toArray, List.getElem_cons_zero, List.getElem_cons_succ, List.setIfInBounds_toArray, List.set_cons_zero, List.set_cons_succ]
  refine wpAnyH_take (i := 3) (v := ?_) rfl (by kernel_rfl) (by kernel_rfl) (by kernel_rfl) (fun _ _ _ h => h) (Or.inl ⟨by rfl, ?_⟩) (by assumption) ?_
  rotate_left
  · (intro w hSw; (try dsimp only at hSw); first | (go_simp; done) | (go_simp; with_reducible rfl))
  simp only [Act.put, List.getElem_toArray, List.getElem_cons_zero, List.getElem_cons_succ, List.setIfInBounds_toArray, List.set_cons_zero, List.set_cons_succ]
  refine wpAnyH_take (i := 4) (v := ?_) rfl (by kernel_rfl) (by kernel_rfl) (by kernel_rfl) (fun _ _ _ h => h) (Or.inl ⟨by rfl, ?_⟩) (by assumption) ?_
  rotate_left
  · (intro w hSw; (try dsimp only at hSw); first | (go_simp; done) | (go_simp; with_reducible rfl))
  simp only [Act.put, List.getElem_toArray, List.getElem_cons_zero, List.getElem_cons_succ, List.setIfInBounds_toArray, List.set_cons_zero, List.set_cons_succ]
  refine wpAnyH_take (i := 5) (v := ?_) rfl (by kernel_rfl) (by kernel_rfl) (by kernel_rfl) (fun _ _ _ h => h) (Or.inl ⟨by rfl, ?_⟩) (by assumption) ?_
  rotate_left
  · (intro w hSw; (try dsimp only at hSw); first | (go_simp; done) | (go_simp; with_reducible rfl))
  simp only [Act.put, List.getElem_toArray, List.getElem_cons_zero, List.getElem_cons_succ, List.setIfInBounds_toArray, List.set_cons_zero, List.set_cons_succ]
  refine wpAnyH_ready (rs := [6]) (by kernel_rfl) (by simp) ?_
  refine AllReadyH.cons rfl (fun K hK => ?_) AllReadyH.nil
  go_simp
  refine hK.out _ _ S4.out (fun hH1 => ?_)
  clear hK K hHeld hrun
  refine wpAnyH_done (by kernel_rfl) ?_ _
  clear hH1
  go_wp2_with fail
  go_ret
  exact ⟨rfl, R4.out, M4.out⟩
set_option maxRecDepth 100000 in
set_option maxHeartbeats 2000000 in
theorem cost_any (g b c : Nat) (m : Int → Option R3) (n p : Int) (w : World) (h : RAt w g b m c) (hw : (Lit.int .i64 n).wf = true) (hr : ∀ d, m n = some d → 1 ≤ d.2.1 ∧ d.2.1 ≤ 1099511627776) :
    Calls Try.prog 13 #[.pointer (some ⟨g, 0, none⟩), .int .i64 n, .int .i64 p] w fun e w' => e = .returned (.tuple #[.int .i64 (costOf (m n) p).1, .int .i64 (costOf (m n) p).2]) ∧ Below w.heap.size w w' := by
  have H := Lib.hid h
  have PE := Lib.hid (fun ws => per_any p ws)
  cases ho : m n with
  | none =>
    have GE := Lib.hid (get_none h hw ho)
    clear ho hw h PE hr
    have e0 : costOf none p = (0, 14) := rfl
    rw [e0]
    clear e0
    go_enter Try.func13, Try.ntmps13
    go_wp2_with fail
    refine GE.out.mono ?_
    rintro e w1 ⟨rfl, hb1⟩
    have H1 := Lib.hid (H.out.below hb1)
    have hm := made w1 (.cells #[.int .i64 0, .int .i64 0, .int .i64 0] 38)
    have H2 := Lib.hid (H1.out.below hm)
    have B2 := Lib.hid (up hb1 hm hb1.size)
    have BX2 := Lib.hid (Blk.new w1 38 #[.int .i64 0, .int .i64 0, .int .i64 0])
    have NG := Lib.hid (show g ≠ w1.heap.size by have := H1.out.blk.lt; omega)
    have NB := Lib.hid (show b ≠ w1.heap.size by have := MapIs.lt H1.out.map; omega)
    clear hb1 hm GE
    go_upto_region 2 with fail
    generalize w1.alloc (.cells #[.int .i64 0, .int .i64 0, .int .i64 0] 38) = w2 at *
    have x1 := BX2.out.cell 1
    have x2 := BX2.out.cell 2
    go_wp2_with fail
    go_ret2
    exact ⟨rfl, B2.out⟩
  | some d =>
    have hd := hr d ho
    obtain ⟨d0, d1, d2⟩ := d
    have GE := Lib.hid (get_some h hw ho)
    have AE := Lib.hid (show costOf (some (d0, d1, d2)) p = if okPer p = false then (0, 11) else if d1 * p ≤ 1099511627776 then (d1 * p, 0) else (0, 15) from rfl)
    generalize costOf (some (d0, d1, d2)) p = er at *
    dsimp only at hd
    obtain ⟨hd0, hd1⟩ := hd
    clear ho hw h hr
    cases q1 : okPer p with
    | false =>
      have e1 := AE.out
      rw [if_pos q1] at e1
      subst e1
      rw [q1] at PE
      clear AE
      go_enter Try.func13, Try.ntmps13
      go_wp2_with fail
      refine GE.out.mono ?_
      rintro e w1 ⟨rfl, hb1⟩
      have H1 := Lib.hid (H.out.below hb1)
      have hm := made w1 (.cells #[.int .i64 d0, .int .i64 d1, .int .i64 d2] 38)
      have H2 := Lib.hid (H1.out.below hm)
      have B2 := Lib.hid (up hb1 hm hb1.size)
      have BX2 := Lib.hid (Blk.new w1 38 #[.int .i64 d0, .int .i64 d1, .int .i64 d2])
      have NG := Lib.hid (show g ≠ w1.heap.size by have := H1.out.blk.lt; omega)
      have NB := Lib.hid (show b ≠ w1.heap.size by have := MapIs.lt H1.out.map; omega)
      clear hb1 hm GE
      go_upto_region 4 with fail
      generalize w1.alloc (.cells #[.int .i64 d0, .int .i64 d1, .int .i64 d2] 38) = w2 at *
      have x1 := BX2.out.cell 1
      have x2 := BX2.out.cell 2
      go_wp2_with fail
      refine (PE.out _).mono ?_
      rintro e w5 ⟨rfl, rfl⟩
      go_wp2_with fail
      go_ret2
      exact ⟨rfl, B2.out⟩
    | true =>
    rw [q1] at PE
    have qp : 1 ≤ p ∧ p ≤ 12 := by simpa [okPer] using q1
    obtain ⟨qp0, qp1⟩ := qp
    have e1 := AE.out
    rw [if_neg (by rw [q1]; simp)] at e1
    clear AE
    by_cases q2 : d1 * p ≤ 1099511627776
    · rw [if_pos q2] at e1
      subst e1
      have TM := Lib.hid (fun ws => gold.times_ok d1 p ws (gold.right_mk (by omega) hd1) (by omega) q2)
      generalize d1 * p = z at *
      clear q2 q1
      go_enter Try.func13, Try.ntmps13
      go_wp2_with fail
      refine GE.out.mono ?_
      rintro e w1 ⟨rfl, hb1⟩
      have H1 := Lib.hid (H.out.below hb1)
      have hm := made w1 (.cells #[.int .i64 d0, .int .i64 d1, .int .i64 d2] 38)
      have H2 := Lib.hid (H1.out.below hm)
      have B2 := Lib.hid (up hb1 hm hb1.size)
      have BX2 := Lib.hid (Blk.new w1 38 #[.int .i64 d0, .int .i64 d1, .int .i64 d2])
      have NG := Lib.hid (show g ≠ w1.heap.size by have := H1.out.blk.lt; omega)
      have NB := Lib.hid (show b ≠ w1.heap.size by have := MapIs.lt H1.out.map; omega)
      clear hb1 hm GE
      go_upto_region 4 with fail
      generalize w1.alloc (.cells #[.int .i64 d0, .int .i64 d1, .int .i64 d2] 38) = w2 at *
      have x1 := BX2.out.cell 1
      have x2 := BX2.out.cell 2
      go_wp2_with fail
      refine (PE.out _).mono ?_
      rintro e w5 ⟨rfl, rfl⟩
      go_wp2_with fail
      refine (TM.out _).mono ?_
      rintro e w5 ⟨rfl, rfl⟩
      go_wp2_with fail
      go_ret2
      exact ⟨rfl, B2.out⟩
    · rw [if_neg q2] at e1
      subst e1
      have TM := Lib.hid (fun ws => gold.times_over d1 p ws (gold.right_mk (by omega) hd1) (by omega) (by omega))
      clear q2 q1
      go_enter Try.func13, Try.ntmps13
      go_wp2_with fail
      refine GE.out.mono ?_
      rintro e w1 ⟨rfl, hb1⟩
      have H1 := Lib.hid (H.out.below hb1)
      have hm := made w1 (.cells #[.int .i64 d0, .int .i64 d1, .int .i64 d2] 38)
      have H2 := Lib.hid (H1.out.below hm)
      have B2 := Lib.hid (up hb1 hm hb1.size)
      have BX2 := Lib.hid (Blk.new w1 38 #[.int .i64 d0, .int .i64 d1, .int .i64 d2])
      have NG := Lib.hid (show g ≠ w1.heap.size by have := H1.out.blk.lt; omega)
      have NB := Lib.hid (show b ≠ w1.heap.size by have := MapIs.lt H1.out.map; omega)
      clear hb1 hm GE
      go_upto_region 4 with fail
      generalize w1.alloc (.cells #[.int .i64 d0, .int .i64 d1, .int .i64 d2] 38) = w2 at *
      have x1 := BX2.out.cell 1
      have x2 := BX2.out.cell 2
      go_wp2_with fail
      refine (PE.out _).mono ?_
      rintro e w5 ⟨rfl, rfl⟩
      go_wp2_with fail
      refine (TM.out _).mono ?_
      rintro e w5 ⟨rfl, rfl⟩
      go_wp2_with fail
      go_ret2
      exact ⟨rfl, B2.out⟩
set_option maxRecDepth 100000 in
set_option maxHeartbeats 2000000 in
theorem stage_none (g b c : Nat) (m : Int → Option R3) (n t : Int) (w : World) (h : RAt w g b m c) (hw : (Lit.int .i64 n).wf = true) (ho : m n = none) :
    Calls Try.prog 12 #[.pointer (some ⟨g, 0, none⟩), .int .i64 n, .int .i64 t] w fun e w' => e = .returned (.tuple #[.int .i64 0, .int .i64 14]) ∧ Below w.heap.size w w' := by
  have H := Lib.hid h
  have GE := Lib.hid (get_none h hw ho)
  clear ho hw h
  go_enter Try.func12, Try.ntmps12
  go_wp2_with fail
  refine GE.out.mono ?_
  rintro e w1 ⟨rfl, hb1⟩
  have H1 := Lib.hid (H.out.below hb1)
  have hm := made w1 (.cells #[.int .i64 0, .int .i64 0, .int .i64 0] 38)
  have H2 := Lib.hid (H1.out.below hm)
  have B2 := Lib.hid (up hb1 hm hb1.size)
  have BX2 := Lib.hid (Blk.new w1 38 #[.int .i64 0, .int .i64 0, .int .i64 0])
  have NG := Lib.hid (show g ≠ w1.heap.size by have := H1.out.blk.lt; omega)
  have NB := Lib.hid (show b ≠ w1.heap.size by have := MapIs.lt H1.out.map; omega)
  clear hb1 hm GE
  go_upto_region 2 with fail
  generalize w1.alloc (.cells #[.int .i64 0, .int .i64 0, .int .i64 0] 38) = w2 at *
  have x1 := BX2.out.cell 1
  have x2 := BX2.out.cell 2
  go_wp2_with fail
  go_ret2
  exact ⟨rfl, B2.out⟩
set_option maxRecDepth 100000 in
set_option maxHeartbeats 2000000 in
theorem stage_some (g b c : Nat) (m : Int → Option R3) (n t : Int) (w : World) (h : RAt w g b m c) (hw : (Lit.int .i64 n).wf = true) (d0 d1 d2 : Int) (ho : m n = some (d0, d1, d2)) (hd0 : 0 ≤ d2) (hd1 : d2 ≤ 17592186044416) (ht : t ≤ 9223372036854775807) :
    Calls Try.prog 12 #[.pointer (some ⟨g, 0, none⟩), .int .i64 n, .int .i64 t] w fun e w' => e = .returned (.tuple #[.int .i64 (stageOf d2 t), .int .i64 0]) ∧ Below w.heap.size w w' := by
  have H := Lib.hid h
  have GE := Lib.hid (get_some h hw ho)
  have AE := Lib.hid (show stageOf d2 t = if t ≤ d2 then 0 else if 40 < t - d2 then 5 else (t - d2 + 9) / 10 from rfl)
  generalize stageOf d2 t = er at *
  clear ho hw h
  have e1 := AE.out
  clear AE
  by_cases q1 : t ≤ d2
  · rw [if_pos q1] at e1
    subst e1
    go_enter Try.func12, Try.ntmps12
    go_wp2_with fail
    refine GE.out.mono ?_
    rintro e w1 ⟨rfl, hb1⟩
    have H1 := Lib.hid (H.out.below hb1)
    have hm := made w1 (.cells #[.int .i64 d0, .int .i64 d1, .int .i64 d2] 38)
    have H2 := Lib.hid (H1.out.below hm)
    have B2 := Lib.hid (up hb1 hm hb1.size)
    have BX2 := Lib.hid (Blk.new w1 38 #[.int .i64 d0, .int .i64 d1, .int .i64 d2])
    have NG := Lib.hid (show g ≠ w1.heap.size by have := H1.out.blk.lt; omega)
    have NB := Lib.hid (show b ≠ w1.heap.size by have := MapIs.lt H1.out.map; omega)
    clear hb1 hm GE
    go_upto_region 4 with fail
    generalize w1.alloc (.cells #[.int .i64 d0, .int .i64 d1, .int .i64 d2] 38) = w2 at *
    have x1 := BX2.out.cell 1
    have x2 := BX2.out.cell 2
    go_wp2_with fail
    go_ret2
    exact ⟨rfl, B2.out⟩
  · rw [if_neg q1] at e1
    have q1a : 0 ≤ t - d2 := by omega
    by_cases q2 : 40 < t - d2
    · rw [if_pos q2] at e1
      subst e1
      go_enter Try.func12, Try.ntmps12
      go_wp2_with fail
      refine GE.out.mono ?_
      rintro e w1 ⟨rfl, hb1⟩
      have H1 := Lib.hid (H.out.below hb1)
      have hm := made w1 (.cells #[.int .i64 d0, .int .i64 d1, .int .i64 d2] 38)
      have H2 := Lib.hid (H1.out.below hm)
      have B2 := Lib.hid (up hb1 hm hb1.size)
      have BX2 := Lib.hid (Blk.new w1 38 #[.int .i64 d0, .int .i64 d1, .int .i64 d2])
      have NG := Lib.hid (show g ≠ w1.heap.size by have := H1.out.blk.lt; omega)
      have NB := Lib.hid (show b ≠ w1.heap.size by have := MapIs.lt H1.out.map; omega)
      clear hb1 hm GE
      go_upto_region 4 with fail
      generalize w1.alloc (.cells #[.int .i64 d0, .int .i64 d1, .int .i64 d2] 38) = w2 at *
      have x1 := BX2.out.cell 1
      have x2 := BX2.out.cell 2
      go_wp2_with fail
      go_ret2
      exact ⟨rfl, B2.out⟩
    · rw [if_neg q2] at e1
      have e2 : er = (t - d2 + 10 - 1) / 10 := by rw [e1]; congr 1; omega
      clear e1
      subst e2
      go_enter Try.func12, Try.ntmps12
      go_wp2_with fail
      refine GE.out.mono ?_
      rintro e w1 ⟨rfl, hb1⟩
      have H1 := Lib.hid (H.out.below hb1)
      have hm := made w1 (.cells #[.int .i64 d0, .int .i64 d1, .int .i64 d2] 38)
      have H2 := Lib.hid (H1.out.below hm)
      have B2 := Lib.hid (up hb1 hm hb1.size)
      have BX2 := Lib.hid (Blk.new w1 38 #[.int .i64 d0, .int .i64 d1, .int .i64 d2])
      have NG := Lib.hid (show g ≠ w1.heap.size by have := H1.out.blk.lt; omega)
      have NB := Lib.hid (show b ≠ w1.heap.size by have := MapIs.lt H1.out.map; omega)
      clear hb1 hm GE
      go_upto_region 4 with fail
      generalize w1.alloc (.cells #[.int .i64 d0, .int .i64 d1, .int .i64 d2] 38) = w2 at *
      have x1 := BX2.out.cell 1
      have x2 := BX2.out.cell 2
      go_wp2_with fail
      go_ret2
      exact ⟨rfl, B2.out⟩
set_option maxRecDepth 100000 in
set_option maxHeartbeats 2000000 in
theorem len_any (g b c : Nat) (m : Int → Option R3) (w : World) (h : RAt w g b m c) : Calls Try.prog 25 #[.pointer (some ⟨g, 0, none⟩)] w fun e w' => e = .returned (.int .i64 c) ∧ w = w' := by
  have c0 := h.blk.cell 0
  have ln := fun ty => MapIs.len (t := 56) (e := 38) h.map Try.underlying56 ty
  clear h
  go_enter Try.func25, Try.ntmps25
  go_wp2_with fail
  go_ret
  exact ⟨rfl, rfl⟩
end Go.Proofs.Ytmgfnhbhgmpchaa.rn
