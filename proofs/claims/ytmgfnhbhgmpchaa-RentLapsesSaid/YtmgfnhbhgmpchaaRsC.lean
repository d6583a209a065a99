/-
  The reference's Add, Pay; the package's Drop; one call of both.
-/
import Derived.Test.YtmgfnhbhgmpchaaRsB
namespace Go.Proofs.Ytmgfnhbhgmpchaa.rn
open Go.RowKit
open base (ret_bool ret_int made up Blk Only)
open rk mk
set_option linter.unusedVariables false
set_option linter.unusedSimpArgs false

def TwoP (B : Nat) (r : List R3 × Int) (w : World) (e : Ending) (w' : World) : Prop := ∃ v, e = .returned (.tuple #[v, .int .i64 r.2]) ∧ Own E3 w' B 42 v r.1 ∧ Below w.heap.size w w'
theorem own_lay {w : World} {B c : Nat} {A : Option Addr} {L : List R3} (h : Own E3 w B 42 (.slice A L.length c) L) : Lay E3 w A L := by
  obtain ⟨A', c', e, h2, _⟩ := h.open_
  injection e with e1 e2 e3
  subst e1
  exact h2
set_option maxRecDepth 100000 in
set_option maxHeartbeats 4000000 in
theorem radd_no (A : Option Addr) (c : Nat) (L : List R3) (n r t : Int) (B : Nat) (w : World) (ho : Own E3 w B 42 (.slice A L.length c) L) (hl : L.length ≤ 100000) (he : addErr (look L) n r t ≠ 0) :
    Calls Try.prog 26 #[.slice A L.length c, .int .i64 n, .int .i64 r, .int .i64 t] w (TwoP B (L, addErr (look L) n r t) w) := by
  have HO := Lib.hid ho
  have AE := Lib.hid (show addErr (look L) n r t = if n < 1 then 10 else if okRate r = false ∨ okTick t = false then 11 else if (look L n).isSome then 13 else 0 from rfl)
  have HE := Lib.hid he
  have RF := Lib.hid (rfind_any A c L n w (own_lay ho) hl)
  have LN := Lib.hid (fun (h : fi (isH n) L = none) => look_none h)
  generalize addErr (look L) n r t = er at *
  clear ho he
  by_cases q1 : n < 1
  · have e1 := AE.out
    rw [if_pos q1] at e1
    subst e1
    go_enter Try.func26, Try.ntmps26
    go_wp2_with fail
    go_ret2
    exact ⟨_, rfl, HO.out, Below.refl _ _⟩
  by_cases q2 : r < 1
  · have e1 := AE.out
    rw [if_neg q1, if_pos (.inl (by unfold okRate; simp; omega))] at e1
    subst e1
    go_enter Try.func26, Try.ntmps26
    go_wp2_with fail
    go_ret2
    exact ⟨_, rfl, HO.out, Below.refl _ _⟩
  by_cases q3 : 1099511627776 < r
  · have e1 := AE.out
    rw [if_neg q1, if_pos (.inl (by unfold okRate; simp; omega))] at e1
    subst e1
    go_enter Try.func26, Try.ntmps26
    go_wp2_with fail
    go_ret2
    exact ⟨_, rfl, HO.out, Below.refl _ _⟩
  by_cases q4 : t < 0
  · have e1 := AE.out
    rw [if_neg q1, if_pos (.inr (by unfold okTick; simp; omega))] at e1
    subst e1
    go_enter Try.func26, Try.ntmps26
    go_wp2_with fail
    go_ret2
    exact ⟨_, rfl, HO.out, Below.refl _ _⟩
  by_cases q5 : 1099511627776 < t
  · have e1 := AE.out
    rw [if_neg q1, if_pos (.inr (by unfold okTick; simp; omega))] at e1
    subst e1
    go_enter Try.func26, Try.ntmps26
    go_wp2_with fail
    go_ret2
    exact ⟨_, rfl, HO.out, Below.refl _ _⟩
  have e1 := AE.out
  rw [if_neg q1, if_neg (by unfold okRate okTick; simp; omega)] at e1
  cases q6 : fi (isH n) L with
  | none =>
    rw [LN.out q6] at e1
    exact absurd e1 HE.out
  | some i =>
    obtain ⟨hi, h1, h2⟩ := look_some q6
    rw [h1] at e1
    have e2 : er = 13 := e1
    clear e1 h1
    subst e2
    rw [q6] at RF
    dsimp only [ix] at RF
    clear q6 h2
    go_enter Try.func26, Try.ntmps26
    go_wp2_with fail
    refine RF.out.mono ?_
    rintro e w1 ⟨rfl, rfl⟩
    go_wp2_with fail
    go_ret2
    exact ⟨_, rfl, HO.out, Below.refl _ _⟩
set_option maxRecDepth 100000 in
set_option maxHeartbeats 4000000 in
theorem radd_yes (A : Option Addr) (c : Nat) (L : List R3) (n r t : Int) (B : Nat) (w : World) (ho : Own E3 w B 42 (.slice A L.length c) L) (hl : L.length ≤ 100000) (hB : B ≤ w.heap.size) (he : addErr (look L) n r t = 0) :
    Calls Try.prog 26 #[.slice A L.length c, .int .i64 n, .int .i64 r, .int .i64 t] w (TwoP B (putL L (n, r, t + 100), 0) w) := by
  have he1 : (if n < 1 then (10 : Int) else if okRate r = false ∨ okTick t = false then 11 else if (look L n).isSome then 13 else 0) = 0 := he
  split at he1
  · exact absurd he1 (by decide)
  rename_i q1
  split at he1
  · exact absurd he1 (by decide)
  rename_i q2
  split at he1
  · exact absurd he1 (by decide)
  rename_i q3
  have q4 : okRate r = true := by
    cases q : okRate r with
    | true => rfl
    | false => exact absurd (.inl q) q2
  have q5 : okTick t = true := by
    cases q : okTick t with
    | true => rfl
    | false => exact absurd (.inr q) q2
  have qt : 0 ≤ t ∧ t ≤ 1099511627776 := by simpa [okTick] using q5
  have qr : 1 ≤ r ∧ r ≤ 1099511627776 := by simpa [okRate] using q4
  obtain ⟨qt0, qt1⟩ := qt
  obtain ⟨qr0, qr1⟩ := qr
  have q6 : fi (isH n) L = none := by
    cases q : fi (isH n) L with
    | none => rfl
    | some i =>
      obtain ⟨hi, h1, _⟩ := look_some q
      exact absurd (by rw [h1]; rfl) q3
  have RF := Lib.hid (rfind_any A c L n w (own_lay ho) hl)
  have PU := Lib.hid (rput_any A c L n r (t + 100) B w (own_lay ho) hl hB)
  rw [q6] at RF
  dsimp only [ix] at RF
  clear ho q2 q3 q4 q5 q6 he he1
  go_enter Try.func26, Try.ntmps26
  go_wp2_with fail
  refine RF.out.mono ?_
  rintro e w1 ⟨rfl, rfl⟩
  go_wp2_with fail
  refine PU.out.mono ?_
  rintro e w1 ⟨v1, rfl, ho1, hb1⟩
  have O1 := Lib.hid ho1
  have B1 := Lib.hid hb1
  obtain ⟨A1, c1, rfl, -⟩ := ho1.open_
  clear ho1 hb1 PU RF
  go_wp2_with fail
  go_ret2
  exact ⟨_, rfl, O1.out, B1.out⟩
set_option maxRecDepth 100000 in
set_option maxHeartbeats 4000000 in
theorem rpay_any (A : Option Addr) (c : Nat) (L : List R3) (n p t : Int) (B : Nat) (w : World) (ho : Own E3 w B 42 (.slice A L.length c) L) (hl : L.length ≤ 100000) (hB : B ≤ w.heap.size) (hg : ∀ d, d ∈ L → 0 ≤ d.2.2 ∧ d.2.2 ≤ 17592186044416) :
    Calls Try.prog 27 #[.slice A L.length c, .int .i64 n, .int .i64 p, .int .i64 t] w (TwoP B (rpay L n p t) w) := by
  have HO := Lib.hid ho
  have HB := Lib.hid hB
  have AE := Lib.hid (show rpay L n p t = if payErr (look L n) p t = 0 then (putL L (((look L n).getD (0, 0, 0)).1, ((look L n).getD (0, 0, 0)).2.1, ((look L n).getD (0, 0, 0)).2.2 + p * 100), 0) else (L, payErr (look L n) p t) from rfl)
  have RF := Lib.hid (rfind_any A c L n w (own_lay ho) hl)
  generalize rpay L n p t = er at *
  clear ho hB
  cases q0 : fi (isH n) L with
  | none =>
    have e1 := AE.out
    rw [look_none q0] at e1
    rw [if_neg (show ¬ payErr none p t = 0 from (by decide : ¬ (14 : Int) = 0))] at e1
    have e2 : er = (L, 14) := e1
    clear e1
    subst e2
    rw [q0] at RF
    dsimp only [ix] at RF
    clear q0 AE
    go_enter Try.func27, Try.ntmps27
    go_wp2_with fail
    refine RF.out.mono ?_
    rintro e w1 ⟨rfl, rfl⟩
    go_wp2_with fail
    go_ret2
    exact ⟨_, rfl, HO.out, Below.refl _ _⟩
  | some i =>
    obtain ⟨hi, h1, h2⟩ := look_some q0
    have gd := hg _ (List.getElem_mem hi)
    rw [q0] at RF
    dsimp only [ix] at RF
    have AE2 := Lib.hid (show er = if payErr (some L[i]) p t = 0 then (putL L (L[i].1, L[i].2.1, L[i].2.2 + p * 100), 0) else (L, payErr (some L[i]) p t) from by rw [AE.out, h1]; rfl)
    obtain ⟨d, hdd⟩ : ∃ d, L[i] = d := ⟨_, rfl⟩
    rw [hdd] at AE2 gd
    obtain ⟨d0, d1, d2⟩ := d
    dsimp only at AE2 gd
    obtain ⟨gd0, gd1⟩ := gd
    clear h1 h2 q0 AE hg
    have PE := Lib.hid (show payErr (some (d0, d1, d2)) p t = if okPer p = false ∨ okTick t = false then 11 else if t + 1200 < d2 + p * 100 then 34 else 0 from rfl)
    generalize payErr (some (d0, d1, d2)) p t = pe at *
    by_cases q1 : p < 1
    · have e1 := PE.out
      rw [if_pos (.inl (by unfold okPer; simp; omega))] at e1
      have e2 := AE2.out
      rw [e1, if_neg (by decide)] at e2
      clear e1
      subst e2
      clear PE AE2 hdd
      go_enter Try.func27, Try.ntmps27
      go_wp2_with fail
      refine RF.out.mono ?_
      rintro e w1 ⟨rfl, rfl⟩
      go_wp2_with fail
      go_ret2
      exact ⟨_, rfl, HO.out, Below.refl _ _⟩
    by_cases q2 : 12 < p
    · have e1 := PE.out
      rw [if_pos (.inl (by unfold okPer; simp; omega))] at e1
      have e2 := AE2.out
      rw [e1, if_neg (by decide)] at e2
      clear e1
      subst e2
      clear PE AE2 hdd
      go_enter Try.func27, Try.ntmps27
      go_wp2_with fail
      refine RF.out.mono ?_
      rintro e w1 ⟨rfl, rfl⟩
      go_wp2_with fail
      go_ret2
      exact ⟨_, rfl, HO.out, Below.refl _ _⟩
    by_cases q3 : t < 0
    · have e1 := PE.out
      rw [if_pos (.inr (by unfold okTick; simp; omega))] at e1
      have e2 := AE2.out
      rw [e1, if_neg (by decide)] at e2
      clear e1
      subst e2
      clear PE AE2 hdd
      go_enter Try.func27, Try.ntmps27
      go_wp2_with fail
      refine RF.out.mono ?_
      rintro e w1 ⟨rfl, rfl⟩
      go_wp2_with fail
      go_ret2
      exact ⟨_, rfl, HO.out, Below.refl _ _⟩
    by_cases q4 : 1099511627776 < t
    · have e1 := PE.out
      rw [if_pos (.inr (by unfold okTick; simp; omega))] at e1
      have e2 := AE2.out
      rw [e1, if_neg (by decide)] at e2
      clear e1
      subst e2
      clear PE AE2 hdd
      go_enter Try.func27, Try.ntmps27
      go_wp2_with fail
      refine RF.out.mono ?_
      rintro e w1 ⟨rfl, rfl⟩
      go_wp2_with fail
      go_ret2
      exact ⟨_, rfl, HO.out, Below.refl _ _⟩
    have e1 := PE.out
    rw [if_neg (by unfold okPer okTick; simp; omega)] at e1
    have mc : p * 100 = 100 * p := by omega
    by_cases q5 : t + 1200 < d2 + p * 100
    · rw [if_pos q5] at e1
      have e2 := AE2.out
      rw [e1, if_neg (by decide)] at e2
      clear e1
      subst e2
      have q5a : decide (t + 1200 < d2 + 100 * p) = true := by simp; omega
      have q5b : decide (d2 + 100 * p > t + 1200) = true := by simp; omega
      clear PE AE2 q5 mc
      obtain ⟨bb, off, rfl, e0, e1_, e2_⟩ := lay3 (own_lay HO.out) hi
      rw [hdd] at e0 e1_ e2_
      dsimp only at e0 e1_ e2_
      have hm := made w (.cells #[.int .i64 d0, .int .i64 d1, .int .i64 d2] 42)
      have B2 := Lib.hid hm
      have HO2 := Lib.hid (rk.Own.below HO.out hm)
      have X2 := Lib.hid (Blk.new w 42 #[.int .i64 d0, .int .i64 d1, .int .i64 d2])
      clear hm hdd
      go_enter Try.func27, Try.ntmps27
      go_wp2_with fail
      refine RF.out.mono ?_
      rintro e w1 ⟨rfl, rfl⟩
      go_upto_region 7 with fail
      generalize w.alloc (.cells #[.int .i64 d0, .int .i64 d1, .int .i64 d2] 42) = w2 at *
      clear e0 e1_ e2_
      have x2 := X2.out.cell 2
      have f2 := X2.out.free 2
      have X3 := Lib.hid (X2.out.put 2 (.int .i64 (d2 + 100 * p)))
      have B3 := Lib.hid (show Below w.heap.size w (w2.setCell ⟨w.heap.size, 2, none⟩ (.int .i64 (d2 + 100 * p))) from B2.out.setCell (p := ⟨w.heap.size, 2, none⟩) (Nat.le_refl _) _)
      have y2 : (w2.setCell ⟨w.heap.size, 2, none⟩ (.int .i64 (d2 + 100 * p))).cell? ⟨w.heap.size, 2, none⟩ = some (.int .i64 (d2 + 100 * p)) := X3.out.cell 2
      have LX := Lib.hid (show w.heap.size < w2.heap.size from X2.out.lt)
      have O3 := Lib.hid (show Own E3 (w2.setCell ⟨w.heap.size, 2, none⟩ (.int .i64 (d2 + 100 * p))) B 42 (.slice (some ⟨bb, off, none⟩) L.length c) L from HO2.out.keep (fun g hg => Below.heap_setCell _ _ _ _ (fun e => by have := (rk.Own.lt' HO.out g hg).2.1; have e : g = w.heap.size := e; omega)))
      go_wp2_with fail
      go_ret2
      exact ⟨_, rfl, O3.out, B3.out⟩
    · rw [if_neg q5] at e1
      have e2 := AE2.out
      rw [e1, if_pos rfl, mc] at e2
      clear e1
      subst e2
      have q5a : decide (t + 1200 < d2 + 100 * p) = false := by simp; omega
      have q5b : decide (d2 + 100 * p > t + 1200) = false := by simp; omega
      clear PE AE2 q5 mc
      obtain ⟨bb, off, rfl, e0, e1_, e2_⟩ := lay3 (own_lay HO.out) hi
      rw [hdd] at e0 e1_ e2_
      dsimp only at e0 e1_ e2_
      have hm := made w (.cells #[.int .i64 d0, .int .i64 d1, .int .i64 d2] 42)
      have B2 := Lib.hid hm
      have HO2 := Lib.hid (rk.Own.below HO.out hm)
      have X2 := Lib.hid (Blk.new w 42 #[.int .i64 d0, .int .i64 d1, .int .i64 d2])
      clear hm hdd
      go_enter Try.func27, Try.ntmps27
      go_wp2_with fail
      refine RF.out.mono ?_
      rintro e w1 ⟨rfl, rfl⟩
      go_upto_region 7 with fail
      generalize w.alloc (.cells #[.int .i64 d0, .int .i64 d1, .int .i64 d2] 42) = w2 at *
      clear e0 e1_ e2_
      have x2 := X2.out.cell 2
      have f2 := X2.out.free 2
      have X3 := Lib.hid (X2.out.put 2 (.int .i64 (d2 + 100 * p)))
      have B3 := Lib.hid (show Below w.heap.size w (w2.setCell ⟨w.heap.size, 2, none⟩ (.int .i64 (d2 + 100 * p))) from B2.out.setCell (p := ⟨w.heap.size, 2, none⟩) (Nat.le_refl _) _)
      have y2 : (w2.setCell ⟨w.heap.size, 2, none⟩ (.int .i64 (d2 + 100 * p))).cell? ⟨w.heap.size, 2, none⟩ = some (.int .i64 (d2 + 100 * p)) := X3.out.cell 2
      have LX := Lib.hid (show w.heap.size < w2.heap.size from X2.out.lt)
      have L3 := Lib.hid (show Lay E3 (w2.setCell ⟨w.heap.size, 2, none⟩ (.int .i64 (d2 + 100 * p))) (some ⟨bb, off, none⟩) L from own_lay (show Own E3 (w2.setCell ⟨w.heap.size, 2, none⟩ (.int .i64 (d2 + 100 * p))) B 42 (.slice (some ⟨bb, off, none⟩) L.length c) L from HO2.out.keep (fun g hg => Below.heap_setCell _ _ _ _ (fun e => by have := (rk.Own.lt' HO.out g hg).2.1; have e : g = w.heap.size := e; omega))))
      have x0 : (w2.setCell ⟨w.heap.size, 2, none⟩ (.int .i64 (d2 + 100 * p))).cell? ⟨w.heap.size, 0, none⟩ = some (.int .i64 d0) := X3.out.cell 0
      have x1 : (w2.setCell ⟨w.heap.size, 2, none⟩ (.int .i64 (d2 + 100 * p))).cell? ⟨w.heap.size, 1, none⟩ = some (.int .i64 d1) := X3.out.cell 1
      have PU := Lib.hid (rput_any (some ⟨bb, off, none⟩) c L d0 d1 (d2 + 100 * p) B (w2.setCell ⟨w.heap.size, 2, none⟩ (.int .i64 (d2 + 100 * p))) L3.out hl (Nat.le_trans HB.out B3.out.size))
      go_wp2_with fail
      refine PU.out.mono ?_
      rintro e w5 ⟨v5, rfl, ho5, hb5⟩
      have O5 := Lib.hid ho5
      have B5 := Lib.hid (up B3.out hb5 B3.out.size)
      obtain ⟨A5, c5, rfl, -⟩ := ho5.open_
      clear ho5 hb5 PU
      go_wp2_with fail
      go_ret2
      exact ⟨_, rfl, O5.out, B5.out⟩
set_option maxRecDepth 100000 in
set_option maxHeartbeats 4000000 in
theorem drop_none (g b c : Nat) (m : Int → Option R3) (n : Int) (w : World) (h : RAt w g b m c) (hw : (Lit.int .i64 n).wf = true) (ho : m n = none) :
    Calls Try.prog 28 #[.pointer (some ⟨g, 0, none⟩), .int .i64 n] w (ErrP g b m c 14 w) := by
  have H := Lib.hid h
  have GE := Lib.hid (get_none h hw ho)
  clear h hw ho
  go_enter Try.func28, Try.ntmps28
  go_wp2_with fail
  refine GE.out.mono ?_
  rintro e w1 ⟨rfl, hb1⟩
  have hm := made w1 (.cells #[.int .i64 0, .int .i64 0, .int .i64 0] 38)
  have H2 := Lib.hid ((H.out.below hb1).below hm)
  have B2 := Lib.hid (up hb1 hm hb1.size)
  clear hb1 hm GE
  go_upto_region 2 with fail
  generalize w1.alloc (.cells #[.int .i64 0, .int .i64 0, .int .i64 0] 38) = w2 at *
  go_wp2_with fail
  go_ret
  exact ⟨rfl, H2.out, Mut.of_below B2.out⟩
set_option maxRecDepth 100000 in
set_option maxHeartbeats 4000000 in
theorem drop_some (g b c : Nat) (m : Int → Option R3) (n d0 d1 d2 : Int) (w : World) (h : RAt w g b m c) (hw : (Lit.int .i64 n).wf = true) (ho : m n = some (d0, d1, d2)) :
    Calls Try.prog 28 #[.pointer (some ⟨g, 0, none⟩), .int .i64 n] w (ErrP g b (set m n none) (c - 1) 0 w) := by
  have H := Lib.hid h
  have HW := Lib.hid hw
  have GE := Lib.hid (get_some h hw ho)
  have GM := Lib.hid (show gv m n = some (row (d0, d1, d2)) from by unfold gv; rw [ho]; rfl)
  clear h hw ho
  go_enter Try.func28, Try.ntmps28
  go_wp2_with fail
  refine GE.out.mono ?_
  rintro e w1 ⟨rfl, hb1⟩
  have hm := made w1 (.cells #[.int .i64 d0, .int .i64 d1, .int .i64 d2] 38)
  have H2 := Lib.hid ((H.out.below hb1).below hm)
  have B2 := Lib.hid (up hb1 hm hb1.size)
  clear hb1 hm GE
  go_upto_region 4 with fail
  generalize w1.alloc (.cells #[.int .i64 d0, .int .i64 d1, .int .i64 d2] 38) = w2 at *
  obtain ⟨w4, hrun, hmp, hon⟩ := IMap.drop (t := 56) (ty := 0) H2.out.map Try.underlying3 Try.underlying56 HW.out
  rw [GM.out] at hmp
  have R4 := Lib.hid (show RAt w4 g b (set m n none) (c - 1) from ⟨H2.out.blk.only hon (fun e => H2.out.ne e.symm), by
    have := gv_set m n none
    rw [← this]
    exact hmp⟩)
  have M4 := Lib.hid (show Mut b w w4 from (Mut.of_below (b := b) B2.out).then_ hon)
  have c0 := H2.out.blk.cell 0
  clear hmp hon
  go_wp2_with fail
  go_ret
  exact ⟨rfl, R4.out, M4.out⟩
end Go.Proofs.Ytmgfnhbhgmpchaa.rn
