/-
  R-trees: Delete.
-/
import Derived.Test.YtndhdpjgnepfnaaTrY
namespace Go.Proofs.Ytndhdpjgnepfnaa.tr
open Go.RowKit
open base (ret_bool ret_int made up Blk Only)
open rk (Lay)
open rect
set_option linter.unusedVariables false
set_option linter.unusedSimpArgs false
attribute [local go_sem] Oper.semAt_some

theorem row7 {w : World} {gr : Nat} {L : List (En × Nat)} {k : Nat} {o : En × Nat} (h : Lay E7 w (some ⟨gr, 0, none⟩) L) (hk : L[k]? = some o) : w.cell? ⟨gr, k * 7, none⟩ = some (.int .i64 o.1.b.x) ∧ w.cell? ⟨gr, k * 7 + 1, none⟩ = some (.int .i64 o.1.b.y) ∧ w.cell? ⟨gr, k * 7 + 2, none⟩ = some (.int .i64 o.1.b.w) ∧ w.cell? ⟨gr, k * 7 + 3, none⟩ = some (.int .i64 o.1.b.h) ∧ w.cell? ⟨gr, k * 7 + 4, none⟩ = some o.1.ptr ∧ w.cell? ⟨gr, k * 7 + 5, none⟩ = some (.int .i64 o.1.v) ∧ w.cell? ⟨gr, k * 7 + 6, none⟩ = some (.int .i64 o.2) := by
  obtain ⟨hlt, rfl⟩ := List.getElem?_eq_some_iff.1 hk
  obtain ⟨b, off, e, _, hc⟩ := h (by omega)
  injection e with e
  injection e with e1 e2
  subst e1 e2
  have e7 : E7.k = 7 := rfl
  have c := fun j hj => hc k hlt j hj
  rw [e7] at c
  simp only [Nat.zero_add] at c
  exact ⟨c 0 (by decide), c 1 (by decide), c 2 (by decide), c 3 (by decide), c 4 (by decide), c 5 (by decide), c 6 (by decide)⟩
theorem lay_own7 {w : World} {B n c : Nat} {A : Option Addr} {O : List (En × Nat)} (h : rk.Own E7 w B 84 (.slice A n c) O) : Lay E7 w A O := by
  obtain ⟨A', c', e, h1, h2, h3⟩ := h.open_
  injection e with e1 e2 e3
  subst e1
  exact h1
set_option maxRecDepth 100000 in
set_option maxHeartbeats 8000000 in
theorem delete_any (t h root : Nat) (v : Value) (X : List Ex) (r : Bx) (val : Int) (w : World) (ht : TAt w t h (all X).length root v X) (hf : h = 0 ∨ 2 ≤ X.length) (hl : (all X).length ≤ 1000) :
    Calls Try.prog 30 #[.pointer (some ⟨t, 0, none⟩), (.agg #[.int .i64 r.x, .int .i64 r.y, .int .i64 r.w, .int .i64 r.h]), .int .i64 val] w (DelP t root v X (r, val) w) := by
  obtain ⟨w1, hw1⟩ : ∃ w1, w.alloc (.cells #[.int .i64 r.x, .int .i64 r.y, .int .i64 r.w, .int .i64 r.h] 28) = w1 := ⟨_, rfl⟩
  obtain ⟨w2, hw2⟩ : ∃ w2, w1.alloc (.cells #[.slice none 0 0] 80) = w2 := ⟨_, rfl⟩
  have M1 : Below w.heap.size w w1 := by rw [← hw1]; exact made w _
  have M2 : Below w1.heap.size w1 w2 := by rw [← hw2]; exact made w1 _
  have z1 : w1.heap.size = w.heap.size + 1 := by rw [← hw1, asz]
  have z2 : w2.heap.size = w1.heap.size + 1 := by rw [← hw2, asz]
  have R1 : Blk w1 w.heap.size 28 #[.int .i64 r.x, .int .i64 r.y, .int .i64 r.w, .int .i64 r.h] := by rw [← hw1]; exact Blk.new _ _ _
  have RB := Lib.hid (R1.below M2 R1.lt)
  have L2 := Lib.hid (show LS w2 w1.heap.size (.slice none 0 0) [] from ⟨by rw [← hw2]; exact Blk.new _ _ _, rk.Own.nil _ _ _⟩)
  have BW := Lib.hid (up M1 M2 M1.size)
  have HT := Lib.hid (ht.below BW.out)
  have TL := Lib.hid (And.intro ht.blk.lt ht.nd.lt)
  have hh := ht.high hl
  have SZ := Lib.hid (And.intro z1 z2)
  have nlo : ¬ foot root v X w1.heap.size := fun q => by have := ht.nd.lt _ q; omega
  have RM := Lib.hid (rem_any h (by omega) root v X r val w1.heap.size (.slice none 0 0) [] (w2.drewN 1) (ht.below (base.below_drewN BW.out 1)).nd ht.most (L2.out.below (base.below_drewN (Below.refl _ w2) 1)) (by simp) nlo (fun k e => by cases e))
  have HF := Lib.hid (And.intro hf (And.intro hl hh))
  have HW1 := Lib.hid hw1
  have HW2 := Lib.hid hw2
  clear hw1 hw2 M1 M2 z1 z2 R1 ht hf hl hh nlo
  go_enter Try.func30, Try.ntmps30
  go_upto_region 1 with fail
  have hw1 := HW1.out
  simp only [hw1]
  clear hw1 HW1
  go_upto_region 2 with fail
  have hw2 := HW2.out
  simp only [hw2]
  clear hw2 HW2
  generalize hrb : w.heap.size = rb at *
  generalize hlo : w1.heap.size = lo at *
  have HRB := Lib.hid (And.intro hrb hlo)
  clear hrb hlo
  refine wp_region_held_drew (S := (fun ws => ws.cell? ⟨t, 0, none⟩ = some (.pointer (some ⟨root, 0, none⟩)) ∧ ws.cell? ⟨t, 1, none⟩ = some (.int .i64 h) ∧ ws.cell? ⟨rb, 0, none⟩ = some (.int .i64 r.x) ∧ ws.cell? ⟨rb, 1, none⟩ = some (.int .i64 r.y) ∧ ws.cell? ⟨rb, 2, none⟩ = some (.int .i64 r.w) ∧ ws.cell? ⟨rb, 3, none⟩ = some (.int .i64 r.h))) (by kernel_rfl) ⟨HT.out.blk.cell 0, HT.out.blk.cell 1, RB.out.four⟩ (fun hHeld => ?_)
  refine wpAnyH_take (i := 0) (v := ?_) rfl (by kernel_rfl) (by kernel_rfl) (by kernel_rfl) (fun _ _ _ h => h) (Or.inl ⟨by rfl, ?_⟩) (by assumption) ?_
  rotate_left
  · (intro w hSw; (try dsimp only at hSw); first | (go_simp; done) | (go_simp; with_reducible rfl))
  simp only [Act.put, List.getElem_toArray, List.getElem_cons_zero, List.getElem_cons_succ, List.setIfInBounds_toArray, List.set_cons_zero, List.set_cons_succ]
  refine wpAnyH_take (i := 1) (v := ?_) rfl (by kernel_rfl) (by kernel_rfl) (by kernel_rfl) (fun _ _ _ h => h) (Or.inl ⟨by rfl, ?_⟩) (by assumption) ?_
  rotate_left
  · (intro w hSw; (try dsimp only at hSw); first | (go_simp; done) | (go_simp; with_reducible rfl))
  simp only [Act.put, List.getElem_toArray, List.getElem_cons_zero, List.getElem_cons_succ, List.setIfInBounds_toArray, List.set_cons_zero, List.set_cons_succ]
  refine wpAnyH_take (i := 2) (v := ?_) rfl (by kernel_rfl) (by kernel_rfl) (by kernel_rfl) (fun _ _ _ h => h) (Or.inl ⟨by rfl, ?_⟩) (by assumption) ?_
  rotate_left
  · (intro w hSw; (try dsimp only at hSw); first | (go_simp; done) | (go_simp; with_reducible rfl))
  simp only [Act.put, List.getElem_toArray, List.getElem_cons_zero, List.getElem_cons_succ, List.setIfInBounds_toArray, List.set_cons_zero, List.set_cons_succ]
  refine wpAnyH_take (i := 3) (v := ?_) rfl (by kernel_rfl) (by kernel_rfl) (by kernel_rfl) (fun _ _ _ h => h) (Or.inl ⟨by rfl, ?_⟩) (by assumption) ?_
  rotate_left
  · (intro w hSw; (try dsimp only at hSw); first | (go_simp; done) | (go_simp; with_reducible rfl))
  simp only [Act.put, List.getElem_toArray, List.getElem_cons_zero, List.getElem_cons_succ, List.setIfInBounds_toArray, List.set_cons_zero, List.set_cons_succ]
  refine wpAnyH_take (i := 4) (v := ?_) rfl (by kernel_rfl) (by kernel_rfl) (by kernel_rfl) (fun _ _ _ h => h) (Or.inl ⟨by rfl, ?_⟩) (by assumption) ?_
  rotate_left
  · (intro w hSw; (try dsimp only at hSw); first | (go_simp; done) | (go_simp; with_reducible rfl))
  simp only [Act.put, List.getElem_toArray, List.getElem_cons_zero, List.getElem_cons_succ, List.setIfInBounds_toArray, List.set_cons_zero, List.set_cons_succ]
  refine wpAnyH_take (i := 5) (v := ?_) rfl (by kernel_rfl) (by kernel_rfl) (by kernel_rfl) (fun _ _ _ h => h) (Or.inl ⟨by rfl, ?_⟩) (by assumption) ?_
  rotate_left
  · (intro w hSw; (try dsimp only at hSw); first | (go_simp; done) | (go_simp; with_reducible rfl))
  simp only [Act.put, List.getElem_toArray, List.getElem_cons_zero, List.getElem_cons_succ, List.setIfInBounds_toArray, List.set_cons_zero, List.set_cons_succ]
  refine wpAnyH_take (i := 6) (v := ?_) rfl (by kernel_rfl) (by kernel_rfl) (by kernel_rfl) (fun _ _ _ h => h) (Or.inl ⟨by rfl, ?_⟩) (by assumption) ?_
  rotate_left
  · (intro w hSw; (try dsimp only at hSw); first | (go_simp; done) | (go_simp; with_reducible rfl))
  simp only [Act.put, List.getElem_toArray, List.getElem_cons_zero, List.getElem_cons_succ, List.setIfInBounds_toArray, List.set_cons_zero, List.set_cons_succ]
  refine wpAnyH_take (i := 7) (v := ?_) rfl (by kernel_rfl) (by kernel_rfl) (by kernel_rfl) (fun _ _ _ h => h) (Or.inl ⟨by rfl, ?_⟩) (by assumption) ?_
  rotate_left
  · (intro w hSw; (try dsimp only at hSw); first | (go_simp; done) | (go_simp; with_reducible rfl))
  simp only [Act.put, List.getElem_toArray, List.getElem_cons_zero, List.getElem_cons_succ, List.setIfInBounds_toArray, List.set_cons_zero, List.set_cons_succ]
  refine wpAnyH_take (i := 8) (v := ?_) rfl (by kernel_rfl) (by kernel_rfl) (by kernel_rfl) (fun _ _ _ h => h) (Or.inl ⟨by rfl, ?_⟩) (by assumption) ?_
  rotate_left
  · (intro w hSw; (try dsimp only at hSw); first | (go_simp; done) | (go_simp; with_reducible rfl))
  simp only [Act.put, List.getElem_toArray, List.getElem_cons_zero, List.getElem_cons_succ, List.setIfInBounds_toArray, List.set_cons_zero, List.set_cons_succ]
  refine wpAnyH_take (i := 9) (v := ?_) rfl (by kernel_rfl) (by kernel_rfl) (by kernel_rfl) (fun _ _ _ h => h) (Or.inl ⟨by rfl, ?_⟩) (by assumption) ?_
  rotate_left
  · (intro w hSw; (try dsimp only at hSw); first | (go_simp; done) | (go_simp; with_reducible rfl))
  simp only [Act.put, List.getElem_toArray, List.getElem_cons_zero, List.getElem_cons_succ, List.setIfInBounds_toArray, List.set_cons_zero, List.set_cons_succ]
  refine wpAnyH_ready (rs := [10]) (by kernel_rfl) (by simp) ?_
  refine AllReadyH.cons rfl (fun K hK => ?_) AllReadyH.nil
  go_simp
  refine RM.out.mono ?_
  rintro e1 w3 hrm
  rcases hrm with ⟨rfl, hb3, hno⟩ | ⟨rfl, v1, X1, vl1, Os, hr⟩
  · have B3 := Lib.hid (show Below w2.heap.size w2 w3 from (base.below_drewN (Below.refl w2.heap.size w2) 1).trans hb3)
    have T3 := Lib.hid (HT.out.below B3.out)
    refine hK.out _ _ ⟨T3.out.blk.cell 0, T3.out.blk.cell 1, (RB.out.below B3.out RB.out.lt).four⟩ (fun hHeld2 => ?_)
    clear hK K hHeld
    refine wpAnyH_take (i := 11) (v := ?_) rfl (by kernel_rfl) (by kernel_rfl) (by kernel_rfl) (fun _ _ _ h => h) (Or.inl ⟨by rfl, ?_⟩) (by assumption) ?_
    rotate_left
    · (intro w hSw; (try dsimp only at hSw); first | (go_simp; done) | (go_simp; with_reducible rfl))
    simp only [Act.put, List.getElem_toArray, List.getElem_cons_zero, List.getElem_cons_succ, List.setIfInBounds_toArray, List.set_cons_zero, List.set_cons_succ]
    refine wpAnyH_done (by kernel_rfl) ?_ _
    clear hHeld2 hb3
    have FIN := Lib.hid (show Below w.heap.size w w3 from by
      rw [HRB.out.1]
      exact up BW.out B3.out (by have := SZ.out; omega))
    go_wp2_with fail
    go_ret
    exact .inl ⟨rfl, FIN.out, hno⟩
  · have HR := Lib.hid hr
    have rF : ∀ k, (foot root v X k ∨ k = lo ∨ (Value.slice none 0 0).ownBlock = some k) → foot root v X k ∨ k = lo := fun k q => by
      rcases q with q | q | q
      · exact .inl q
      · exact .inr q
      · cases q
    have O3 := Lib.hid (show Only (fun k => foot root v X k ∨ k = lo) w2 w3 from (((Only.refl _ w2).below (base.below_drewN (Below.refl w2.heap.size w2) 1) (fun k hk hk2 => absurd hk (by omega))).trans hr.only (fun k _ q => rF k q)))
    have tn : ¬ (foot root v X t ∨ t = lo) := fun q => by
      rcases q with q | q
      · exact HT.out.apart q
      · have := TL.out.1
        have := SZ.out
        omega
    have T3 := Lib.hid (HT.out.blk.only O3.out tn)
    have R3 := Lib.hid (RB.out.only O3.out (fun q => by
      have := SZ.out
      rcases q with q | q
      · have := TL.out.2 _ q
        omega
      · omega))
    refine hK.out _ _ ⟨T3.out.cell 0, T3.out.cell 1, R3.out.four⟩ (fun hHeld2 => ?_)
    clear hK K hHeld
    refine wpAnyH_take (i := 11) (v := ?_) rfl (by kernel_rfl) (by kernel_rfl) (by kernel_rfl) (fun _ _ _ h => h) (Or.inl ⟨by rfl, ?_⟩) (by assumption) ?_
    rotate_left
    · (intro w hSw; (try dsimp only at hSw); first | (go_simp; done) | (go_simp; with_reducible rfl))
    simp only [Act.put, List.getElem_toArray, List.getElem_cons_zero, List.getElem_cons_succ, List.setIfInBounds_toArray, List.set_cons_zero, List.set_cons_succ]
    refine wpAnyH_done (by kernel_rfl) ?_ _
    clear hHeld2 rF RM
    have npos : 1 ≤ (all X).length := by
      have := hr.perm.length_eq
      simp at this
      omega
    have wn : IntKind.i64.wrap (((all X).length : Int) - 1) = (((all X).length - 1 : Nat) : Int) := by
      rw [IntWalk.i64_in _ (by have := HF.out.2.1; omega)]
      omega
    have t2 := T3.out.cell 2
    have f2 := T3.out.free 2
    obtain ⟨n1, hn1⟩ : ∃ n1, n1 = (all X).length - 1 := ⟨_, rfl⟩
    rw [← hn1] at wn
    have HN1 := Lib.hid hn1
    obtain ⟨w4, hw4⟩ : ∃ w4, w3.setCell ⟨t, 2, none⟩ (.int .i64 n1) = w4 := ⟨_, rfl⟩
    have O4 := Lib.hid (show Only (fun k => k = t) w3 w4 from by rw [← hw4]; exact (Only.refl (fun k => k = t) w3).setCell (p := ⟨t, 2, none⟩) (.inl rfl) _)
    have tnf : ∀ k, foot root v X k → ¬ k = t := fun k hk e => tn (.inl (e ▸ hk))
    have T4 := Lib.hid (show TAt w4 t h n1 root v1 X1 from ⟨by
      rw [← hw4]
      have := T3.out.put 2 (.int .i64 n1)
      simp only [List.setIfInBounds_toArray, List.set_cons_zero, List.set_cons_succ] at this
      exact this, hr.nd.only O4.out (fun k hk => tnf k (hr.sub k hk)), by have := hr.less; have := HT.out.most; omega, by
      have := hr.more
      rcases HF.out.1 with q | q
      · exact .inl q
      · exact .inr (by omega), fun q => HT.out.apart (hr.sub t q)⟩)
    have lot : lo ≠ t := fun e => tn (.inr e.symm)
    have vbig : ∀ k, vl1.ownBlock = some k → rb < k := fun k e => by
      rcases hr.own k e with q | q
      · cases q
      · have h1 : w2.heap.size ≤ k := q
        have := SZ.out
        omega
    have fsm : ∀ k, (k = t ∨ foot root v X k) → k < rb := fun k q => by
      rcases q with rfl | q
      · exact TL.out.1
      · exact TL.out.2 k q
    have L4 := Lib.hid (show LS w4 lo vl1 (orphs Os) from by
      have := hr.ls.only O4.out lot (fun k e q => by have := vbig k e; have := fsm k (.inl q); omega)
      simpa using this)
    have lob : rb < lo := by have := SZ.out; omega
    have BK := Lib.hid (show Back w4 t n1 lo h vl1 (fun k => k = t ∨ foot root v X k) Os (all X1 ++ all (Os.map Prod.fst)) Os.length w4 h root v1 X1 from
      ⟨T4.out, Nat.le_refl _, Nat.le_refl _, Nat.le_refl _, L4.out, fun o ho => by
        rw [List.take_length] at ho
        obtain ⟨e1, e2⟩ := hr.ent o ho
        exact ⟨e1, e2.only O4.out (fun k hk => tnf k (hr.osub o ho k hk).1), fun k hk => (hr.osub o ho k hk).2, fun q => tnf t (hr.osub o ho t q).1 rfl⟩,
       hr.oap, by rw [List.take_length], Only.refl _ _, fun k hk => .inl (.inr (hr.sub k hk)), ⟨lot, fun q => by have := fsm lo (.inr (hr.sub lo q)); omega, fun k e => ⟨fun q => by have := vbig k e; have := fsm k (.inl q); omega, fun q => by have := vbig k e; have := fsm k (.inr (hr.sub k q)); omega⟩⟩, .inl rfl, fun o ho k hk => .inr (hr.osub o ho k hk).1,
       ⟨fun q => by have := fsm lo q; omega, L4.out.lt.1, fun k e => ⟨fun q => by have := vbig k e; have := fsm k q; omega, L4.out.lt.2 k e⟩⟩⟩)
    have OS := Lib.hid (show Os.length ≤ 9 from by have := hr.few; have := HF.out.2.2; omega)
    have PM := Lib.hid (hr.perm)
    obtain ⟨Al, cl, hvl, -⟩ := L4.out.own.open_
    have hol : (orphs Os).length = Os.length := by simp [orphs]
    rw [hol] at hvl
    subst hvl
    have l0 := L4.out.blk.cell 0
    have wl : IntKind.i64.wrap ((Os.length : Int) - 1) = (Os.length : Int) - 1 := IntWalk.i64_in _ (by have := OS.out; omega)
    have OU := Lib.hid (show Only (fun k => k = t ∨ foot root v X k) w w4 from
      ((((Only.refl (fun k => k = t ∨ foot root v X k) w).below (B := w.heap.size) (by rw [HRB.out.1]; exact BW.out) (fun k hk hk2 => absurd hk (by have := HRB.out.1; omega))).trans O3.out (fun k hk q => q.elim .inr (fun q => by have := HRB.out.1; omega))).trans O4.out (fun _ _ q => .inl q)))
    have HW4 := Lib.hid hw4
    have S4 := Lib.hid (show w.heap.size ≤ w4.heap.size from OU.out.size)
    clear hr tn npos hn1 hw4 tnf lot vbig fsm lob hol
    go_upto_region 5 with fail
    have hw4 := HW4.out
    simp only [hw4]
    clear hw4 HW4 t2 f2 wn
    go_wp2_with fail
    clear l0 wl
    generalize hA : all X1 ++ all (Os.map Prod.fst) = A at *
    have HA := Lib.hid hA
    clear hA
    go_loopw [8] (fun x wr => ∃ (W : World) (q h' root' : Nat) (v' : Value) (X' : List Ex), W = wr ∧ x = .int .i64 ((q : Int) - 1) ∧ Back w4 t n1 lo h (.slice Al Os.length cl) (fun k => k = t ∨ foot root v X k) Os A q wr h' root' v' X') (fun x _ => (intOf x + 1).toNat)
    case atStart => exact ⟨_, Os.length, _, _, _, _, rfl, rfl, BK.out⟩
    case round =>
    obtain ⟨w5, q, h', root', v', X', rfl, rfl, hbk⟩ := hrel
    cases q with
    | zero =>
      have HBK := Lib.hid hbk
      have d1 : decide ((((0 : Nat) : Int) - 1) ≥ 0) = false := by decide
      have d2 : decide ((-1 : Int) ≥ 0) = false := by decide
      clear hbk
      go_wp2_with fail
      go_loopw [] (fun wr => ∃ (W : World) (h2 root2 : Nat) (v2 : Value) (X2 : List Ex), W = wr ∧ TAt wr t h2 n1 root2 v2 X2 ∧ (all X2).Perm A ∧ Only (fun k => k = t ∨ foot root v X k) w4 wr ∧ ∀ k, foot root2 v2 X2 k → (k = t ∨ foot root v X k) ∨ w4.heap.size ≤ k) (fun wr => hm t wr)
      case atStart => exact ⟨_, _, _, _, _, rfl, HBK.out.tree, by simpa [all] using HBK.out.perm, HBK.out.only, HBK.out.sub⟩
      case round =>
      obtain ⟨w7, h2, root2, v2, X2, rfl, ht2, hp2, ho2, hs2⟩ := hrel
      have HT2 := Lib.hid ht2
      have HP2 := Lib.hid hp2
      have HO2 := Lib.hid ho2
      have HS2 := Lib.hid hs2
      have FIN := Lib.hid (fun (q : h2 = 0 ∨ 2 ≤ X2.length) => (show DelP t root v X (r, val) w (.returned (.int .i64 0)) w7 from .inr ⟨rfl, h2, root2, v2, X2, by rw [← HN1.out]; exact ht2, q, PM.out.trans (List.Perm.cons _ hp2.symm), OU.out.trans ho2 (fun _ _ q => q), fun k hk => by
        rcases hs2 k hk with (q' | q') | q'
        · subst q'
          exact absurd hk ht2.apart
        · exact .inl q'
        · exact .inr (by have := S4.out; omega)⟩))
      have c0 := ht2.blk.cell 0
      have c1 := ht2.blk.cell 1
      have f0 := ht2.blk.free 0
      have f1 := ht2.blk.free 1
      obtain ⟨A2, c2, rfl, nt⟩ := ht2.nd.nat
      have c3 := nt.blk.cell 0
      rw [ens_len] at c3
      clear hp2 ho2 hs2
      cases h2 with
      | zero =>
        have d3 : decide ((((0 : Nat) : Int)) > 0) = false := by decide
        clear ht2 nt f0 f1 d1 d2
        go_wp2_with fail
        go_ret
        exact FIN.out (by first | exact .inl rfl | exact .inl trivial | simp)
      | succ h3 =>
        have d3 : decide ((((h3 + 1 : Nat) : Int)) > 0) = true := decide_eq_true (by omega)
        have d3b : (0 < h3 + 1) = True := eq_true (by omega)
        by_cases l1 : X2.length = 1
        · obtain ⟨y, hy⟩ := List.length_eq_one_iff.1 l1
          subst hy
          obtain ⟨gk, vk, Xk, s1, s2, s3, s4, s5, s6⟩ := ht2.shrink
          obtain ⟨g2, cg, csg, z0, -⟩ := ht2.nd.own.full (by simp [ens])
          injection z0 with z0 z00 z000
          subst z0
          clear z00 z000 csg cg
          have r6 := row6 (own_lay ht2.nd.own).1 (k := 0) (by simp [ens])
          obtain ⟨-, -, -, -, r4, -⟩ := r6
          have ey : ((ens [y]).getD 0 en0).ptr = .pointer (some ⟨gk, 0, none⟩) := by
            show y.e.ptr = _
            unfold En.ptr
            rw [s1]
            rfl
          rw [ey] at r4
          simp only [Nat.zero_mul, Nat.zero_add] at r4
          have c3' : w7.cell? ⟨root2, 0, none⟩ = some (.slice (some ⟨g2, 0, none⟩) 1 c2) := c3
          have wh : IntKind.i64.wrap (((h3 + 1 : Nat) : Int) - 1) = (h3 : Int) := by
            have := HT2.out.high (by
              have h1 := PM.out.length_eq
              have h2 := HP2.out.length_eq
              have h3 := HF.out.2.1
              simp only [List.length_cons] at h1
              omega)
            rw [IntWalk.i64_in _ (by omega)]
            omega
          have wh2 : wrap64 (h3 : Int) = (h3 : Int) := by
            have e : (((h3 + 1 : Nat) : Int) - 1) = (h3 : Int) := by omega
            rw [e] at wh
            rw [← IntWalk.i64_left]
            exact wh
          have HT3 := Lib.hid s5
          have HS6 := Lib.hid s6
          have HS3 := Lib.hid (And.intro s3 s4)
          have hmm := hm_of HT2.out
          have hm3 := hm_of s5
          have HMM := Lib.hid (And.intro hmm hm3)
          clear ht2 nt c3 l1 s1 s2 s3 s4 s5 s6 ey d1 d2 hmm hm3
          go_wp2_with fail
          clear wh wh2
          refine ⟨⟨_, h3, gk, vk, Xk, rfl, HT3.out, by rw [← HS3.out.1]; exact HP2.out, HO2.out.trans HS6.out (fun _ _ q => .inl q), fun k hk => HS2.out k (HS3.out.2 k hk)⟩, by rw [HMM.out.1, HMM.out.2]; omega⟩
        · have l2 : 2 ≤ X2.length := by
            rcases ht2.least with q | q <;> omega
          have q1 : ((X2.length : Int) == 1) = false := by rw [beq_eq_false_iff_ne]; omega
          have q2 : decide ((X2.length : Int) = 1) = false := decide_eq_false (by omega)
          have q3 : (X2.length = 1) = False := eq_false l1
          have FI2 := Lib.hid (FIN.out (.inr l2))
          clear ht2 nt l1 l2 d1 d2 FIN f0 f1
          go_wp2_with fail
          go_ret
          exact FI2.out
    | succ q =>
      have hql : q < Os.length := by have := hbk.le; omega
      have e1 : (((q + 1 : Nat) : Int) - 1) = (q : Int) := by omega
      rw [e1]
      have d1 : decide ((q : Int) ≥ 0) = true := decide_eq_true (by omega)
      have d2 : decide (0 ≤ (q : Int)) = true := decide_eq_true (by omega)
      have i0 : (0 : Int) ≤ (q : Int) := Int.natCast_nonneg _
      have iq : (q : Int) < (Os.length : Int) := by omega
      have wq : IntKind.i64.wrap ((q : Int) - 1) = (q : Int) - 1 := IntWalk.i64_in _ (by have := OS.out; omega)
      have HBK := Lib.hid hbk
      obtain ⟨go, cgo, csgo, z0, -⟩ := hbk.ls.own.full (by simp [orphs]; omega)
      injection z0 with z0 z00 z000
      subst z0
      clear z00 z000 csgo cgo
      obtain ⟨o, ho⟩ : ∃ o, Os[q] = o := ⟨_, rfl⟩
      have hmem : o ∈ Os.take (q + 1) := by
        rw [List.take_succ_eq_append_getElem hql, ho]
        simp
      obtain ⟨om, oe, od, ot⟩ := hbk.ent o hmem
      have RW7 := Lib.hid (fun (W : World) (h : Lay E7 W (some ⟨go, 0, none⟩) (orphs Os)) => row7 (k := q) (o := (o.1.e, o.2)) h (by
        unfold orphs
        rw [List.getElem?_map, List.getElem?_eq_getElem hql, ho]
        rfl))
      dsimp only at RW7
      obtain ⟨m, hm'⟩ : ∃ m, o.2 = m := ⟨_, rfl⟩
      obtain ⟨e, he⟩ : ∃ e, o.1.e = e := ⟨_, rfl⟩
      rw [hm'] at om oe
      rw [he] at oe
      rw [hm', he] at RW7
      obtain ⟨P, hP⟩ : ∃ P, e.ptr = .pointer P := ⟨_, rfl⟩
      rw [hP] at RW7
      have AD := Lib.hid (tadd_any t h' n1 root' m v' X' e P o.1.S o.1.B (w5.drewN 1) (hbk.tree.below (base.below_drewN (Below.refl _ w5) 1)) (by have := hbk.low; omega) (by have := hbk.high; have := OS.out; have := HF.out.2.2; omega) (oe.below (base.below_drewN (Below.refl _ w5) 1)) hP od ot)
      have HO := Lib.hid ho
      have S7 := Lib.hid (fun (W : World) (h : LS W lo (.slice (some ⟨go, 0, none⟩) Os.length cl) (orphs Os)) => And.intro (h.blk.cell 0) (RW7.out W (lay_own7 h.own)))
      clear hbk ho hmem om oe od ot hm' he hP RW7
      go_wp2_with fail
      refine wp_region_held_drew (S := (fun ws => ws.cell? ⟨lo, 0, none⟩ = some (.slice (some ⟨go, 0, none⟩) Os.length cl) ∧ ws.cell? ⟨go, q * 7, none⟩ = some (.int .i64 e.b.x) ∧ ws.cell? ⟨go, q * 7 + 1, none⟩ = some (.int .i64 e.b.y) ∧ ws.cell? ⟨go, q * 7 + 2, none⟩ = some (.int .i64 e.b.w) ∧ ws.cell? ⟨go, q * 7 + 3, none⟩ = some (.int .i64 e.b.h) ∧ ws.cell? ⟨go, q * 7 + 4, none⟩ = some (.pointer P) ∧ ws.cell? ⟨go, q * 7 + 5, none⟩ = some (.int .i64 e.v) ∧ ws.cell? ⟨go, q * 7 + 6, none⟩ = some (.int .i64 m))) (by kernel_rfl) (S7.out w5 HBK.out.ls) (fun hHeld => ?_)
      refine wpAnyH_take (i := 0) (v := ?_) rfl (by kernel_rfl) (by kernel_rfl) (by kernel_rfl) (fun _ _ _ h => h) (Or.inl ⟨by rfl, ?_⟩) (by assumption) ?_
      rotate_left
      · (intro w hSw; (try dsimp only at hSw); first | (go_simp; done) | (go_simp; with_reducible rfl))
      simp only [Act.put, List.getElem_toArray, List.getElem_cons_zero, List.getElem_cons_succ, List.setIfInBounds_toArray, List.set_cons_zero, List.set_cons_succ]
      refine wpAnyH_take (i := 1) (v := ?_) rfl (by kernel_rfl) (by kernel_rfl) (by kernel_rfl) (fun _ _ _ h => h) (Or.inl ⟨by rfl, ?_⟩) (by assumption) ?_
      rotate_left
      · (intro w hSw; (try dsimp only at hSw); first | (go_simp; done) | (go_simp; with_reducible rfl))
      simp only [Act.put, List.getElem_toArray, List.getElem_cons_zero, List.getElem_cons_succ, List.setIfInBounds_toArray, List.set_cons_zero, List.set_cons_succ]
      refine wpAnyH_take (i := 2) (v := ?_) rfl (by kernel_rfl) (by kernel_rfl) (by kernel_rfl) (fun _ _ _ h => h) (Or.inl ⟨by rfl, ?_⟩) (by assumption) ?_
      rotate_left
      · (intro w hSw; (try dsimp only at hSw); first | (go_simp; done) | (go_simp; with_reducible rfl))
      simp only [Act.put, List.getElem_toArray, List.getElem_cons_zero, List.getElem_cons_succ, List.setIfInBounds_toArray, List.set_cons_zero, List.set_cons_succ]
      refine wpAnyH_take (i := 3) (v := ?_) rfl (by kernel_rfl) (by kernel_rfl) (by kernel_rfl) (fun _ _ _ h => h) (Or.inl ⟨by rfl, ?_⟩) (by assumption) ?_
      rotate_left
      · (intro w hSw; (try dsimp only at hSw); first | (go_simp; done) | (go_simp; with_reducible rfl))
      simp only [Act.put, List.getElem_toArray, List.getElem_cons_zero, List.getElem_cons_succ, List.setIfInBounds_toArray, List.set_cons_zero, List.set_cons_succ]
      refine wpAnyH_take (i := 4) (v := ?_) rfl (by kernel_rfl) (by kernel_rfl) (by kernel_rfl) (fun _ _ _ h => h) (Or.inl ⟨by rfl, ?_⟩) (by assumption) ?_
      rotate_left
      · (intro w hSw; (try dsimp only at hSw); first | (go_simp; done) | (go_simp; with_reducible rfl))
      simp only [Act.put, List.getElem_toArray, List.getElem_cons_zero, List.getElem_cons_succ, List.setIfInBounds_toArray, List.set_cons_zero, List.set_cons_succ]
      refine wpAnyH_take (i := 5) (v := ?_) rfl (by kernel_rfl) (by kernel_rfl) (by kernel_rfl) (fun _ _ _ h => h) (Or.inl ⟨by rfl, ?_⟩) (by assumption) ?_
      rotate_left
      · (intro w hSw; (try dsimp only at hSw); first | (go_simp; done) | (go_simp; with_reducible rfl))
      simp only [Act.put, List.getElem_toArray, List.getElem_cons_zero, List.getElem_cons_succ, List.setIfInBounds_toArray, List.set_cons_zero, List.set_cons_succ]
      refine wpAnyH_take (i := 6) (v := ?_) rfl (by kernel_rfl) (by kernel_rfl) (by kernel_rfl) (fun _ _ _ h => h) (Or.inl ⟨by rfl, ?_⟩) (by assumption) ?_
      rotate_left
      · (intro w hSw; (try dsimp only at hSw); first | (go_simp; done) | (go_simp; with_reducible rfl))
      simp only [Act.put, List.getElem_toArray, List.getElem_cons_zero, List.getElem_cons_succ, List.setIfInBounds_toArray, List.set_cons_zero, List.set_cons_succ]
      refine wpAnyH_take (i := 7) (v := ?_) rfl (by kernel_rfl) (by kernel_rfl) (by kernel_rfl) (fun _ _ _ h => h) (Or.inl ⟨by rfl, ?_⟩) (by assumption) ?_
      rotate_left
      · (intro w hSw; (try dsimp only at hSw); first | (go_simp; done) | (go_simp; with_reducible rfl))
      simp only [Act.put, List.getElem_toArray, List.getElem_cons_zero, List.getElem_cons_succ, List.setIfInBounds_toArray, List.set_cons_zero, List.set_cons_succ]
      refine wpAnyH_take (i := 8) (v := ?_) rfl (by kernel_rfl) (by kernel_rfl) (by kernel_rfl) (fun _ _ _ h => h) (Or.inl ⟨by rfl, ?_⟩) (by assumption) ?_
      rotate_left
      · (intro w hSw; (try dsimp only at hSw); first | (go_simp; done) | (go_simp; with_reducible rfl))
      simp only [Act.put, List.getElem_toArray, List.getElem_cons_zero, List.getElem_cons_succ, List.setIfInBounds_toArray, List.set_cons_zero, List.set_cons_succ]
      refine wpAnyH_take (i := 9) (v := ?_) rfl (by kernel_rfl) (by kernel_rfl) (by kernel_rfl) (fun _ _ _ h => h) (Or.inl ⟨by rfl, ?_⟩) (by assumption) ?_
      rotate_left
      · (intro w hSw; (try dsimp only at hSw); first | (go_simp; done) | (go_simp; with_reducible rfl))
      simp only [Act.put, List.getElem_toArray, List.getElem_cons_zero, List.getElem_cons_succ, List.setIfInBounds_toArray, List.set_cons_zero, List.set_cons_succ]
      refine wpAnyH_take (i := 10) (v := ?_) rfl (by kernel_rfl) (by kernel_rfl) (by kernel_rfl) (fun _ _ _ h => h) (Or.inl ⟨by rfl, ?_⟩) (by assumption) ?_
      rotate_left
      · (intro w hSw; (try dsimp only at hSw); first | (go_simp; done) | (go_simp; with_reducible rfl))
      simp only [Act.put, List.getElem_toArray, List.getElem_cons_zero, List.getElem_cons_succ, List.setIfInBounds_toArray, List.set_cons_zero, List.set_cons_succ]
      refine wpAnyH_ready (rs := [11]) (by kernel_rfl) (by simp) ?_
      refine AllReadyH.cons rfl (fun K hK => ?_) AllReadyH.nil
      go_simp
      refine AD.out.mono ?_
      rintro e2 w6 ⟨rfl, htp⟩
      have HB2 := Lib.hid (HBK.out.step hql (by
        rw [HO.out]
        exact htp.under (base.below_drewN (Below.refl w5.heap.size w5) 1)))
      obtain ⟨h2, root2, v2, X2, hbk2⟩ := HB2.out
      have HBK2 := Lib.hid hbk2
      refine hK.out _ _ (S7.out _ hbk2.ls) (fun hHeld2 => ?_)
      clear hK K hHeld htp HB2 hbk2 AD
      refine wpAnyH_done (by kernel_rfl) ?_ _
      clear hHeld2 i0 iq d1 d2 e1
      go_wp2_with fail
      clear wq
      exact ⟨⟨_, q, _, _, _, _, rfl, rfl, HBK2.out⟩, by simp only [intOf]; omega⟩
end Go.Proofs.Ytndhdpjgnepfnaa.tr
