/-
  R-trees: right, Check, Bounds.
-/
import Derived.Test.YtndhdpjgnepfnaaTrAG
namespace Go.Proofs.Ytndhdpjgnepfnaa.tr
open Go.RowKit Go.Shelf
open base (ret_bool ret_int made up Blk Only)
open rk (Lay)
open rect rgm
set_option linter.unusedVariables false
set_option linter.unusedSimpArgs false
attribute [local go_sem] Oper.semAt_some

theorem run_bin {P : Program} {w : World} {ρ : Operand → Value} {o : Oper} {op : BinOp} {t r : TypeId} {x y : Operand} {xs ys : Array Value} {v : Value} (ho : o.op = .binOp op t x y r) (hx : ρ x = .agg xs) (hy : ρ y = .agg ys) (hm : P.eqGuardType P.depth t = false)
    (h : (binOp op t (.agg xs) (.agg ys)).run P w = .ok v w) : (execOp ρ o).run P w = .ok (.value v) w := by
  simp only [execOp, ho, hx, hy, Sem.run_bind, run_eqGuard_agg w op t x y xs ys hm, Result.andThen_ok, h, Sem.run_pure]
def RightOK (h : Nat) : Prop := ∀ (g : Nat) (v : Value) (X : List Ex) (rt : Bool) (w : World), NdOf (Ent h) w g v X → X.length ≤ 4 → ((rt = true ∧ h = 0) ∨ 2 ≤ X.length) →
  Calls Try.prog 33 #[.pointer (some ⟨g, 0, none⟩), .int .i64 h, .bool rt] w fun e w' => e = .returned (.bool true) ∧ Below w.heap.size w w'
set_option maxRecDepth 100000 in
set_option maxHeartbeats 4000000 in
theorem right_zero : RightOK 0 := by
  intro g v X rt w hn h4 hlst
  obtain ⟨A, c, rfl, hna⟩ := hn.nat
  show Calls Try.prog 33 #[.pointer (some ⟨g, 0, none⟩), .int .i64 0, .bool rt] w fun e w' => e = .returned (.bool true) ∧ Below w.heap.size w w'
  have HN := Lib.hid hn
  have H4 := Lib.hid h4
  have c0 := hn.blk.cell 0
  have l4 : decide ((X.length : Int) > 4) = false := decide_eq_false (by omega)
  have l4b : (4 < X.length) = False := eq_false (by omega)
  cases rt with
  | true =>
    have l0 : decide ((X.length : Int) < 0) = false := decide_eq_false (by omega)
    clear hn h4 hlst hna
    go_enter Try.func33, Try.ntmps33
    go_wp2_with fail
    clear c0 l4 l4b l0
    go_loopw [35] (fun i wr => ∃ (p : Nat) (W : World), W = wr ∧ p ≤ X.length ∧ i = .int .i64 p ∧ Below w.heap.size w wr) (fun i _ => X.length - (intOf i).toNat)
    case atStart => exact ⟨0, _, rfl, by omega, rfl, Below.refl _ _⟩
    case round =>
    obtain ⟨p, w5, rfl, hp, rfl, hb⟩ := hrel
    have BE := Lib.hid hb
    by_cases hpl : p < X.length
    · have N5 := Lib.hid (HN.out.below hb)
      obtain ⟨gr, c', cs, z0, -⟩ := N5.out.own.full (by rw [ens_len]; omega)
      injection z0 with z0 z1 z2
      subst z0
      clear z1 z2 cs c'
      have r6 := row6 (own_lay N5.out.own).1 (k := p) (by rw [ens_len]; exact hpl)
      rw [ens_get hpl] at r6
      have EN := Lib.hid (N5.out.ent X[p] (List.getElem_mem hpl))
      obtain ⟨e, he⟩ : ∃ e, X[p].e = e := ⟨_, rfl⟩
      rw [he] at r6
      obtain ⟨ek, -, -, -⟩ := EN.out
      rw [he] at ek
      have hP : e.ptr = .pointer none := by unfold En.ptr; rw [ek]; rfl
      obtain ⟨P, hPP⟩ : ∃ P : Option Addr, P = none := ⟨_, rfl⟩
      rw [← hPP] at hP
      have HPP := Lib.hid hPP
      clear hPP ek
      rw [hP] at r6
      obtain ⟨e0, e1, e2, e3, e4, e5⟩ := r6
      obtain ⟨wE, hwE⟩ : ∃ wE, w5.alloc (.cells #[.int .i64 e.b.x, .int .i64 e.b.y, .int .i64 e.b.w, .int .i64 e.b.h, .pointer P, .int .i64 e.v] 79) = wE := ⟨_, rfl⟩
      have ME := Lib.hid (show Below w5.heap.size w5 wE from by rw [← hwE]; exact made w5 _)
      have EB := Lib.hid (show Blk wE w5.heap.size 79 #[.int .i64 e.b.x, .int .i64 e.b.y, .int .i64 e.b.w, .int .i64 e.b.h, .pointer P, .int .i64 e.v] from by rw [← hwE]; exact Blk.new _ _ _)
      have BF := Lib.hid (up BE.out ME.out BE.out.size)
      have dp : decide (p < X.length) = true := decide_eq_true hpl
      have wp1 : IntKind.i64.wrap ((p : Int) + 1) = (p : Int) + 1 := IntWalk.i64_in _ (by have := H4.out; omega)
      have i0 : (0 : Int) ≤ (p : Int) := Int.natCast_nonneg _
      have EG := Lib.hid (show e.b.right = true from by have := EN.out.good.bright; rw [he] at this; exact this)
      have RG := Lib.hid (show Calls Try.prog 35 #[(.agg #[.int .i64 e.b.x, .int .i64 e.b.y, .int .i64 e.b.w, .int .i64 e.b.h])] wE fun e' w' => e' = .returned (.bool true) ∧ Below wE.heap.size wE w' from by
        have := rright e.b wE
        rw [EG.out] at this
        exact this)
      have HWE := Lib.hid hwE
      clear hb hp hwE hP he
      go_upto_region 9 with fail
      have hwE := HWE.out
      simp only [hwE]
      clear hwE HWE e0 e1 e2 e3 e4 e5
      obtain ⟨y0, y1, y2, y3, y4, y5⟩ := blk6 EB.out
      rw [HPP.out] at y4
      go_wp2_with fail
      refine RG.out.mono ?_
      rintro e7 w7 ⟨rfl, hb7⟩
      have B7 := Lib.hid (up BF.out hb7 BF.out.size)
      have E7 := Lib.hid (EB.out.below hb7 EB.out.lt)
      have W7 := Lib.hid (up ME.out hb7 ME.out.size)
      clear hb7 RG y0 y1 y2 y3 y4 y5
      obtain ⟨y0, y1, y2, y3, y4, y5⟩ := blk6 E7.out
      rw [HPP.out] at y4
      go_wp2_with fail
      clear y0 y1 y2 y3 y4 y5
      have SS := Lib.hid (fun W (hW : Below w7.heap.size w7 W) => (show (fun ws => ws.cell? ⟨w5.heap.size, 0, none⟩ = some (.int .i64 e.b.x) ∧ ws.cell? ⟨w5.heap.size, 1, none⟩ = some (.int .i64 e.b.y) ∧ ws.cell? ⟨w5.heap.size, 2, none⟩ = some (.int .i64 e.b.w) ∧ ws.cell? ⟨w5.heap.size, 3, none⟩ = some (.int .i64 e.b.h) ∧ ws.cell? ⟨w5.heap.size, 4, none⟩ = some (.pointer none) ∧ ws.cell? ⟨w5.heap.size, 5, none⟩ = some (.int .i64 e.v)) W from by
        have := blk6 (E7.out.below hW E7.out.lt)
        rw [HPP.out] at this
        exact this))
      refine wp_region_held_drew (S := (fun ws => ws.cell? ⟨w5.heap.size, 0, none⟩ = some (.int .i64 e.b.x) ∧ ws.cell? ⟨w5.heap.size, 1, none⟩ = some (.int .i64 e.b.y) ∧ ws.cell? ⟨w5.heap.size, 2, none⟩ = some (.int .i64 e.b.w) ∧ ws.cell? ⟨w5.heap.size, 3, none⟩ = some (.int .i64 e.b.h) ∧ ws.cell? ⟨w5.heap.size, 4, none⟩ = some (.pointer none) ∧ ws.cell? ⟨w5.heap.size, 5, none⟩ = some (.int .i64 e.v))) (by kernel_rfl) (SS.out _ (base.below_drewN (Below.refl _ w7) 1)) (fun hHeld => ?_)
      refine wpAnyH_take (i := 0) (v := ?_) rfl (by kernel_rfl) (by kernel_rfl) (by kernel_rfl) (fun _ _ _ h => h) (Or.inl ⟨by rfl, ?_⟩) (by assumption) ?_
      rotate_left
      · (intro w hSw; (try dsimp only at hSw); first | (go_simp; done) | (go_simp; with_reducible rfl))
      simp only [Act.put, List.getElem_toArray, List.getElem_cons_zero, List.getElem_cons_succ, List.setIfInBounds_toArray, List.set_cons_zero, List.set_cons_succ]
      refine wpAnyH_take (i := 1) (v := ?_) rfl (by kernel_rfl) (by kernel_rfl) (by kernel_rfl) (fun _ _ _ h => h) (Or.inl ⟨by rfl, ?_⟩) (by assumption) ?_
      rotate_left
      · (intro w hSw; (try dsimp only at hSw); first | (go_simp; done) | (go_simp; with_reducible rfl))
      simp only [Act.put, List.getElem_toArray, List.getElem_cons_zero, List.getElem_cons_succ, List.setIfInBounds_toArray, List.set_cons_zero, List.set_cons_succ]
      refine wpAnyH_take (i := 2) (v := ?_) rfl (by kernel_rfl) (by kernel_rfl) (by kernel_rfl) (fun _ _ _ h => h) (Or.inl ⟨by rfl, ?_⟩) (by assumption) ?_
      rotate_left
      · (intro w hSw; (try dsimp only at hSw); first | (go_simp; done) | (go_simp; with_reducible rfl))
      simp only [Act.put, List.getElem_toArray, List.getElem_cons_zero, List.getElem_cons_succ, List.setIfInBounds_toArray, List.set_cons_zero, List.set_cons_succ]
      refine wpAnyH_take (i := 3) (v := ?_) rfl (by kernel_rfl) (by kernel_rfl) (by kernel_rfl) (fun _ _ _ h => h) (Or.inl ⟨by rfl, ?_⟩) (by assumption) ?_
      rotate_left
      · (intro w hSw; (try dsimp only at hSw); first | (go_simp; done) | (go_simp; with_reducible rfl))
      simp only [Act.put, List.getElem_toArray, List.getElem_cons_zero, List.getElem_cons_succ, List.setIfInBounds_toArray, List.set_cons_zero, List.set_cons_succ]
      refine wpAnyH_take (i := 4) (v := undef) rfl (by kernel_rfl) (by kernel_rfl) (by kernel_rfl) (fun _ _ _ h => h) (Or.inr ⟨by rfl, rfl⟩) (by assumption) ?_
      simp only [Act.put, List.getElem_toArray, List.getElem_cons_zero, List.getElem_cons_succ, List.setIfInBounds_toArray, List.set_cons_zero, List.set_cons_succ]
      refine wpAnyH_take (i := 5) (v := undef) rfl (by kernel_rfl) (by kernel_rfl) (by kernel_rfl) (fun _ _ _ h => h) (Or.inr ⟨by rfl, rfl⟩) (by assumption) ?_
      simp only [Act.put, List.getElem_toArray, List.getElem_cons_zero, List.getElem_cons_succ, List.setIfInBounds_toArray, List.set_cons_zero, List.set_cons_succ]
      refine wpAnyH_take (i := 6) (v := undef) rfl (by kernel_rfl) (by kernel_rfl) (by kernel_rfl) (fun _ _ _ h => h) (Or.inr ⟨by rfl, rfl⟩) (by assumption) ?_
      simp only [Act.put, List.getElem_toArray, List.getElem_cons_zero, List.getElem_cons_succ, List.setIfInBounds_toArray, List.set_cons_zero, List.set_cons_succ]
      refine wpAnyH_take (i := 7) (v := undef) rfl (by kernel_rfl) (by kernel_rfl) (by kernel_rfl) (fun _ _ _ h => h) (Or.inr ⟨by rfl, rfl⟩) (by assumption) ?_
      simp only [Act.put, List.getElem_toArray, List.getElem_cons_zero, List.getElem_cons_succ, List.setIfInBounds_toArray, List.set_cons_zero, List.set_cons_succ]
      refine wpAnyH_take (i := 8) (v := undef) rfl (by kernel_rfl) (by kernel_rfl) (by kernel_rfl) (fun _ _ _ h => h) (Or.inr ⟨by rfl, rfl⟩) (by assumption) ?_
      simp only [Act.put, List.getElem_toArray, List.getElem_cons_zero, List.getElem_cons_succ, List.setIfInBounds_toArray, List.set_cons_zero, List.set_cons_succ]
      refine wpAnyH_take (i := 9) (v := undef) rfl (by kernel_rfl) (by kernel_rfl) (by kernel_rfl) (fun _ _ _ h => h) (Or.inr ⟨by rfl, rfl⟩) (by assumption) ?_
      simp only [Act.put, List.getElem_toArray, List.getElem_cons_zero, List.getElem_cons_succ, List.setIfInBounds_toArray, List.set_cons_zero, List.set_cons_succ]
      refine wpAnyH_take (i := 10) (v := undef) rfl (by kernel_rfl) (by kernel_rfl) (by kernel_rfl) (fun _ _ _ h => h) (Or.inr ⟨by rfl, rfl⟩) (by assumption) ?_
      simp only [Act.put, List.getElem_toArray, List.getElem_cons_zero, List.getElem_cons_succ, List.setIfInBounds_toArray, List.set_cons_zero, List.set_cons_succ]
      refine wpAnyH_take (i := 11) (v := undef) rfl (by kernel_rfl) (by kernel_rfl) (by kernel_rfl) (fun _ _ _ h => h) (Or.inr ⟨by rfl, rfl⟩) (by assumption) ?_
      simp only [Act.put, List.getElem_toArray, List.getElem_cons_zero, List.getElem_cons_succ, List.setIfInBounds_toArray, List.set_cons_zero, List.set_cons_succ]
      refine wpAnyH_take (i := 12) (v := undef) rfl (by kernel_rfl) (by kernel_rfl) (by kernel_rfl) (fun _ _ _ h => h) (Or.inr ⟨by rfl, rfl⟩) (by assumption) ?_
      simp only [Act.put, List.getElem_toArray, List.getElem_cons_zero, List.getElem_cons_succ, List.setIfInBounds_toArray, List.set_cons_zero, List.set_cons_succ]
      refine wpAnyH_take (i := 13) (v := undef) rfl (by kernel_rfl) (by kernel_rfl) (by kernel_rfl) (fun _ _ _ h => h) (Or.inr ⟨by rfl, rfl⟩) (by assumption) ?_
      simp only [Act.put, List.getElem_toArray, List.getElem_cons_zero, List.getElem_cons_succ, List.setIfInBounds_toArray, List.set_cons_zero, List.set_cons_succ]
      refine wpAnyH_take (i := 14) (v := undef) rfl (by kernel_rfl) (by kernel_rfl) (by kernel_rfl) (fun _ _ _ h => h) (Or.inr ⟨by rfl, rfl⟩) (by assumption) ?_
      simp only [Act.put, List.getElem_toArray, List.getElem_cons_zero, List.getElem_cons_succ, List.setIfInBounds_toArray, List.set_cons_zero, List.set_cons_succ]
      refine wpAnyH_take (i := 15) (v := undef) rfl (by kernel_rfl) (by kernel_rfl) (by kernel_rfl) (fun _ _ _ h => h) (Or.inr ⟨by rfl, rfl⟩) (by assumption) ?_
      simp only [Act.put, List.getElem_toArray, List.getElem_cons_zero, List.getElem_cons_succ, List.setIfInBounds_toArray, List.set_cons_zero, List.set_cons_succ]
      refine wpAnyH_take (i := 16) (v := undef) rfl (by kernel_rfl) (by kernel_rfl) (by kernel_rfl) (fun _ _ _ h => h) (Or.inr ⟨by rfl, rfl⟩) (by assumption) ?_
      simp only [Act.put, List.getElem_toArray, List.getElem_cons_zero, List.getElem_cons_succ, List.setIfInBounds_toArray, List.set_cons_zero, List.set_cons_succ]
      refine wpAnyH_take (i := 17) (v := undef) rfl (by kernel_rfl) (by kernel_rfl) (by kernel_rfl) (fun _ _ _ h => h) (Or.inr ⟨by rfl, rfl⟩) (by assumption) ?_
      simp only [Act.put, List.getElem_toArray, List.getElem_cons_zero, List.getElem_cons_succ, List.setIfInBounds_toArray, List.set_cons_zero, List.set_cons_succ]
      refine wpAnyH_take (i := 18) (v := ?_) rfl (by kernel_rfl) (by kernel_rfl) (by kernel_rfl) (fun _ _ _ h => h) (Or.inl ⟨by rfl, ?_⟩) (by assumption) ?_
      rotate_left
      · (intro w hSw; (try dsimp only at hSw); first | (go_simp; done) | (go_simp; with_reducible rfl))
      simp only [Act.put, List.getElem_toArray, List.getElem_cons_zero, List.getElem_cons_succ, List.setIfInBounds_toArray, List.set_cons_zero, List.set_cons_succ]
      refine wpAnyH_done (by kernel_rfl) ?_ _
      clear hHeld
      go_wp2_with fail
      clear wp1
      exact ⟨⟨p + 1, _, rfl, by omega, by go_num, B7.out.drew⟩, by simp [intOf]; omega⟩
    · obtain rfl : p = X.length := by omega
      have dp : decide (X.length < X.length) = false := decide_eq_false (by omega)
      have FB := Lib.hid hb
      clear hb hp hpl
      go_wp2_with fail
      go_ret
      exact ⟨rfl, FB.out⟩
  | false =>
    have l2 : 2 ≤ X.length := by rcases hlst with q | q; · exact absurd q.1 (by simp)
                                 · exact q
    have l0 : decide ((X.length : Int) < 2) = false := decide_eq_false (by omega)
    have l0b : (X.length < 2) = False := eq_false (by omega)
    clear hn h4 hlst hna
    go_enter Try.func33, Try.ntmps33
    go_wp2_with fail
    clear c0 l4 l4b l0 l0b
    go_loopw [35] (fun i wr => ∃ (p : Nat) (W : World), W = wr ∧ p ≤ X.length ∧ i = .int .i64 p ∧ Below w.heap.size w wr) (fun i _ => X.length - (intOf i).toNat)
    case atStart => exact ⟨0, _, rfl, by omega, rfl, Below.refl _ _⟩
    case round =>
    obtain ⟨p, w5, rfl, hp, rfl, hb⟩ := hrel
    have BE := Lib.hid hb
    by_cases hpl : p < X.length
    · have N5 := Lib.hid (HN.out.below hb)
      obtain ⟨gr, c', cs, z0, -⟩ := N5.out.own.full (by rw [ens_len]; omega)
      injection z0 with z0 z1 z2
      subst z0
      clear z1 z2 cs c'
      have r6 := row6 (own_lay N5.out.own).1 (k := p) (by rw [ens_len]; exact hpl)
      rw [ens_get hpl] at r6
      have EN := Lib.hid (N5.out.ent X[p] (List.getElem_mem hpl))
      obtain ⟨e, he⟩ : ∃ e, X[p].e = e := ⟨_, rfl⟩
      rw [he] at r6
      obtain ⟨ek, -, -, -⟩ := EN.out
      rw [he] at ek
      have hP : e.ptr = .pointer none := by unfold En.ptr; rw [ek]; rfl
      obtain ⟨P, hPP⟩ : ∃ P : Option Addr, P = none := ⟨_, rfl⟩
      rw [← hPP] at hP
      have HPP := Lib.hid hPP
      clear hPP ek
      rw [hP] at r6
      obtain ⟨e0, e1, e2, e3, e4, e5⟩ := r6
      obtain ⟨wE, hwE⟩ : ∃ wE, w5.alloc (.cells #[.int .i64 e.b.x, .int .i64 e.b.y, .int .i64 e.b.w, .int .i64 e.b.h, .pointer P, .int .i64 e.v] 79) = wE := ⟨_, rfl⟩
      have ME := Lib.hid (show Below w5.heap.size w5 wE from by rw [← hwE]; exact made w5 _)
      have EB := Lib.hid (show Blk wE w5.heap.size 79 #[.int .i64 e.b.x, .int .i64 e.b.y, .int .i64 e.b.w, .int .i64 e.b.h, .pointer P, .int .i64 e.v] from by rw [← hwE]; exact Blk.new _ _ _)
      have BF := Lib.hid (up BE.out ME.out BE.out.size)
      have dp : decide (p < X.length) = true := decide_eq_true hpl
      have wp1 : IntKind.i64.wrap ((p : Int) + 1) = (p : Int) + 1 := IntWalk.i64_in _ (by have := H4.out; omega)
      have i0 : (0 : Int) ≤ (p : Int) := Int.natCast_nonneg _
      have EG := Lib.hid (show e.b.right = true from by have := EN.out.good.bright; rw [he] at this; exact this)
      have RG := Lib.hid (show Calls Try.prog 35 #[(.agg #[.int .i64 e.b.x, .int .i64 e.b.y, .int .i64 e.b.w, .int .i64 e.b.h])] wE fun e' w' => e' = .returned (.bool true) ∧ Below wE.heap.size wE w' from by
        have := rright e.b wE
        rw [EG.out] at this
        exact this)
      have HWE := Lib.hid hwE
      clear hb hp hwE hP he
      go_upto_region 9 with fail
      have hwE := HWE.out
      simp only [hwE]
      clear hwE HWE e0 e1 e2 e3 e4 e5
      obtain ⟨y0, y1, y2, y3, y4, y5⟩ := blk6 EB.out
      rw [HPP.out] at y4
      go_wp2_with fail
      refine RG.out.mono ?_
      rintro e7 w7 ⟨rfl, hb7⟩
      have B7 := Lib.hid (up BF.out hb7 BF.out.size)
      have E7 := Lib.hid (EB.out.below hb7 EB.out.lt)
      have W7 := Lib.hid (up ME.out hb7 ME.out.size)
      clear hb7 RG y0 y1 y2 y3 y4 y5
      obtain ⟨y0, y1, y2, y3, y4, y5⟩ := blk6 E7.out
      rw [HPP.out] at y4
      go_wp2_with fail
      clear y0 y1 y2 y3 y4 y5
      have SS := Lib.hid (fun W (hW : Below w7.heap.size w7 W) => (show (fun ws => ws.cell? ⟨w5.heap.size, 0, none⟩ = some (.int .i64 e.b.x) ∧ ws.cell? ⟨w5.heap.size, 1, none⟩ = some (.int .i64 e.b.y) ∧ ws.cell? ⟨w5.heap.size, 2, none⟩ = some (.int .i64 e.b.w) ∧ ws.cell? ⟨w5.heap.size, 3, none⟩ = some (.int .i64 e.b.h) ∧ ws.cell? ⟨w5.heap.size, 4, none⟩ = some (.pointer none) ∧ ws.cell? ⟨w5.heap.size, 5, none⟩ = some (.int .i64 e.v)) W from by
        have := blk6 (E7.out.below hW E7.out.lt)
        rw [HPP.out] at this
        exact this))
      refine wp_region_held_drew (S := (fun ws => ws.cell? ⟨w5.heap.size, 0, none⟩ = some (.int .i64 e.b.x) ∧ ws.cell? ⟨w5.heap.size, 1, none⟩ = some (.int .i64 e.b.y) ∧ ws.cell? ⟨w5.heap.size, 2, none⟩ = some (.int .i64 e.b.w) ∧ ws.cell? ⟨w5.heap.size, 3, none⟩ = some (.int .i64 e.b.h) ∧ ws.cell? ⟨w5.heap.size, 4, none⟩ = some (.pointer none) ∧ ws.cell? ⟨w5.heap.size, 5, none⟩ = some (.int .i64 e.v))) (by kernel_rfl) (SS.out _ (base.below_drewN (Below.refl _ w7) 1)) (fun hHeld => ?_)
      refine wpAnyH_take (i := 0) (v := ?_) rfl (by kernel_rfl) (by kernel_rfl) (by kernel_rfl) (fun _ _ _ h => h) (Or.inl ⟨by rfl, ?_⟩) (by assumption) ?_
      rotate_left
      · (intro w hSw; (try dsimp only at hSw); first | (go_simp; done) | (go_simp; with_reducible rfl))
      simp only [Act.put, List.getElem_toArray, List.getElem_cons_zero, List.getElem_cons_succ, List.setIfInBounds_toArray, List.set_cons_zero, List.set_cons_succ]
      refine wpAnyH_take (i := 1) (v := ?_) rfl (by kernel_rfl) (by kernel_rfl) (by kernel_rfl) (fun _ _ _ h => h) (Or.inl ⟨by rfl, ?_⟩) (by assumption) ?_
      rotate_left
      · (intro w hSw; (try dsimp only at hSw); first | (go_simp; done) | (go_simp; with_reducible rfl))
      simp only [Act.put, List.getElem_toArray, List.getElem_cons_zero, List.getElem_cons_succ, List.setIfInBounds_toArray, List.set_cons_zero, List.set_cons_succ]
      refine wpAnyH_take (i := 2) (v := ?_) rfl (by kernel_rfl) (by kernel_rfl) (by kernel_rfl) (fun _ _ _ h => h) (Or.inl ⟨by rfl, ?_⟩) (by assumption) ?_
      rotate_left
      · (intro w hSw; (try dsimp only at hSw); first | (go_simp; done) | (go_simp; with_reducible rfl))
      simp only [Act.put, List.getElem_toArray, List.getElem_cons_zero, List.getElem_cons_succ, List.setIfInBounds_toArray, List.set_cons_zero, List.set_cons_succ]
      refine wpAnyH_take (i := 3) (v := ?_) rfl (by kernel_rfl) (by kernel_rfl) (by kernel_rfl) (fun _ _ _ h => h) (Or.inl ⟨by rfl, ?_⟩) (by assumption) ?_
      rotate_left
      · (intro w hSw; (try dsimp only at hSw); first | (go_simp; done) | (go_simp; with_reducible rfl))
      simp only [Act.put, List.getElem_toArray, List.getElem_cons_zero, List.getElem_cons_succ, List.setIfInBounds_toArray, List.set_cons_zero, List.set_cons_succ]
      refine wpAnyH_take (i := 4) (v := undef) rfl (by kernel_rfl) (by kernel_rfl) (by kernel_rfl) (fun _ _ _ h => h) (Or.inr ⟨by rfl, rfl⟩) (by assumption) ?_
      simp only [Act.put, List.getElem_toArray, List.getElem_cons_zero, List.getElem_cons_succ, List.setIfInBounds_toArray, List.set_cons_zero, List.set_cons_succ]
      refine wpAnyH_take (i := 5) (v := undef) rfl (by kernel_rfl) (by kernel_rfl) (by kernel_rfl) (fun _ _ _ h => h) (Or.inr ⟨by rfl, rfl⟩) (by assumption) ?_
      simp only [Act.put, List.getElem_toArray, List.getElem_cons_zero, List.getElem_cons_succ, List.setIfInBounds_toArray, List.set_cons_zero, List.set_cons_succ]
      refine wpAnyH_take (i := 6) (v := undef) rfl (by kernel_rfl) (by kernel_rfl) (by kernel_rfl) (fun _ _ _ h => h) (Or.inr ⟨by rfl, rfl⟩) (by assumption) ?_
      simp only [Act.put, List.getElem_toArray, List.getElem_cons_zero, List.getElem_cons_succ, List.setIfInBounds_toArray, List.set_cons_zero, List.set_cons_succ]
      refine wpAnyH_take (i := 7) (v := undef) rfl (by kernel_rfl) (by kernel_rfl) (by kernel_rfl) (fun _ _ _ h => h) (Or.inr ⟨by rfl, rfl⟩) (by assumption) ?_
      simp only [Act.put, List.getElem_toArray, List.getElem_cons_zero, List.getElem_cons_succ, List.setIfInBounds_toArray, List.set_cons_zero, List.set_cons_succ]
      refine wpAnyH_take (i := 8) (v := undef) rfl (by kernel_rfl) (by kernel_rfl) (by kernel_rfl) (fun _ _ _ h => h) (Or.inr ⟨by rfl, rfl⟩) (by assumption) ?_
      simp only [Act.put, List.getElem_toArray, List.getElem_cons_zero, List.getElem_cons_succ, List.setIfInBounds_toArray, List.set_cons_zero, List.set_cons_succ]
      refine wpAnyH_take (i := 9) (v := undef) rfl (by kernel_rfl) (by kernel_rfl) (by kernel_rfl) (fun _ _ _ h => h) (Or.inr ⟨by rfl, rfl⟩) (by assumption) ?_
      simp only [Act.put, List.getElem_toArray, List.getElem_cons_zero, List.getElem_cons_succ, List.setIfInBounds_toArray, List.set_cons_zero, List.set_cons_succ]
      refine wpAnyH_take (i := 10) (v := undef) rfl (by kernel_rfl) (by kernel_rfl) (by kernel_rfl) (fun _ _ _ h => h) (Or.inr ⟨by rfl, rfl⟩) (by assumption) ?_
      simp only [Act.put, List.getElem_toArray, List.getElem_cons_zero, List.getElem_cons_succ, List.setIfInBounds_toArray, List.set_cons_zero, List.set_cons_succ]
      refine wpAnyH_take (i := 11) (v := undef) rfl (by kernel_rfl) (by kernel_rfl) (by kernel_rfl) (fun _ _ _ h => h) (Or.inr ⟨by rfl, rfl⟩) (by assumption) ?_
      simp only [Act.put, List.getElem_toArray, List.getElem_cons_zero, List.getElem_cons_succ, List.setIfInBounds_toArray, List.set_cons_zero, List.set_cons_succ]
      refine wpAnyH_take (i := 12) (v := undef) rfl (by kernel_rfl) (by kernel_rfl) (by kernel_rfl) (fun _ _ _ h => h) (Or.inr ⟨by rfl, rfl⟩) (by assumption) ?_
      simp only [Act.put, List.getElem_toArray, List.getElem_cons_zero, List.getElem_cons_succ, List.setIfInBounds_toArray, List.set_cons_zero, List.set_cons_succ]
      refine wpAnyH_take (i := 13) (v := undef) rfl (by kernel_rfl) (by kernel_rfl) (by kernel_rfl) (fun _ _ _ h => h) (Or.inr ⟨by rfl, rfl⟩) (by assumption) ?_
      simp only [Act.put, List.getElem_toArray, List.getElem_cons_zero, List.getElem_cons_succ, List.setIfInBounds_toArray, List.set_cons_zero, List.set_cons_succ]
      refine wpAnyH_take (i := 14) (v := undef) rfl (by kernel_rfl) (by kernel_rfl) (by kernel_rfl) (fun _ _ _ h => h) (Or.inr ⟨by rfl, rfl⟩) (by assumption) ?_
      simp only [Act.put, List.getElem_toArray, List.getElem_cons_zero, List.getElem_cons_succ, List.setIfInBounds_toArray, List.set_cons_zero, List.set_cons_succ]
      refine wpAnyH_take (i := 15) (v := undef) rfl (by kernel_rfl) (by kernel_rfl) (by kernel_rfl) (fun _ _ _ h => h) (Or.inr ⟨by rfl, rfl⟩) (by assumption) ?_
      simp only [Act.put, List.getElem_toArray, List.getElem_cons_zero, List.getElem_cons_succ, List.setIfInBounds_toArray, List.set_cons_zero, List.set_cons_succ]
      refine wpAnyH_take (i := 16) (v := undef) rfl (by kernel_rfl) (by kernel_rfl) (by kernel_rfl) (fun _ _ _ h => h) (Or.inr ⟨by rfl, rfl⟩) (by assumption) ?_
      simp only [Act.put, List.getElem_toArray, List.getElem_cons_zero, List.getElem_cons_succ, List.setIfInBounds_toArray, List.set_cons_zero, List.set_cons_succ]
      refine wpAnyH_take (i := 17) (v := undef) rfl (by kernel_rfl) (by kernel_rfl) (by kernel_rfl) (fun _ _ _ h => h) (Or.inr ⟨by rfl, rfl⟩) (by assumption) ?_
      simp only [Act.put, List.getElem_toArray, List.getElem_cons_zero, List.getElem_cons_succ, List.setIfInBounds_toArray, List.set_cons_zero, List.set_cons_succ]
      refine wpAnyH_take (i := 18) (v := ?_) rfl (by kernel_rfl) (by kernel_rfl) (by kernel_rfl) (fun _ _ _ h => h) (Or.inl ⟨by rfl, ?_⟩) (by assumption) ?_
      rotate_left
      · (intro w hSw; (try dsimp only at hSw); first | (go_simp; done) | (go_simp; with_reducible rfl))
      simp only [Act.put, List.getElem_toArray, List.getElem_cons_zero, List.getElem_cons_succ, List.setIfInBounds_toArray, List.set_cons_zero, List.set_cons_succ]
      refine wpAnyH_done (by kernel_rfl) ?_ _
      clear hHeld
      go_wp2_with fail
      clear wp1
      exact ⟨⟨p + 1, _, rfl, by omega, by go_num, B7.out.drew⟩, by simp [intOf]; omega⟩
    · obtain rfl : p = X.length := by omega
      have dp : decide (X.length < X.length) = false := decide_eq_false (by omega)
      have FB := Lib.hid hb
      clear hb hp hpl
      go_wp2_with fail
      go_ret
      exact ⟨rfl, FB.out⟩
set_option maxRecDepth 100000 in
set_option maxHeartbeats 4000000 in
theorem right_succ (h : Nat) (hh : h ≤ 1000) (IH : RightOK h) : RightOK (h + 1) := by
  intro g v X rt w hn h4 hlst
  obtain ⟨A, c, rfl, hna⟩ := hn.nat
  generalize hH1 : ((h + 1 : Nat) : Int) = H1
  have q0 : (H1 == 0) = false := by rw [beq_eq_false_iff_ne]; omega
  have q0b : decide (H1 = 0) = false := decide_eq_false (by omega)
  have wk : IntKind.i64.wrap (H1 - 1) = (h : Int) := by rw [IntWalk.i64_in _ (by omega)]; omega
  have HN := Lib.hid hn
  have H4 := Lib.hid h4
  have c0 := hn.blk.cell 0
  have l4 : decide ((X.length : Int) > 4) = false := decide_eq_false (by omega)
  have l4b : (4 < X.length) = False := eq_false (by omega)
  have l2 : 2 ≤ X.length := by
    rcases hlst with q | q
    · exact absurd q.2 (by omega)
    · exact q
  have l0 : decide ((X.length : Int) < 2) = false := decide_eq_false (by omega)
  have l0b : (X.length < 2) = False := eq_false (by omega)
  clear hn h4 hlst hna hH1
  cases rt
  all_goals
    go_enter Try.func33, Try.ntmps33
    go_wp2_with fail
    clear c0 l4 l4b l0 l0b
    go_loopw [35] (fun i wr => ∃ (p : Nat) (W : World), W = wr ∧ p ≤ X.length ∧ i = .int .i64 p ∧ Below w.heap.size w wr) (fun i _ => X.length - (intOf i).toNat)
    case atStart => exact ⟨0, _, rfl, by omega, rfl, Below.refl _ _⟩
    case round =>
    obtain ⟨p, w5, rfl, hp, rfl, hb⟩ := hrel
    have BE := Lib.hid hb
    by_cases hpl : p < X.length
    · have N5 := Lib.hid (HN.out.below hb)
      obtain ⟨gr, c', cs, z0, -⟩ := N5.out.own.full (by rw [ens_len]; omega)
      injection z0 with z0 z1 z2
      subst z0
      clear z1 z2 cs c'
      have r6 := row6 (own_lay N5.out.own).1 (k := p) (by rw [ens_len]; exact hpl)
      rw [ens_get hpl] at r6
      have EN := Lib.hid (N5.out.ent X[p] (List.getElem_mem hpl))
      obtain ⟨e, he⟩ : ∃ e, X[p].e = e := ⟨_, rfl⟩
      rw [he] at r6
      obtain ⟨gk, vk, Xk, z1, z2, z3, z4, z5, z6, z7, z8⟩ := EN.out.kid
      rw [he] at z1 z5
      have hP : e.ptr = .pointer (some ⟨gk, 0, none⟩) := by unfold En.ptr; rw [z1]; rfl
      obtain ⟨P, hPP⟩ : ∃ P : Option Addr, P = some ⟨gk, 0, none⟩ := ⟨_, rfl⟩
      rw [← hPP] at hP
      have HPP := Lib.hid hPP
      have KX := Lib.hid (And.intro z3 z4)
      have KB := Lib.hid (show e.b = bb ((all Xk).map Prod.fst) from by rw [z5, z6])
      have KN := Lib.hid z8
      clear hPP z1 z2 z3 z4 z5 z6 z7 z8
      rw [hP] at r6
      obtain ⟨e0, e1, e2, e3, e4, e5⟩ := r6
      obtain ⟨wE, hwE⟩ : ∃ wE, w5.alloc (.cells #[.int .i64 e.b.x, .int .i64 e.b.y, .int .i64 e.b.w, .int .i64 e.b.h, .pointer P, .int .i64 e.v] 79) = wE := ⟨_, rfl⟩
      have ME := Lib.hid (show Below w5.heap.size w5 wE from by rw [← hwE]; exact made w5 _)
      have EB := Lib.hid (show Blk wE w5.heap.size 79 #[.int .i64 e.b.x, .int .i64 e.b.y, .int .i64 e.b.w, .int .i64 e.b.h, .pointer P, .int .i64 e.v] from by rw [← hwE]; exact Blk.new _ _ _)
      have BF := Lib.hid (up BE.out ME.out BE.out.size)
      have dp : decide (p < X.length) = true := decide_eq_true hpl
      have wp1 : IntKind.i64.wrap ((p : Int) + 1) = (p : Int) + 1 := IntWalk.i64_in _ (by have := H4.out; omega)
      have i0 : (0 : Int) ≤ (p : Int) := Int.natCast_nonneg _
      have EG := Lib.hid (show e.b.right = true from by have := EN.out.good.bright; rw [he] at this; exact this)
      have RG := Lib.hid (show Calls Try.prog 35 #[(.agg #[.int .i64 e.b.x, .int .i64 e.b.y, .int .i64 e.b.w, .int .i64 e.b.h])] wE fun e' w' => e' = .returned (.bool true) ∧ Below wE.heap.size wE w' from by
        have := rright e.b wE
        rw [EG.out] at this
        exact this)
      have HWE := Lib.hid hwE
      clear hb hp hwE hP he
      go_upto_region 9 with fail
      have hwE := HWE.out
      simp only [hwE]
      clear hwE HWE e0 e1 e2 e3 e4 e5
      obtain ⟨y0, y1, y2, y3, y4, y5⟩ := blk6 EB.out
      rw [HPP.out] at y4
      go_wp2_with fail
      refine RG.out.mono ?_
      rintro e7 w7 ⟨rfl, hb7⟩
      have B7 := Lib.hid (up BF.out hb7 BF.out.size)
      have E7 := Lib.hid (EB.out.below hb7 EB.out.lt)
      have W7 := Lib.hid (up ME.out hb7 ME.out.size)
      clear hb7 RG y0 y1 y2 y3 y4 y5
      obtain ⟨y0, y1, y2, y3, y4, y5⟩ := blk6 E7.out
      rw [HPP.out] at y4
      go_wp2_with fail
      clear y0 y1 y2 y3 y4 y5
      have SS := Lib.hid (fun W (hW : Below w7.heap.size w7 W) => (show (fun ws => ws.cell? ⟨w5.heap.size, 0, none⟩ = some (.int .i64 e.b.x) ∧ ws.cell? ⟨w5.heap.size, 1, none⟩ = some (.int .i64 e.b.y) ∧ ws.cell? ⟨w5.heap.size, 2, none⟩ = some (.int .i64 e.b.w) ∧ ws.cell? ⟨w5.heap.size, 3, none⟩ = some (.int .i64 e.b.h) ∧ ws.cell? ⟨w5.heap.size, 4, none⟩ = some (.pointer (some ⟨gk, 0, none⟩)) ∧ ws.cell? ⟨w5.heap.size, 5, none⟩ = some (.int .i64 e.v)) W from by
        have := blk6 (E7.out.below hW E7.out.lt)
        rw [HPP.out] at this
        exact this))
      refine wp_region_held_drew (S := (fun ws => ws.cell? ⟨w5.heap.size, 0, none⟩ = some (.int .i64 e.b.x) ∧ ws.cell? ⟨w5.heap.size, 1, none⟩ = some (.int .i64 e.b.y) ∧ ws.cell? ⟨w5.heap.size, 2, none⟩ = some (.int .i64 e.b.w) ∧ ws.cell? ⟨w5.heap.size, 3, none⟩ = some (.int .i64 e.b.h) ∧ ws.cell? ⟨w5.heap.size, 4, none⟩ = some (.pointer (some ⟨gk, 0, none⟩)) ∧ ws.cell? ⟨w5.heap.size, 5, none⟩ = some (.int .i64 e.v))) (by kernel_rfl) (SS.out _ (base.below_drewN (Below.refl _ w7) 1)) (fun hHeld => ?_)
      have NK := Lib.hid (fun W (hW : Below w7.heap.size w7 W) => (KN.out.below W7.out).below hW)
      have hneq : ∀ ws, (binOp .neq 28 (.agg #[.int .i64 e.b.x, .int .i64 e.b.y, .int .i64 e.b.w, .int .i64 e.b.h]) (.agg #[.int .i64 e.b.x, .int .i64 e.b.y, .int .i64 e.b.w, .int .i64 e.b.h])).run Try.prog ws = .ok (.bool (!true)) ws := fun ws => by
        have := run_neq e.b e.b ws
        rw [decide_eq_true rfl] at this
        exact this
      have HNQ := Lib.hid hneq
      clear hneq
      refine wpAnyH_take (i := 0) (v := ?_) rfl (by kernel_rfl) (by kernel_rfl) (by kernel_rfl) (fun _ _ _ h => h) (Or.inl ⟨by rfl, ?_⟩) (by assumption) ?_
      rotate_left
      · (intro w hSw; (try dsimp only at hSw); first | (go_simp; done) | (go_simp; with_reducible rfl))
      simp only [Act.put, List.getElem_toArray, List.getElem_cons_zero, List.getElem_cons_succ, List.setIfInBounds_toArray, List.set_cons_zero, List.set_cons_succ]
      refine wpAnyH_take (i := 1) (v := ?_) rfl (by kernel_rfl) (by kernel_rfl) (by kernel_rfl) (fun _ _ _ h => h) (Or.inl ⟨by rfl, ?_⟩) (by assumption) ?_
      rotate_left
      · (intro w hSw; (try dsimp only at hSw); first | (go_simp; done) | (go_simp; with_reducible rfl))
      simp only [Act.put, List.getElem_toArray, List.getElem_cons_zero, List.getElem_cons_succ, List.setIfInBounds_toArray, List.set_cons_zero, List.set_cons_succ]
      refine wpAnyH_take (i := 2) (v := ?_) rfl (by kernel_rfl) (by kernel_rfl) (by kernel_rfl) (fun _ _ _ h => h) (Or.inl ⟨by rfl, ?_⟩) (by assumption) ?_
      rotate_left
      · (intro w hSw; (try dsimp only at hSw); first | (go_simp; done) | (go_simp; with_reducible rfl))
      simp only [Act.put, List.getElem_toArray, List.getElem_cons_zero, List.getElem_cons_succ, List.setIfInBounds_toArray, List.set_cons_zero, List.set_cons_succ]
      refine wpAnyH_take (i := 3) (v := ?_) rfl (by kernel_rfl) (by kernel_rfl) (by kernel_rfl) (fun _ _ _ h => h) (Or.inl ⟨by rfl, ?_⟩) (by assumption) ?_
      rotate_left
      · (intro w hSw; (try dsimp only at hSw); first | (go_simp; done) | (go_simp; with_reducible rfl))
      simp only [Act.put, List.getElem_toArray, List.getElem_cons_zero, List.getElem_cons_succ, List.setIfInBounds_toArray, List.set_cons_zero, List.set_cons_succ]
      refine wpAnyH_take (i := 4) (v := ?_) rfl (by kernel_rfl) (by kernel_rfl) (by kernel_rfl) (fun _ _ _ h => h) (Or.inl ⟨by rfl, ?_⟩) (by assumption) ?_
      rotate_left
      · (intro w hSw; (try dsimp only at hSw); first | (go_simp; done) | (go_simp; with_reducible rfl))
      simp only [Act.put, List.getElem_toArray, List.getElem_cons_zero, List.getElem_cons_succ, List.setIfInBounds_toArray, List.set_cons_zero, List.set_cons_succ]
      refine wpAnyH_take (i := 5) (v := ?_) rfl (by kernel_rfl) (by kernel_rfl) (by kernel_rfl) (fun _ _ _ h => h) (Or.inl ⟨by rfl, ?_⟩) (by assumption) ?_
      rotate_left
      · (intro w hSw; (try dsimp only at hSw); first | (go_simp; done) | (go_simp; with_reducible rfl))
      simp only [Act.put, List.getElem_toArray, List.getElem_cons_zero, List.getElem_cons_succ, List.setIfInBounds_toArray, List.set_cons_zero, List.set_cons_succ]
      refine wpAnyH_take (i := 7) (v := ?_) rfl (by kernel_rfl) (by kernel_rfl) (by kernel_rfl) (fun _ _ _ h => h) (Or.inl ⟨by rfl, ?_⟩) (by assumption) ?_
      rotate_left
      · (intro w hSw; (try dsimp only at hSw); first | (go_simp; done) | (go_simp; with_reducible rfl))
      simp only [Act.put, List.getElem_toArray, List.getElem_cons_zero, List.getElem_cons_succ, List.setIfInBounds_toArray, List.set_cons_zero, List.set_cons_succ]
      refine wpAnyH_take (i := 8) (v := ?_) rfl (by kernel_rfl) (by kernel_rfl) (by kernel_rfl) (fun _ _ _ h => h) (Or.inl ⟨by rfl, ?_⟩) (by assumption) ?_
      rotate_left
      · (intro w hSw; (try dsimp only at hSw); first | (go_simp; done) | (go_simp; with_reducible rfl))
      simp only [Act.put, List.getElem_toArray, List.getElem_cons_zero, List.getElem_cons_succ, List.setIfInBounds_toArray, List.set_cons_zero, List.set_cons_succ]
      refine wpAnyH_ready (rs := [6]) (by kernel_rfl) (by simp) ?_
      refine AllReadyH.cons rfl (fun K hK => ?_) AllReadyH.nil
      go_simp
      obtain ⟨Ak, ck, hvk, nk⟩ := (NK.out (w7.drewN 1) (base.below_drewN (Below.refl _ w7) 1)).nat
      have BX := nbox_any gk ck Ak (ens Xk) (w7.drewN 1) nk (by rw [ens_len]; have := KX.out; omega)
      rw [KN.out.box, ← KB.out] at BX
      refine BX.mono ?_
      rintro e8 w8 ⟨rfl, hb8⟩
      have B8 := Lib.hid (show Below w7.heap.size w7 w8 from (base.below_drewN (Below.refl w7.heap.size w7) 1).trans hb8)
      refine hK.out _ _ (SS.out _ B8.out) (fun hHeld2 => ?_)
      clear hK K hHeld hb8 BX nk hvk
      refine wpAnyH_take (i := 9) (v := (.bool (!true))) rfl (by kernel_rfl) (by kernel_rfl) (by kernel_rfl) (fun _ _ _ h => h) (Or.inl ⟨by rfl, by (intro w hSw; (try dsimp only at hSw); exact run_bin rfl rfl rfl guard_rect (HNQ.out w))⟩) (by assumption) ?_
      simp only [Act.put, List.getElem_toArray, List.getElem_cons_zero, List.getElem_cons_succ, List.setIfInBounds_toArray, List.set_cons_zero, List.set_cons_succ]
      refine wpAnyH_take (i := 10) (v := ?_) rfl (by kernel_rfl) (by kernel_rfl) (by kernel_rfl) (fun _ _ _ h => h) (Or.inl ⟨by rfl, ?_⟩) (by assumption) ?_
      rotate_left
      · (intro w hSw; (try dsimp only at hSw); first | (go_simp; done) | (go_simp; with_reducible rfl))
      simp only [Act.put, List.getElem_toArray, List.getElem_cons_zero, List.getElem_cons_succ, List.setIfInBounds_toArray, List.set_cons_zero, List.set_cons_succ]
      refine wpAnyH_take (i := 11) (v := ?_) rfl (by kernel_rfl) (by kernel_rfl) (by kernel_rfl) (fun _ _ _ h => h) (Or.inl ⟨by rfl, ?_⟩) (by assumption) ?_
      rotate_left
      · (intro w hSw; (try dsimp only at hSw); first | (go_simp; done) | (go_simp; with_reducible rfl))
      simp only [Act.put, List.getElem_toArray, List.getElem_cons_zero, List.getElem_cons_succ, List.setIfInBounds_toArray, List.set_cons_zero, List.set_cons_succ]
      refine wpAnyH_take (i := 12) (v := ?_) rfl (by kernel_rfl) (by kernel_rfl) (by kernel_rfl) (fun _ _ _ h => h) (Or.inl ⟨by rfl, ?_⟩) (by assumption) ?_
      rotate_left
      · (intro w hSw; (try dsimp only at hSw); first | (go_simp; done) | (go_simp; with_reducible rfl))
      simp only [Act.put, List.getElem_toArray, List.getElem_cons_zero, List.getElem_cons_succ, List.setIfInBounds_toArray, List.set_cons_zero, List.set_cons_succ]
      refine wpAnyH_take (i := 13) (v := ?_) rfl (by kernel_rfl) (by kernel_rfl) (by kernel_rfl) (fun _ _ _ h => h) (Or.inl ⟨by rfl, ?_⟩) (by assumption) ?_
      rotate_left
      · (intro w hSw; (try dsimp only at hSw); first | (go_simp; done) | (go_simp; with_reducible rfl))
      simp only [Act.put, List.getElem_toArray, List.getElem_cons_zero, List.getElem_cons_succ, List.setIfInBounds_toArray, List.set_cons_zero, List.set_cons_succ]
      refine wpAnyH_take (i := 14) (v := ?_) rfl (by kernel_rfl) (by kernel_rfl) (by kernel_rfl) (fun _ _ _ h => h) (Or.inl ⟨by rfl, ?_⟩) (by assumption) ?_
      rotate_left
      · (intro w hSw; (try dsimp only at hSw); first | (go_simp; done) | (go_simp; with_reducible rfl))
      simp only [Act.put, List.getElem_toArray, List.getElem_cons_zero, List.getElem_cons_succ, List.setIfInBounds_toArray, List.set_cons_zero, List.set_cons_succ]
      refine wpAnyH_ready (rs := [15]) (by kernel_rfl) (by simp) ?_
      refine AllReadyH.cons rfl (fun K hK => ?_) AllReadyH.nil
      go_simp
      refine (IH gk vk Xk false w8 (NK.out w8 B8.out) KX.out.2 (.inr KX.out.1)).mono ?_
      rintro e9 w9 ⟨rfl, hb9⟩
      have B9 := Lib.hid (up B8.out hb9 B8.out.size)
      refine hK.out _ _ (SS.out _ B9.out) (fun hHeld => ?_)
      clear hK K hHeld2 hb9
      refine wpAnyH_take (i := 16) (v := ?_) rfl (by kernel_rfl) (by kernel_rfl) (by kernel_rfl) (fun _ _ _ h => h) (Or.inl ⟨by rfl, ?_⟩) (by assumption) ?_
      rotate_left
      · (intro w hSw; (try dsimp only at hSw); first | (go_simp; done) | (go_simp; with_reducible rfl))
      simp only [Act.put, List.getElem_toArray, List.getElem_cons_zero, List.getElem_cons_succ, List.setIfInBounds_toArray, List.set_cons_zero, List.set_cons_succ]
      refine wpAnyH_take (i := 17) (v := ?_) rfl (by kernel_rfl) (by kernel_rfl) (by kernel_rfl) (fun _ _ _ h => h) (Or.inl ⟨by rfl, ?_⟩) (by assumption) ?_
      rotate_left
      · (intro w hSw; (try dsimp only at hSw); first | (go_simp; done) | (go_simp; with_reducible rfl))
      simp only [Act.put, List.getElem_toArray, List.getElem_cons_zero, List.getElem_cons_succ, List.setIfInBounds_toArray, List.set_cons_zero, List.set_cons_succ]
      refine wpAnyH_take (i := 18) (v := ?_) rfl (by kernel_rfl) (by kernel_rfl) (by kernel_rfl) (fun _ _ _ h => h) (Or.inl ⟨by rfl, ?_⟩) (by assumption) ?_
      rotate_left
      · (intro w hSw; (try dsimp only at hSw); first | (go_simp; done) | (go_simp; with_reducible rfl))
      simp only [Act.put, List.getElem_toArray, List.getElem_cons_zero, List.getElem_cons_succ, List.setIfInBounds_toArray, List.set_cons_zero, List.set_cons_succ]
      refine wpAnyH_done (by kernel_rfl) ?_ _
      clear hHeld
      go_wp2_with fail
      clear wp1
      exact ⟨⟨p + 1, _, rfl, by omega, by go_num, (up B7.out B9.out B7.out.size)⟩, by simp [intOf]; omega⟩
    · obtain rfl : p = X.length := by omega
      have dp : decide (X.length < X.length) = false := decide_eq_false (by omega)
      have FB := Lib.hid hb
      clear hb hp hpl
      go_wp2_with fail
      go_ret
      exact ⟨rfl, FB.out⟩
theorem right_ok : ∀ h, h ≤ 1000 → RightOK h
  | 0, _ => right_zero
  | h + 1, q => right_succ h (by omega) (right_ok h (by omega))
end Go.Proofs.Ytndhdpjgnepfnaa.tr
