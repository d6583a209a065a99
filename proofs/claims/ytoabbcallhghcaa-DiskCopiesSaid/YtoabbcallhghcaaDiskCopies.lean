/-
  DiskCopies: a copy is the same, and goes on by itself; what is handed in is not kept, and what is told is new memory.
-/
import Derived.Test.YtoabbcallhghcaaDkZ
namespace Go.Proofs.Ytoabbcallhghcaa.diskCopies
open Go.ChangeShapes Go.WideShapes Go.ChangeAt Go.RowKit
open dk mk
open base (ret_bool ret_int made up Blk Only)
open bytes (Small)
set_option linter.unusedVariables false
set_option linter.unusedSimpArgs false

theorem op_app {P : Program} {ts : TypeId} {o : Oper} {a : Act} {w w' : World} {K : Act → World → Prop} {Q : Exit → Act → World → Prop} (s x : Operand)
    (ho : o.op = .call { callee := .builtin .append, args := #[s, x], argTypes := #[ts, ts] }) (hty : o.type = ts) {v X v' : Value} (h1 : a.eval s = v) (h2 : a.eval x = X)
    (hr : (Builtin.append_ #[ts, ts] ts #[v, X]).run P w = .ok v' w') (k : K (a.put o.dst v') w') : Oper.wp P o a w K Q := by
  unfold Oper.wp execOp
  simp only [ho, resolve, invoke, builtin, Sem.run_bind, Sem.run_pure, Result.andThen_ok, List.map_toArray, List.map_cons, List.map_nil, h1, h2, hty, hr]
  exact k
def Post (w : World) (e : Ending) (w' : World) : Prop := e = .returned (.bool true) ∧ Below w.heap.size w w'
set_option maxRecDepth 100000 in
set_option maxHeartbeats 16000000 in
theorem walk (w : World) (A : Option Addr) (ca : Nat) (L : List OP) (hA : rk.Lay EO w A L) (hL : L.length ≤ ca) (hca : ca ≤ maxLen) (hO : ∀ o ∈ L, o.Ok w)
    (A' : Option Addr) (ca' : Nat) (L' : List OP) (hA' : rk.Lay EO w A' L') (hL' : L'.length ≤ ca') (hca' : ca' ≤ maxLen) (hO' : ∀ o ∈ L', o.Ok w) :
    Calls Try.prog 6 #[.slice A L.length ca, .slice A' L'.length ca'] w (Post w) := by
  go_enter Try.func6, Try.ntmps6
  go_wp2_with fail
  refine (new_any 6 16 w (by decide) (by decide) (by decide) (by decide)).mono ?_
  rintro e w1 ⟨g, s, m, rfl, h1, b1⟩
  have H1 := Lib.hid h1
  have B1 := Lib.hid b1
  clear h1 b1
  go_wp2_with fail
  refine (rnew_any w1).mono ?_
  rintro e w2 ⟨x, p, q, rfl, h2, b2⟩
  have X2 := Lib.hid (h2.mono B1.out.size)
  have D2 := Lib.hid (H1.out.below b2)
  have B2 := Lib.hid (up B1.out b2 B1.out.size)
  clear h2 b2 H1
  go_wp2_with fail
  refine (small_any A ca L 30 w2 (hA.below B2.out) (Nat.le_trans hL hca) (by decide)).mono ?_
  rintro e w3 ⟨sm, rfl, hq, b3⟩
  have X3 := Lib.hid (X2.out.below b3)
  have D3 := Lib.hid (D2.out.below b3)
  have B3 := Lib.hid (up B2.out b3 B2.out.size)
  clear b3 X2 D2
  cases sm with
  | false =>
    go_wp2_with fail
    refine (awake_any w3).mono ?_
    rintro e w4 ⟨rfl, hb4⟩
    have B4 := Lib.hid hb4
    clear hb4
    go_wp2_with fail
    go_ret
    exact ⟨rfl, up B3.out B4.out B3.out.size⟩
  | true =>
    obtain ⟨h30, hfit⟩ := hq rfl
    clear hq
    go_wp2_with fail
    refine (small_any A' ca' L' 30 w3 (hA'.below B3.out) (Nat.le_trans hL' hca') (by decide)).mono ?_
    rintro e w4 ⟨sm, rfl, hq, b4⟩
    have X4 := Lib.hid (X3.out.below b4)
    have D4 := Lib.hid (D3.out.below b4)
    have B4 := Lib.hid (up B3.out b4 B3.out.size)
    clear b4 X3 D3
    cases sm with
    | false =>
      go_wp2_with fail
      refine (awake_any w4).mono ?_
      rintro e w5 ⟨rfl, hb5⟩
      have B5 := Lib.hid hb5
      clear hb5
      go_wp2_with fail
      go_ret
      exact ⟨rfl, up B4.out B5.out B4.out.size⟩
    | true =>
      obtain ⟨h30', hfit'⟩ := hq rfl
      clear hq
      go_wp2_with fail
      go_loopw [41] (fun i wr => ∃ (k : Nat) (W : World) (d : DD) (c : Nat), W = wr ∧ k ≤ L.length ∧ i = .int .i64 k ∧ Bo wr w.heap.size g s m x p q d c ∧ c ≤ k ∧ d.done ≤ k ∧ Below w.heap.size w wr) (fun i _ => L.length - (RowKit.intOf i).toNat)
      case atStart => exact ⟨0, _, _, 0, rfl, by omega, rfl, ⟨D4.out, X4.out, rfl, rfl, by show (0 : Int) ≤ 0; omega, by show (0 : Int) ≤ 1000; omega, by omega⟩, by omega, by show (0 : Int) ≤ _; omega, B4.out⟩
      case round =>
      clear X4 D4
      obtain ⟨k, w5, d, c, rfl, hk, rfl, hbo, hc, hd, hb⟩ := hrel
      by_cases hkl : k < L.length
      · obtain ⟨b, off, rfl, a0, a1, a2, a3, a4, a5, a6⟩ := layO (hA.below hb) hkl
        have hok := hO _ (List.getElem_mem hkl)
        have hft := hfit _ (List.getElem_mem hkl)
        have m5 := made w5 (.cells #[.int .i64 L[k].k, .int .i64 L[k].s, .int .i64 L[k].n, .slice L[k].D L[k].dl.length L[k].dc, .slice L[k].K L[k].kl.length L[k].kc, .int .i64 L[k].t, .int .i64 L[k].z] 34)
        have Q5 := Lib.hid (opblk w5 L[k])
        generalize L[k] = o at *
        have H5 := Lib.hid (hbo.below m5)
        have B5 := Lib.hid (up hb m5 hb.size)
        have BB := Lib.hid (show ∀ W, SCh g s m x p q (w5.alloc (.cells #[.int .i64 o.k, .int .i64 o.s, .int .i64 o.n, .slice o.D o.dl.length o.dc, .slice o.K o.kl.length o.kc, .int .i64 o.t, .int .i64 o.z] 34)) W → Below w.heap.size w W from fun W hs => B5.out.trans (hs.to H5.out.dat H5.out.xat B5.out.size))
        have FD := Lib.hid (show Fed g s m x p q (w5.alloc (.cells #[.int .i64 o.k, .int .i64 o.s, .int .i64 o.n, .slice o.D o.dl.length o.dc, .slice o.K o.kl.length o.kc, .int .i64 o.t, .int .i64 o.z] 34)) w.heap.size o from
          ⟨fun W hs => hok.lay.below (BB.out W hs), fun W hs => hok.keep.below (BB.out W hs), fun ad e h0 => by
            obtain ⟨b', off', e', hlt, -⟩ := hok.keep h0
            rw [e'] at e
            injection e with e
            subst e
            exact hlt, hok.small, hok.ws, hok.wn, hok.wt, hok.wl, by have := hft.1; omega, by have := hft.2; omega⟩)
        have ST := Lib.hid (step_any H5.out o FD.out)
        unfold opV at ST
        have d0 := Q5.out.cell 0
        have d1 := Q5.out.cell 1
        have d2 := Q5.out.cell 2
        have d3 := Q5.out.cell 3
        have d4 := Q5.out.cell 4
        have d5 := Q5.out.cell 5
        have d6 := Q5.out.cell 6
        have MN := Lib.hid (And.intro hc hd)
        clear hok hft m5 hbo hb hc hd
        go_wp2_with fail
        refine ST.out.mono ?_
        rintro e w6 ⟨rfl, ⟨c6, h6, hc6⟩, x6, o6⟩
        have LK := stp_like d H5.out.s16 o
        have BO := Lib.hid (show Bo w6 w.heap.size g s m x p q (d.stp o) c6 from ⟨h6, x6, LK.n.trans H5.out.n6, LK.size.trans H5.out.s16, by have := LK.lo; have := H5.out.lo; omega, by have := LK.hi; have := MN.out; omega, by have := MN.out; omega⟩)
        have B6 := Lib.hid (BB.out _ o6)
        have MM := Lib.hid (show c6 ≤ k + 1 ∧ (d.stp o).done ≤ (k + 1 : Nat) from ⟨by have := MN.out; omega, by have := LK.hi; have := MN.out; omega⟩)
        clear h6 x6 o6 LK hc6 d0 d1 d2 d3 d4 d5 d6 ST
        go_wp2_with fail
        exact ⟨⟨k + 1, _, _, c6, rfl, by omega, by go_num, BO.out, MM.out.1, MM.out.2, B6.out⟩, by simp [RowKit.intOf]; omega⟩
      · have HB := Lib.hid hbo
        have BB := Lib.hid hb
        have MN := Lib.hid (show c ≤ 30 ∧ d.done ≤ 30 from ⟨by omega, by omega⟩)
        clear hbo hb hc hd
        go_wp2_with fail
        refine (copy_any HB.out.dat (by have := HB.out.n6; omega)).mono ?_
        rintro e w6 ⟨g', s', m', rfl, d6, b6⟩
        have D6 := Lib.hid d6
        have H6 := Lib.hid (HB.out.below b6)
        have B6 := Lib.hid (up BB.out b6 BB.out.size)
        have CB := Lib.hid b6.size
        clear d6 b6
        go_upto_region 12 with fail
        have hd7 := (Below.refl w6.heap.size w6).drew
        have H7 := Lib.hid (H6.out.below hd7)
        have D7 := Lib.hid (D6.out.below hd7)
        have B7 := Lib.hid (up B6.out hd7 B6.out.size)
        have CB7 := Lib.hid (Nat.le_trans CB.out hd7.size)
        have BC7 := Lib.hid hd7
        have YS := Lib.hid hd7.size
        obtain ⟨cp, cq, arm, lf, x0, x1, x2, x3, x4, x5, x6, on, off, lp, lq⟩ := H7.out.xat.lists
        have LP := Lib.hid lp
        have LQ := Lib.hid lq
        have ON := Lib.hid on
        have OF := Lib.hid off
        clear hd7 lp lq on off
        refine wp_region_held_drew (S := fun W => W.cell? ⟨x, 2, none⟩ = some (.int .i64 16) ∧ W.cell? ⟨x, 3, none⟩ = some (.bool arm) ∧ W.cell? ⟨x, 4, none⟩ = some (.bool d.down) ∧ W.cell? ⟨x, 5, none⟩ = some (.int .i64 lf) ∧ W.cell? ⟨x, 6, none⟩ = some (.int .i64 d.done)) (by kernel_rfl) ⟨x2, x3, x4, x5, x6⟩ (fun hHeld => ?_)
        generalize w6.drew = w7 at *
        refine wpAnyH_take (i := 0) (v := ?_) rfl (by kernel_rfl) (by kernel_rfl) (by kernel_rfl) (fun _ _ _ h => h) (Or.inl ⟨by rfl, ?_⟩) (by assumption) ?_
        rotate_left
        · (intro w hSw; (try dsimp only at hSw); first | (go_simp; done) | (go_simp; with_reducible rfl))
        simp only [Act.put, List.getElem_toArray, List.getElem_cons_zero, List.getElem_cons_succ, List.setIfInBounds_toArray, List.set_cons_zero, List.set_cons_succ]
        refine wpAnyH_take (i := 1) (v := ?_) rfl (by kernel_rfl) (by kernel_rfl) (by kernel_rfl) (fun _ _ _ h => h) (Or.inl ⟨by rfl, ?_⟩) (by assumption) ?_
        rotate_left
        · (intro w hSw; (try dsimp only at hSw); first | (go_simp; done) | (go_simp; with_reducible rfl))
        simp only [Act.put, List.getElem_toArray, List.getElem_cons_zero, List.getElem_cons_succ, List.setIfInBounds_toArray, List.set_cons_zero, List.set_cons_succ]
        refine wpAnyH_take (i := 2) (v := ?_) rfl (by kernel_rfl) (by kernel_rfl) (by kernel_rfl) (fun _ _ _ h => h) (Or.inl ⟨by rfl, ?_⟩) (by assumption) ?_
        rotate_left
        · (intro w hSw; (try dsimp only at hSw); first | (go_simp; done) | (go_simp; with_reducible rfl))
        simp only [Act.put, List.getElem_toArray, List.getElem_cons_zero, List.getElem_cons_succ, List.setIfInBounds_toArray, List.set_cons_zero, List.set_cons_succ]
        refine wpAnyH_take (i := 3) (v := ?_) rfl (by kernel_rfl) (by kernel_rfl) (by kernel_rfl) (fun _ _ _ h => h) (Or.inl ⟨by rfl, ?_⟩) (by assumption) ?_
        rotate_left
        · (intro w hSw; (try dsimp only at hSw); first | (go_simp; done) | (go_simp; with_reducible rfl))
        simp only [Act.put, List.getElem_toArray, List.getElem_cons_zero, List.getElem_cons_succ, List.setIfInBounds_toArray, List.set_cons_zero, List.set_cons_succ]
        refine wpAnyH_take (i := 4) (v := ?_) rfl (by kernel_rfl) (by kernel_rfl) (by kernel_rfl) (fun _ _ _ h => h) (Or.inl ⟨by rfl, ?_⟩) (by assumption) ?_
        rotate_left
        · (intro w hSw; (try dsimp only at hSw); first | (go_simp; done) | (go_simp; with_reducible rfl))
        simp only [Act.put, List.getElem_toArray, List.getElem_cons_zero, List.getElem_cons_succ, List.setIfInBounds_toArray, List.set_cons_zero, List.set_cons_succ]
        refine wpAnyH_take (i := 5) (v := ?_) rfl (by kernel_rfl) (by kernel_rfl) (by kernel_rfl) (fun _ _ _ h => h) (Or.inl ⟨by rfl, ?_⟩) (by assumption) ?_
        rotate_left
        · (intro w hSw; (try dsimp only at hSw); first | (go_simp; done) | (go_simp; with_reducible rfl))
        simp only [Act.put, List.getElem_toArray, List.getElem_cons_zero, List.getElem_cons_succ, List.setIfInBounds_toArray, List.set_cons_zero, List.set_cons_succ]
        refine wpAnyH_take (i := 6) (v := ?_) rfl (by kernel_rfl) (by kernel_rfl) (by kernel_rfl) (fun _ _ _ h => h) (Or.inl ⟨by rfl, ?_⟩) (by assumption) ?_
        rotate_left
        · (intro w hSw; (try dsimp only at hSw); first | (go_simp; done) | (go_simp; with_reducible rfl))
        simp only [Act.put, List.getElem_toArray, List.getElem_cons_zero, List.getElem_cons_succ, List.setIfInBounds_toArray, List.set_cons_zero, List.set_cons_succ]
        refine wpAnyH_take (i := 7) (v := ?_) rfl (by kernel_rfl) (by kernel_rfl) (by kernel_rfl) (fun _ _ _ h => h) (Or.inl ⟨by rfl, ?_⟩) (by assumption) ?_
        rotate_left
        · (intro w hSw; (try dsimp only at hSw); first | (go_simp; done) | (go_simp; with_reducible rfl))
        simp only [Act.put, List.getElem_toArray, List.getElem_cons_zero, List.getElem_cons_succ, List.setIfInBounds_toArray, List.set_cons_zero, List.set_cons_succ]
        refine wpAnyH_take (i := 8) (v := ?_) rfl (by kernel_rfl) (by kernel_rfl) (by kernel_rfl) (fun _ _ _ h => h) (Or.inl ⟨by rfl, ?_⟩) (by assumption) ?_
        rotate_left
        · (intro w hSw; (try dsimp only at hSw); first | (go_simp; done) | (go_simp; with_reducible rfl))
        simp only [Act.put, List.getElem_toArray, List.getElem_cons_zero, List.getElem_cons_succ, List.setIfInBounds_toArray, List.set_cons_zero, List.set_cons_succ]
        refine wpAnyH_take (i := 9) (v := ?_) rfl (by kernel_rfl) (by kernel_rfl) (by kernel_rfl) (fun _ _ _ h => h) (Or.inl ⟨by rfl, ?_⟩) (by assumption) ?_
        rotate_left
        · (intro w hSw; (try dsimp only at hSw); first | (go_simp; done) | (go_simp; with_reducible rfl))
        simp only [Act.put, List.getElem_toArray, List.getElem_cons_zero, List.getElem_cons_succ, List.setIfInBounds_toArray, List.set_cons_zero, List.set_cons_succ]
        refine wpAnyH_take (i := 10) (v := ?_) rfl (by kernel_rfl) (by kernel_rfl) (by kernel_rfl) (fun _ _ _ h => h) (Or.inl ⟨by rfl, ?_⟩) (by assumption) ?_
        rotate_left
        · (intro w hSw; (try dsimp only at hSw); first | (go_simp; done) | (go_simp; with_reducible rfl))
        simp only [Act.put, List.getElem_toArray, List.getElem_cons_zero, List.getElem_cons_succ, List.setIfInBounds_toArray, List.set_cons_zero, List.set_cons_succ]
        refine wpAnyH_take (i := 11) (v := ?_) rfl (by kernel_rfl) (by kernel_rfl) (by kernel_rfl) (fun _ _ _ h => h) (Or.inl ⟨by rfl, ?_⟩) (by assumption) ?_
        rotate_left
        · (intro w hSw; (try dsimp only at hSw); first | (go_simp; done) | (go_simp; with_reducible rfl))
        simp only [Act.put, List.getElem_toArray, List.getElem_cons_zero, List.getElem_cons_succ, List.setIfInBounds_toArray, List.set_cons_zero, List.set_cons_succ]
        refine wpAnyH_take (i := 12) (v := ?_) rfl (by kernel_rfl) (by kernel_rfl) (by kernel_rfl) (fun _ _ _ h => h) (Or.inl ⟨by rfl, ?_⟩) (by assumption) ?_
        rotate_left
        · (intro w hSw; (try dsimp only at hSw); first | (go_simp; done) | (go_simp; with_reducible rfl))
        simp only [Act.put, List.getElem_toArray, List.getElem_cons_zero, List.getElem_cons_succ, List.setIfInBounds_toArray, List.set_cons_zero, List.set_cons_succ]
        refine wpAnyH_take (i := 13) (v := ?_) rfl (by kernel_rfl) (by kernel_rfl) (by kernel_rfl) (fun _ _ _ h => h) (Or.inl ⟨by rfl, ?_⟩) (by assumption) ?_
        rotate_left
        · (intro w hSw; (try dsimp only at hSw); first | (go_simp; done) | (go_simp; with_reducible rfl))
        simp only [Act.put, List.getElem_toArray, List.getElem_cons_zero, List.getElem_cons_succ, List.setIfInBounds_toArray, List.set_cons_zero, List.set_cons_succ]
        refine wpAnyH_take (i := 14) (v := ?_) rfl (by kernel_rfl) (by kernel_rfl) (by kernel_rfl) (fun _ _ _ h => h) (Or.inl ⟨by rfl, ?_⟩) (by assumption) ?_
        rotate_left
        · (intro w hSw; (try dsimp only at hSw); first | (go_simp; done) | (go_simp; with_reducible rfl))
        simp only [Act.put, List.getElem_toArray, List.getElem_cons_zero, List.getElem_cons_succ, List.setIfInBounds_toArray, List.set_cons_zero, List.set_cons_succ]
        refine wpAnyH_take (i := 15) (v := ?_) rfl (by kernel_rfl) (by kernel_rfl) (by kernel_rfl) (fun _ _ _ h => h) (Or.inl ⟨by rfl, ?_⟩) (by assumption) ?_
        rotate_left
        · (intro w hSw; (try dsimp only at hSw); first | (go_simp; done) | (go_simp; with_reducible rfl))
        simp only [Act.put, List.getElem_toArray, List.getElem_cons_zero, List.getElem_cons_succ, List.setIfInBounds_toArray, List.set_cons_zero, List.set_cons_succ]
        refine wpAnyH_take (i := 16) (v := ?_) rfl (by kernel_rfl) (by kernel_rfl) (by kernel_rfl) (fun _ _ _ h => h) (Or.inl ⟨by rfl, ?_⟩) (by assumption) ?_
        rotate_left
        · (intro w hSw; (try dsimp only at hSw); first | (go_simp; done) | (go_simp; with_reducible rfl))
        simp only [Act.put, List.getElem_toArray, List.getElem_cons_zero, List.getElem_cons_succ, List.setIfInBounds_toArray, List.set_cons_zero, List.set_cons_succ]
        refine wpAnyH_take (i := 17) (v := ?_) rfl (by kernel_rfl) (by kernel_rfl) (by kernel_rfl) (fun _ _ _ h => h) (Or.inl ⟨by rfl, ?_⟩) (by assumption) ?_
        rotate_left
        · (intro w hSw; (try dsimp only at hSw); first | (go_simp; done) | (go_simp; with_reducible rfl))
        simp only [Act.put, List.getElem_toArray, List.getElem_cons_zero, List.getElem_cons_succ, List.setIfInBounds_toArray, List.set_cons_zero, List.set_cons_succ]
        refine wpAnyH_take (i := 18) (v := ?_) rfl (by kernel_rfl) (by kernel_rfl) (by kernel_rfl) (fun _ _ _ h => h) (Or.inl ⟨by rfl, ?_⟩) (by assumption) ?_
        rotate_left
        · (intro w hSw; (try dsimp only at hSw); first | (go_simp; done) | (go_simp; with_reducible rfl))
        simp only [Act.put, List.getElem_toArray, List.getElem_cons_zero, List.getElem_cons_succ, List.setIfInBounds_toArray, List.set_cons_zero, List.set_cons_succ]
        refine wpAnyH_take (i := 19) (v := ?_) rfl (by kernel_rfl) (by kernel_rfl) (by kernel_rfl) (fun _ _ _ h => h) (Or.inl ⟨by rfl, ?_⟩) (by assumption) ?_
        rotate_left
        · (intro w hSw; (try dsimp only at hSw); first | (go_simp; done) | (go_simp; with_reducible rfl))
        simp only [Act.put, List.getElem_toArray, List.getElem_cons_zero, List.getElem_cons_succ, List.setIfInBounds_toArray, List.set_cons_zero, List.set_cons_succ]
        refine wpAnyH_take (i := 20) (v := ?_) rfl (by kernel_rfl) (by kernel_rfl) (by kernel_rfl) (fun _ _ _ h => h) (Or.inl ⟨by rfl, ?_⟩) (by assumption) ?_
        rotate_left
        · (intro w hSw; (try dsimp only at hSw); first | (go_simp; done) | (go_simp; with_reducible rfl))
        simp only [Act.put, List.getElem_toArray, List.getElem_cons_zero, List.getElem_cons_succ, List.setIfInBounds_toArray, List.set_cons_zero, List.set_cons_succ]
        refine wpAnyH_ready (rs := [21]) (by kernel_rfl) (by simp) ?_
        refine AllReadyH.cons rfl (fun K hK => ?_) AllReadyH.nil
        go_simp
        have m8 := made w7 (.cells #[.slice none 0 0, .slice none 0 0, .int .i64 16, .bool arm, .bool d.down, .int .i64 lf, .int .i64 d.done] 54)
        have xl := H7.out.xat.lt
        refine hK.out _ _ ⟨(m8.cell (p := ⟨x, 2, none⟩) xl.1).trans x2, (m8.cell (p := ⟨x, 3, none⟩) xl.1).trans x3, (m8.cell (p := ⟨x, 4, none⟩) xl.1).trans x4, (m8.cell (p := ⟨x, 5, none⟩) xl.1).trans x5, (m8.cell (p := ⟨x, 6, none⟩) xl.1).trans x6⟩ (fun hHeld2 => ?_)
        clear hK K hHeld
        refine wpAnyH_take (i := 22) (v := ?_) rfl (by kernel_rfl) (by kernel_rfl) (by kernel_rfl) (fun _ _ _ h => h) (Or.inl ⟨by rfl, ?_⟩) (by assumption) ?_
        rotate_left
        · (intro w hSw; (try dsimp only at hSw); first | (go_simp; done) | (go_simp; with_reducible rfl))
        simp only [Act.put, List.getElem_toArray, List.getElem_cons_zero, List.getElem_cons_succ, List.setIfInBounds_toArray, List.set_cons_zero, List.set_cons_succ]
        refine wpAnyH_done (by kernel_rfl) ?_ _
        have Y8 := Lib.hid (Blk.new w7 54 #[.slice none 0 0, .slice none 0 0, .int .i64 16, .bool arm, .bool d.down, .int .i64 lf, .int .i64 d.done])
        have H8 := Lib.hid (H7.out.below m8)
        have D8 := Lib.hid (D7.out.below m8)
        have B8 := Lib.hid (up B7.out m8 B7.out.size)
        have LP8 := Lib.hid (LP.out.below m8)
        have LQ8 := Lib.hid (LQ.out.below m8)
        have CB8 := Lib.hid (Nat.le_trans CB7.out m8.size)
        have BC8 := Lib.hid (up BC7.out m8 BC7.out.size)
        have XY := Lib.hid (show x ≠ w7.heap.size by have := xl.1; omega)
        clear hHeld2 x0 x1 x2 x3 x4 x5 x6 m8 LP LQ B7 D7 H7 xl
        generalize w7.alloc (.cells #[.slice none 0 0, .slice none 0 0, .int .i64 16, .bool arm, .bool d.down, .int .i64 lf, .int .i64 d.done] 54) = w8 at *
        have YB := Lib.hid CB7.out
        generalize w7.heap.size = y at *
        go_upto_region 13 with fail
        have hd9 := (Below.refl w8.heap.size w8).drew
        have H9 := Lib.hid (H8.out.below hd9)
        have D9 := Lib.hid (D8.out.below hd9)
        have B9 := Lib.hid (up B8.out hd9 B8.out.size)
        have Y9 := Lib.hid (Y8.out.below hd9 Y8.out.lt)
        have LP9 := Lib.hid (LP8.out.below hd9)
        have LQ9 := Lib.hid (LQ8.out.below hd9)
        have CB9 := Lib.hid (Nat.le_trans CB8.out hd9.size)
        have BC9 := Lib.hid (up BC8.out hd9 BC8.out.size)
        obtain ⟨cp9, cq9, arm9, lf9, x0, x1, -, -, -, -, -, -, -, -, -⟩ := H9.out.xat.lists
        have y0 : w8.drew.cell? ⟨y, 0, none⟩ = some (.slice none 0 0) := Y9.out.cell 0
        clear hd9 H8 D8 B8 Y8 LP8 LQ8 CB7 CB8
        refine wp_region_held_drew (S := fun W => W.cell? ⟨x, 0, none⟩ = some (.slice (some ⟨p, 0, none⟩) 6 cp9)) (by kernel_rfl) x0 (fun hHeld => ?_)
        generalize w8.drew = w9 at *
        refine wpAnyH_take (i := 0) (v := ?_) rfl (by kernel_rfl) (by kernel_rfl) (by kernel_rfl) (fun _ _ _ h => h) (Or.inl ⟨by rfl, ?_⟩) (by assumption) ?_
        rotate_left
        · (intro w hSw; (try dsimp only at hSw); first | (go_simp; done) | (go_simp; with_reducible rfl))
        simp only [Act.put, List.getElem_toArray, List.getElem_cons_zero, List.getElem_cons_succ, List.setIfInBounds_toArray, List.set_cons_zero, List.set_cons_succ]
        refine wpAnyH_take (i := 1) (v := ?_) rfl (by kernel_rfl) (by kernel_rfl) (by kernel_rfl) (fun _ _ _ h => h) (Or.inl ⟨by rfl, ?_⟩) (by assumption) ?_
        rotate_left
        · (intro w hSw; (try dsimp only at hSw); first | (go_simp; done) | (go_simp; with_reducible rfl))
        simp only [Act.put, List.getElem_toArray, List.getElem_cons_zero, List.getElem_cons_succ, List.setIfInBounds_toArray, List.set_cons_zero, List.set_cons_succ]
        refine wpAnyH_take (i := 2) (v := ?_) rfl (by kernel_rfl) (by kernel_rfl) (by kernel_rfl) (fun _ _ _ h => h) (Or.inl ⟨by rfl, ?_⟩) (by assumption) ?_
        rotate_left
        · (intro w hSw; (try dsimp only at hSw); first | (go_simp; done) | (go_simp; with_reducible rfl))
        simp only [Act.put, List.getElem_toArray, List.getElem_cons_zero, List.getElem_cons_succ, List.setIfInBounds_toArray, List.set_cons_zero, List.set_cons_succ]
        refine wpAnyH_take (i := 3) (v := ?_) rfl (by kernel_rfl) (by kernel_rfl) (by kernel_rfl) (fun _ _ _ h => h) (Or.inl ⟨by rfl, ?_⟩) (by assumption) ?_
        rotate_left
        · (intro w hSw; (try dsimp only at hSw); first | (go_simp; done) | (go_simp; with_reducible rfl))
        simp only [Act.put, List.getElem_toArray, List.getElem_cons_zero, List.getElem_cons_succ, List.setIfInBounds_toArray, List.set_cons_zero, List.set_cons_succ]
        refine wpAnyH_take (i := 5) (v := ?_) rfl (by kernel_rfl) (by kernel_rfl) (by kernel_rfl) (fun _ _ _ h => h) (Or.inl ⟨by rfl, ?_⟩) (by assumption) ?_
        rotate_left
        · (intro w hSw; (try dsimp only at hSw); first | (go_simp; done) | (go_simp; with_reducible rfl))
        simp only [Act.put, List.getElem_toArray, List.getElem_cons_zero, List.getElem_cons_succ, List.setIfInBounds_toArray, List.set_cons_zero, List.set_cons_succ]
        refine wpAnyH_take (i := 6) (v := ?_) rfl (by kernel_rfl) (by kernel_rfl) (by kernel_rfl) (fun _ _ _ h => h) (Or.inl ⟨by rfl, ?_⟩) (by assumption) ?_
        rotate_left
        · (intro w hSw; (try dsimp only at hSw); first | (go_simp; done) | (go_simp; with_reducible rfl))
        simp only [Act.put, List.getElem_toArray, List.getElem_cons_zero, List.getElem_cons_succ, List.setIfInBounds_toArray, List.set_cons_zero, List.set_cons_succ]
        refine wpAnyH_take (i := 7) (v := ?_) rfl (by kernel_rfl) (by kernel_rfl) (by kernel_rfl) (fun _ _ _ h => h) (Or.inl ⟨by rfl, ?_⟩) (by assumption) ?_
        rotate_left
        · (intro w hSw; (try dsimp only at hSw); first | (go_simp; done) | (go_simp; with_reducible rfl))
        simp only [Act.put, List.getElem_toArray, List.getElem_cons_zero, List.getElem_cons_succ, List.setIfInBounds_toArray, List.set_cons_zero, List.set_cons_succ]
        refine wpAnyH_take (i := 8) (v := ?_) rfl (by kernel_rfl) (by kernel_rfl) (by kernel_rfl) (fun _ _ _ h => h) (Or.inl ⟨by rfl, ?_⟩) (by assumption) ?_
        rotate_left
        · (intro w hSw; (try dsimp only at hSw); first | (go_simp; done) | (go_simp; with_reducible rfl))
        simp only [Act.put, List.getElem_toArray, List.getElem_cons_zero, List.getElem_cons_succ, List.setIfInBounds_toArray, List.set_cons_zero, List.set_cons_succ]
        refine wpAnyH_ready (rs := [4]) (by kernel_rfl) (by simp) ?_
        refine AllReadyH.cons rfl (fun K hK => ?_) AllReadyH.nil
        go_simp
        refine hK.out _ _ x0 (fun hHeld2 => ?_)
        clear hK K hHeld
        obtain ⟨v10, w10, hr, own10, gr10⟩ := rk.app_run TS (c := cp9) (rk.Own.nil (E := ES) w9 w9.heap.size 9) LP9.out (fun e => by simp at e) (by simp) (Nat.le_refl _)
        refine wpAnyH_ready (rs := [9]) (by kernel_rfl) (by simp) ?_
        refine AllReadyH.cons rfl (fun K hK => ?_) AllReadyH.nil
        rw [if_pos (by rfl)]
        refine op_app (.tmp 80) (.tmp 84) rfl rfl rfl rfl hr ?_
        simp only [Act.put, List.setIfInBounds_toArray, List.set_cons_zero, List.set_cons_succ]
        have b10 := gr10.below (rk.Own.nil (E := ES) w9 w9.heap.size 9) (Nat.le_refl _)
        have H10 := Lib.hid (H9.out.below b10)
        have D10 := Lib.hid (D9.out.below b10)
        have B10 := Lib.hid (up B9.out b10 B9.out.size)
        have Y10 := Lib.hid (Y9.out.below b10 Y9.out.lt)
        have LQ10 := Lib.hid (LQ9.out.below b10)
        have CB10 := Lib.hid (Nat.le_trans CB9.out b10.size)
        have BC10 := Lib.hid (up BC9.out b10 BC9.out.size)
        have x10 : w10.cell? ⟨x, 0, none⟩ = some (.slice (some ⟨p, 0, none⟩) 6 cp9) := (b10.cell (p := ⟨x, 0, none⟩) H9.out.xat.lt.1).trans x0
        rw [List.nil_append] at own10
        obtain ⟨p2, cp2, c12, ev, pb2, pk2, pl2, pm2, -, pt2⟩ := rk.Own.full own10 (by simp)
        rw [show ((List.range 6).map fun i : Nat => bytes.str (d.sec i)).length = 6 by simp] at ev pl2
        subst ev
        have P10 := Lib.hid pk2
        have R10 := Lib.hid (row6_of (f := fun i => bytes.str (d.sec i)) pt2)
        have PB := Lib.hid (show w5.heap.size ≤ p2 ∧ 6 ≤ cp2 ∧ cp2 ≤ 9223372036854775807 from ⟨Nat.le_trans CB9.out pb2, pl2, pm2⟩)
        have yf := Y10.out.free 0
        have yc : w10.cell? ⟨y, 0, none⟩ = some (.slice none 0 0) := Y10.out.cell 0
        have NP := Lib.hid (ty_ne pk2 Y10.out (by decide))
        refine hK.out _ _ x10 (fun hHeld => ?_)
        clear hK K hHeld2 hr own10 gr10 pk2 pt2 pl2 pm2 pb2
        refine wpAnyH_take (i := 10) (v := ?_) rfl (by kernel_rfl) (by kernel_rfl) (by kernel_rfl) (fun _ _ _ h => h) (Or.inl ⟨by rfl, ?_⟩) (by assumption) ?_
        rotate_left
        · (intro w hSw; (try dsimp only at hSw); first | (go_simp; done) | (go_simp; with_reducible rfl))
        simp only [Act.put, List.getElem_toArray, List.getElem_cons_zero, List.getElem_cons_succ, List.setIfInBounds_toArray, List.set_cons_zero, List.set_cons_succ]
        refine wpAnyH_take (i := 11) (v := ?_) rfl (by kernel_rfl) (by kernel_rfl) (by kernel_rfl) (fun _ _ _ h => h) (Or.inl ⟨by rfl, ?_⟩) (by assumption) ?_
        rotate_left
        · (intro w hSw; (try dsimp only at hSw); first | (go_simp; done) | (go_simp; with_reducible rfl))
        simp only [Act.put, List.getElem_toArray, List.getElem_cons_zero, List.getElem_cons_succ, List.setIfInBounds_toArray, List.set_cons_zero, List.set_cons_succ]
        refine wpAnyH_ready (rs := [12]) (by kernel_rfl) (by simp) ?_
        refine AllReadyH.cons rfl (fun K hK => ?_) AllReadyH.nil
        go_simp
        refine hK.out _ _ ((cell_far (w := w10) (b := x) (i := 0) (a := ⟨y, 0, none⟩) (u := .slice (some ⟨p2, 0, none⟩) 6 cp2) XY.out).trans x10) (fun hHeld2 => ?_)
        clear hK K hHeld
        refine wpAnyH_done (by kernel_rfl) ?_ _
        have Y11 := Lib.hid (Y10.out.put 0 (.slice (some ⟨p2, 0, none⟩) 6 cp2))
        have P11 := Lib.hid (P10.out.far (p := ⟨y, 0, none⟩) NP.out (.slice (some ⟨p2, 0, none⟩) 6 cp2))
        have BC11 := Lib.hid (BC10.out.setCell (p := ⟨y, 0, none⟩) YS.out (.slice (some ⟨p2, 0, none⟩) 6 cp2))
        clear hHeld2 x10 yc yf x0 y0 Y9 Y10 P10 H9 H10 D9 D10 B9 B10 LP9 LQ9 LQ10 CB9 CB10 BC7 BC8 BC9 BC10
        generalize w10.setCell ⟨y, 0, none⟩ (.slice (some ⟨p2, 0, none⟩) 6 cp2) = w11 at *
        go_upto_region 14 with fail
        have hd12 := (Below.refl w11.heap.size w11).drew
        have BC12 := Lib.hid (up BC11.out hd12 BC11.out.size)
        have Y12 := Lib.hid (Y11.out.below hd12 Y11.out.lt)
        have P12 := Lib.hid (P11.out.below hd12 P11.out.lt)
        have H12 := Lib.hid (H6.out.below BC12.out)
        obtain ⟨cp12, cq12, arm12, lf12, -, x1, -, -, -, -, -, -, -, -, lq⟩ := H12.out.xat.lists
        have LQ12 := Lib.hid lq
        have y1 : w11.drew.cell? ⟨y, 1, none⟩ = some (.slice none 0 0) := Y12.out.cell 1
        clear hd12 lq
        refine wp_region_held_drew (S := fun W => W.cell? ⟨x, 1, none⟩ = some (.slice (some ⟨q, 0, none⟩) 6 cq12)) (by kernel_rfl) x1 (fun hHeld => ?_)
        clear Y11 P11
        generalize w11.drew = w12 at *
        refine wpAnyH_take (i := 0) (v := ?_) rfl (by kernel_rfl) (by kernel_rfl) (by kernel_rfl) (fun _ _ _ h => h) (Or.inl ⟨by rfl, ?_⟩) (by assumption) ?_
        rotate_left
        · (intro w hSw; (try dsimp only at hSw); first | (go_simp; done) | (go_simp; with_reducible rfl))
        simp only [Act.put, List.getElem_toArray, List.getElem_cons_zero, List.getElem_cons_succ, List.setIfInBounds_toArray, List.set_cons_zero, List.set_cons_succ]
        refine wpAnyH_take (i := 1) (v := ?_) rfl (by kernel_rfl) (by kernel_rfl) (by kernel_rfl) (fun _ _ _ h => h) (Or.inl ⟨by rfl, ?_⟩) (by assumption) ?_
        rotate_left
        · (intro w hSw; (try dsimp only at hSw); first | (go_simp; done) | (go_simp; with_reducible rfl))
        simp only [Act.put, List.getElem_toArray, List.getElem_cons_zero, List.getElem_cons_succ, List.setIfInBounds_toArray, List.set_cons_zero, List.set_cons_succ]
        refine wpAnyH_take (i := 2) (v := ?_) rfl (by kernel_rfl) (by kernel_rfl) (by kernel_rfl) (fun _ _ _ h => h) (Or.inl ⟨by rfl, ?_⟩) (by assumption) ?_
        rotate_left
        · (intro w hSw; (try dsimp only at hSw); first | (go_simp; done) | (go_simp; with_reducible rfl))
        simp only [Act.put, List.getElem_toArray, List.getElem_cons_zero, List.getElem_cons_succ, List.setIfInBounds_toArray, List.set_cons_zero, List.set_cons_succ]
        refine wpAnyH_take (i := 3) (v := ?_) rfl (by kernel_rfl) (by kernel_rfl) (by kernel_rfl) (fun _ _ _ h => h) (Or.inl ⟨by rfl, ?_⟩) (by assumption) ?_
        rotate_left
        · (intro w hSw; (try dsimp only at hSw); first | (go_simp; done) | (go_simp; with_reducible rfl))
        simp only [Act.put, List.getElem_toArray, List.getElem_cons_zero, List.getElem_cons_succ, List.setIfInBounds_toArray, List.set_cons_zero, List.set_cons_succ]
        refine wpAnyH_take (i := 5) (v := ?_) rfl (by kernel_rfl) (by kernel_rfl) (by kernel_rfl) (fun _ _ _ h => h) (Or.inl ⟨by rfl, ?_⟩) (by assumption) ?_
        rotate_left
        · (intro w hSw; (try dsimp only at hSw); first | (go_simp; done) | (go_simp; with_reducible rfl))
        simp only [Act.put, List.getElem_toArray, List.getElem_cons_zero, List.getElem_cons_succ, List.setIfInBounds_toArray, List.set_cons_zero, List.set_cons_succ]
        refine wpAnyH_take (i := 6) (v := ?_) rfl (by kernel_rfl) (by kernel_rfl) (by kernel_rfl) (fun _ _ _ h => h) (Or.inl ⟨by rfl, ?_⟩) (by assumption) ?_
        rotate_left
        · (intro w hSw; (try dsimp only at hSw); first | (go_simp; done) | (go_simp; with_reducible rfl))
        simp only [Act.put, List.getElem_toArray, List.getElem_cons_zero, List.getElem_cons_succ, List.setIfInBounds_toArray, List.set_cons_zero, List.set_cons_succ]
        refine wpAnyH_take (i := 7) (v := ?_) rfl (by kernel_rfl) (by kernel_rfl) (by kernel_rfl) (fun _ _ _ h => h) (Or.inl ⟨by rfl, ?_⟩) (by assumption) ?_
        rotate_left
        · (intro w hSw; (try dsimp only at hSw); first | (go_simp; done) | (go_simp; with_reducible rfl))
        simp only [Act.put, List.getElem_toArray, List.getElem_cons_zero, List.getElem_cons_succ, List.setIfInBounds_toArray, List.set_cons_zero, List.set_cons_succ]
        refine wpAnyH_take (i := 8) (v := ?_) rfl (by kernel_rfl) (by kernel_rfl) (by kernel_rfl) (fun _ _ _ h => h) (Or.inl ⟨by rfl, ?_⟩) (by assumption) ?_
        rotate_left
        · (intro w hSw; (try dsimp only at hSw); first | (go_simp; done) | (go_simp; with_reducible rfl))
        simp only [Act.put, List.getElem_toArray, List.getElem_cons_zero, List.getElem_cons_succ, List.setIfInBounds_toArray, List.set_cons_zero, List.set_cons_succ]
        refine wpAnyH_ready (rs := [4]) (by kernel_rfl) (by simp) ?_
        refine AllReadyH.cons rfl (fun K hK => ?_) AllReadyH.nil
        go_simp
        refine hK.out _ _ x1 (fun hHeld2 => ?_)
        clear hK K hHeld
        obtain ⟨v13, w13, hr, own13, gr13⟩ := rk.app_run TS (c := cq12) (rk.Own.nil (E := ES) w12 w12.heap.size 9) LQ12.out (fun e => by simp at e) (by simp) (Nat.le_refl _)
        refine wpAnyH_ready (rs := [9]) (by kernel_rfl) (by simp) ?_
        refine AllReadyH.cons rfl (fun K hK => ?_) AllReadyH.nil
        rw [if_pos (by rfl)]
        refine op_app (.tmp 92) (.tmp 96) rfl rfl rfl rfl hr ?_
        simp only [Act.put, List.setIfInBounds_toArray, List.set_cons_zero, List.set_cons_succ]
        have b13 := gr13.below (rk.Own.nil (E := ES) w12 w12.heap.size 9) (Nat.le_refl _)
        have BC13 := Lib.hid (up BC12.out b13 BC12.out.size)
        have Y13 := Lib.hid (Y12.out.below b13 Y12.out.lt)
        have P13 := Lib.hid (P12.out.below b13 P12.out.lt)
        have x13 : w13.cell? ⟨x, 1, none⟩ = some (.slice (some ⟨q, 0, none⟩) 6 cq12) := (b13.cell (p := ⟨x, 1, none⟩) H12.out.xat.lt.1).trans x1
        rw [List.nil_append] at own13
        obtain ⟨q2, cq2, c22, ev, pb2, pk2, pl2, pm2, -, pt2⟩ := rk.Own.full own13 (by simp)
        rw [show ((List.range 6).map fun i : Nat => cstr (d.cache i)).length = 6 by simp] at ev pl2
        subst ev
        have Q13 := Lib.hid pk2
        have R13 := Lib.hid (row6_of (f := fun i => cstr (d.cache i)) pt2)
        have QB := Lib.hid (show w5.heap.size ≤ q2 ∧ 6 ≤ cq2 ∧ cq2 ≤ 9223372036854775807 from ⟨Nat.le_trans CB.out (Nat.le_trans BC12.out.size pb2), pl2, pm2⟩)
        have PQ := Lib.hid (show p2 ≠ q2 by have := P12.out.lt; omega)
        have yf := Y13.out.free 1
        have yc : w13.cell? ⟨y, 1, none⟩ = some (.slice none 0 0) := Y13.out.cell 1
        have NQ := Lib.hid (ty_ne pk2 Y13.out (by decide))
        refine hK.out _ _ x13 (fun hHeld => ?_)
        clear hK K hHeld2 hr own13 gr13 pk2 pt2 pl2 pm2 pb2 b13
        refine wpAnyH_take (i := 10) (v := ?_) rfl (by kernel_rfl) (by kernel_rfl) (by kernel_rfl) (fun _ _ _ h => h) (Or.inl ⟨by rfl, ?_⟩) (by assumption) ?_
        rotate_left
        · (intro w hSw; (try dsimp only at hSw); first | (go_simp; done) | (go_simp; with_reducible rfl))
        simp only [Act.put, List.getElem_toArray, List.getElem_cons_zero, List.getElem_cons_succ, List.setIfInBounds_toArray, List.set_cons_zero, List.set_cons_succ]
        refine wpAnyH_take (i := 11) (v := ?_) rfl (by kernel_rfl) (by kernel_rfl) (by kernel_rfl) (fun _ _ _ h => h) (Or.inl ⟨by rfl, ?_⟩) (by assumption) ?_
        rotate_left
        · (intro w hSw; (try dsimp only at hSw); first | (go_simp; done) | (go_simp; with_reducible rfl))
        simp only [Act.put, List.getElem_toArray, List.getElem_cons_zero, List.getElem_cons_succ, List.setIfInBounds_toArray, List.set_cons_zero, List.set_cons_succ]
        refine wpAnyH_ready (rs := [12]) (by kernel_rfl) (by simp) ?_
        refine AllReadyH.cons rfl (fun K hK => ?_) AllReadyH.nil
        go_simp
        refine hK.out _ _ ((cell_far (w := w13) (b := x) (i := 1) (a := ⟨y, 1, none⟩) (u := .slice (some ⟨q2, 0, none⟩) 6 cq2) XY.out).trans x13) (fun hHeld2 => ?_)
        clear hK K hHeld
        refine wpAnyH_done (by kernel_rfl) ?_ _
        have Y14 := Lib.hid (Y13.out.put 1 (.slice (some ⟨q2, 0, none⟩) 6 cq2))
        have P14 := Lib.hid (P13.out.far (p := ⟨y, 1, none⟩) NP.out (.slice (some ⟨q2, 0, none⟩) 6 cq2))
        have Q14 := Lib.hid (Q13.out.far (p := ⟨y, 1, none⟩) NQ.out (.slice (some ⟨q2, 0, none⟩) 6 cq2))
        have BC14 := Lib.hid (BC13.out.setCell (p := ⟨y, 1, none⟩) YS.out (.slice (some ⟨q2, 0, none⟩) 6 cq2))
        clear hHeld2 x13 yc yf x1 y1 Y12 Y13 P12 P13 Q13 H12 LQ12 BC11 BC12 BC13
        generalize w13.setCell ⟨y, 1, none⟩ (.slice (some ⟨q2, 0, none⟩) 6 cq2) = w14 at *
        have X14 := Lib.hid (show XAt w14 w5.heap.size y p2 q2 d from XIs.at_ (cp := cp2) (cq := cq2) (arm := arm) (lf := lf) (c1 := c12) (c2 := c22) ⟨Y14.out, P14.out, R10.out, Q14.out, R13.out, ⟨PB.out.2.1, PB.out.2.2⟩, ⟨QB.out.2.1, QB.out.2.2⟩, ON.out, OF.out⟩ PQ.out (Nat.le_trans CB.out YS.out) PB.out.1 QB.out.1)
        have H14 := Lib.hid (H6.out.below BC14.out)
        have C14 := Lib.hid (show Bo w14 w5.heap.size g' s' m' y p2 q2 d c from ⟨D6.out.below BC14.out, X14.out, H14.out.n6, H14.out.s16, H14.out.lo, H14.out.hi, H14.out.cc⟩)
        have B14 := Lib.hid (up B6.out BC14.out B6.out.size)
        have S5 := Lib.hid (Nat.le_trans CB.out BC14.out.size)
        have LTS := Lib.hid (fun k (hk : Six g s m x p q k) => show k < w5.heap.size from HB.out.six_lt hk)
        clear X14 Y14 P14 Q14 R10 R13 PB QB PQ NP NQ XY YB YS BC14 ON OF H6 D6 B6
        go_wp2_with fail
        go_loopw [102] (fun i wr => ∃ (j : Nat) (W : World) (e : DD) (ce : Nat), W = wr ∧ j ≤ L'.length ∧ i = .int .i64 j ∧ Bo wr w.heap.size g s m x p q e ce ∧ ce ≤ 30 + j ∧ e.done ≤ 30 + j ∧ Bo wr w5.heap.size g' s' m' y p2 q2 d c ∧ Below w.heap.size w wr) (fun i _ => L'.length - (RowKit.intOf i).toNat)
        case atStart => exact ⟨0, _, d, c, rfl, by omega, rfl, H14.out, by have := MN.out; omega, by have := MN.out; omega, C14.out, B14.out⟩
        case round =>
        clear H14 C14 B14
        obtain ⟨j, w15, e, ce, rfl, hj, rfl, hbo, hce, hed, hco, hb⟩ := hrel
        by_cases hjl : j < L'.length
        · obtain ⟨b, off, rfl, a0, a1, a2, a3, a4, a5, a6⟩ := layO (hA'.below hb) hjl
          have hok := hO' _ (List.getElem_mem hjl)
          have hft := hfit' _ (List.getElem_mem hjl)
          have m5 := made w15 (.cells #[.int .i64 L'[j].k, .int .i64 L'[j].s, .int .i64 L'[j].n, .slice L'[j].D L'[j].dl.length L'[j].dc, .slice L'[j].K L'[j].kl.length L'[j].kc, .int .i64 L'[j].t, .int .i64 L'[j].z] 34)
          have Q5 := Lib.hid (opblk w15 L'[j])
          generalize L'[j] = o at *
          have H5 := Lib.hid (hbo.below m5)
          have C5 := Lib.hid (hco.below m5)
          have B5 := Lib.hid (up hb m5 hb.size)
          have BB := Lib.hid (show ∀ W, SCh g s m x p q (w15.alloc (.cells #[.int .i64 o.k, .int .i64 o.s, .int .i64 o.n, .slice o.D o.dl.length o.dc, .slice o.K o.kl.length o.kc, .int .i64 o.t, .int .i64 o.z] 34)) W → Below w.heap.size w W from fun W hs => B5.out.trans (hs.to H5.out.dat H5.out.xat B5.out.size))
          have FD := Lib.hid (show Fed g s m x p q (w15.alloc (.cells #[.int .i64 o.k, .int .i64 o.s, .int .i64 o.n, .slice o.D o.dl.length o.dc, .slice o.K o.kl.length o.kc, .int .i64 o.t, .int .i64 o.z] 34)) w.heap.size o from
            ⟨fun W hs => hok.lay.below (BB.out W hs), fun W hs => hok.keep.below (BB.out W hs), fun ad e h0 => by
              obtain ⟨b', off', e', hlt, -⟩ := hok.keep h0
              rw [e'] at e
              injection e with e
              subst e
              exact hlt, hok.small, hok.ws, hok.wn, hok.wt, hok.wl, by have := hft.1; omega, by have := hft.2; omega⟩)
          have ST := Lib.hid (step_any H5.out o FD.out)
          unfold opV at ST
          have d0 := Q5.out.cell 0
          have d1 := Q5.out.cell 1
          have d2 := Q5.out.cell 2
          have d3 := Q5.out.cell 3
          have d4 := Q5.out.cell 4
          have d5 := Q5.out.cell 5
          have d6 := Q5.out.cell 6
          have MM0 := Lib.hid (And.intro hce hed)
          clear hok hft m5 hbo hco hb hce hed
          go_wp2_with fail
          refine ST.out.mono ?_
          rintro e0 w6' ⟨rfl, ⟨c6, h6, hc6⟩, x6, o6⟩
          have LK := stp_like e H5.out.s16 o
          have BO := Lib.hid (show Bo w6' w.heap.size g s m x p q (e.stp o) c6 from ⟨h6, x6, LK.n.trans H5.out.n6, LK.size.trans H5.out.s16, by have := LK.lo; have := H5.out.lo; omega, by have := LK.hi; have := MM0.out; omega, by have := MM0.out; omega⟩)
          have CO := Lib.hid (C5.out.sch H5.out o6 (fun k h1 h2 => by have := C5.out.six_ge h1; have := LTS.out k h2; omega))
          have B6 := Lib.hid (BB.out _ o6)
          have MM := Lib.hid (show c6 ≤ 30 + (j + 1) ∧ (e.stp o).done ≤ 30 + (j + 1 : Nat) from ⟨by have := MM0.out; omega, by have := LK.hi; have := MM0.out; omega⟩)
          clear h6 x6 o6 LK hc6 d0 d1 d2 d3 d4 d5 d6 ST
          go_wp2_with fail
          exact ⟨⟨j + 1, _, _, c6, rfl, by omega, by go_num, BO.out, MM.out.1, MM.out.2, CO.out, B6.out⟩, by simp [RowKit.intOf]; omega⟩
        · have H16 := Lib.hid hbo
          have C16 := Lib.hid hco
          have B16 := Lib.hid hb
          clear hbo hco hb hce hed
          go_wp2_with fail
          refine (same_any C16.out).mono ?_
          rintro e0 w17 ⟨rfl, b17⟩
          have H17 := Lib.hid (H16.out.below b17)
          have C17 := Lib.hid (C16.out.below b17)
          have B17 := Lib.hid (up B16.out b17 B16.out.size)
          clear b17 H16 C16 B16
          go_wp2_with fail
          go_loopw [116] (fun i wr => ∃ (n : Nat) (W : World), W = wr ∧ n ≤ 6 ∧ i = .int .i64 n ∧ Bo wr w.heap.size g s m x p q e ce ∧ Bo wr w5.heap.size g' s' m' y p2 q2 d c ∧ Below w.heap.size w wr) (fun i _ => 6 - (RowKit.intOf i).toNat)
          case atStart => exact ⟨0, _, rfl, by omega, rfl, H17.out, C17.out, B17.out⟩
          case round =>
          clear H17 C17 B17
          obtain ⟨n, w18, rfl, hn, rfl, hbo, hco, hb⟩ := hrel
          have H18 := Lib.hid hbo
          have C18 := Lib.hid hco
          have B18 := Lib.hid hb
          clear hbo hco hb
          by_cases hn6 : n < 6
          · have RD := Lib.hid (read_any C18.out.dat n (wf_of (by omega) (by omega)))
            go_wp2_with fail
            refine RD.out.mono ?_
            rintro e0 w19 ⟨v19, rfl, o19, -, b19⟩
            have H19 := Lib.hid (H18.out.below b19)
            have C19 := Lib.hid (C18.out.below b19)
            have B19 := Lib.hid (up B18.out b19 B18.out.size)
            have BC19 := Lib.hid b19
            rcases (show d.down = true ∨ d.down = false by cases d.down <;> simp) with qd | qd
            · rw [readE_down qd]
              obtain ⟨A19, c19, rfl, -⟩ := o19.lay
              clear o19 b19 RD qd
              go_wp2_with fail
              exact ⟨⟨n + 1, _, rfl, by omega, by go_num, H19.out, C19.out, B19.out⟩, by simp [RowKit.intOf]; omega⟩
            · obtain ⟨rl, re⟩ := C18.out.readV hn6 qd
              rw [re]
              obtain ⟨A19, c19, rfl, y19, -, -, lz⟩ := o19.lies
              rcases lz with ⟨-, e2, -⟩ | ⟨nb, rfl, -, -⟩
              · rw [e2] at rl
                cases rl
              · obtain ⟨raw, nb1, nb2⟩ := Raw.of_own o19
                rw [rl] at raw ⊢
                have RW := Lib.hid raw
                have NB := Lib.hid nb1
                clear o19 b19 RD qd raw y19 nb1 nb2 rl re
                go_wp2_with fail
                go_loopw [129] (fun i wr => ∃ (k : Nat) (W : World), W = wr ∧ k ≤ 16 ∧ i = .int .i64 k ∧ Raw wr nb 16 ∧ Below w18.heap.size w18 wr) (fun i _ => 16 - (RowKit.intOf i).toNat)
                case atStart => exact ⟨0, _, rfl, by omega, rfl, RW.out, BC19.out⟩
                case round =>
                clear RW
                obtain ⟨kk, w20, rfl, hkk, rfl, raw, hb20⟩ := hrel
                have RW := Lib.hid raw
                have B20 := Lib.hid hb20
                clear raw hb20
                by_cases hk16 : kk < 16
                · obtain ⟨a, ea, fa⟩ := RW.out.at_ hk16
                  go_wp2_with fail
                  exact ⟨⟨kk + 1, _, rfl, by omega, by go_num, RW.out.put kk _, B20.out.setCell NB.out _⟩, by simp [RowKit.intOf]; omega⟩
                · have hke : kk = 16 := by omega
                  have H20 := Lib.hid (H18.out.below B20.out)
                  have C20 := Lib.hid (C18.out.below B20.out)
                  have BB20 := Lib.hid (up B18.out B20.out B18.out.size)
                  go_wp2_with fail
                  exact ⟨⟨n + 1, _, rfl, by omega, by go_num, H20.out, C20.out, BB20.out⟩, by simp [RowKit.intOf]; omega⟩
          · have hne : n = 6 := by omega
            go_wp2_with fail
            clear hne hn6 hn
            go_loopw [142] (fun i wr => ∃ (j : Nat) (W : World) (f : DD) (cf : Nat), W = wr ∧ j ≤ L'.length ∧ i = .int .i64 j ∧ Bo wr w.heap.size g s m x p q e ce ∧ Bo wr w5.heap.size g' s' m' y p2 q2 f cf ∧ cf ≤ 30 + j ∧ f.done ≤ 30 + j ∧ Below w.heap.size w wr) (fun i _ => L'.length - (RowKit.intOf i).toNat)
            case atStart => exact ⟨0, _, d, c, rfl, by omega, rfl, H18.out, C18.out, by have := MN.out; omega, by have := MN.out; omega, B18.out⟩
            case round =>
            clear H18 C18 B18
            obtain ⟨j, w20, f, cf, rfl, hj, rfl, hbo, hco, hcf, hfd, hb⟩ := hrel
            by_cases hjl : j < L'.length
            · obtain ⟨b, off, rfl, a0, a1, a2, a3, a4, a5, a6⟩ := layO (hA'.below hb) hjl
              have hok := hO' _ (List.getElem_mem hjl)
              have hft := hfit' _ (List.getElem_mem hjl)
              have m21 := made w20 (.cells #[.int .i64 L'[j].k, .int .i64 L'[j].s, .int .i64 L'[j].n, .slice L'[j].D L'[j].dl.length L'[j].dc, .slice L'[j].K L'[j].kl.length L'[j].kc, .int .i64 L'[j].t, .int .i64 L'[j].z] 34)
              have Q21 := Lib.hid (opblk w20 L'[j])
              generalize L'[j] = o at *
              have BM21 := Lib.hid m21
              have HH := Lib.hid hbo
              have CC := Lib.hid hco
              have B20 := Lib.hid hb
              have MM := Lib.hid (And.intro hcf hfd)
              have OK := Lib.hid hok
              have FT := Lib.hid hft
              clear hbo hco hb hcf hfd hok hft m21
              go_upto_region 37 with fail
              generalize (w20.alloc (.cells #[.int .i64 o.k, .int .i64 o.s, .int .i64 o.n, .slice o.D o.dl.length o.dc, .slice o.K o.kl.length o.kc, .int .i64 o.t, .int .i64 o.z] 34)) = w21 at *
              obtain ⟨ob, hob⟩ : ∃ ob, ob = w20.heap.size := ⟨_, rfl⟩
              rw [← hob] at Q21 ⊢
              have OB := Lib.hid hob
              have OE := Lib.hid (bytes.Own.empty (w := w21) (b := w20.heap.size) BM21.out.size)
              have m22 := made w21 (.cells #[] 5)
              have BM22 := Lib.hid (up BM21.out m22 BM21.out.size)
              have LY := Lib.hid ((OK.out.lay.below B20.out).below BM22.out |> fun h => h)
              have Q22 := Lib.hid (Q21.out.below m22 Q21.out.lt)
              have EB := Lib.hid (Blk.new w21 5 #[])
              have e3 : (w21.alloc (.cells #[] 5)).cell? ⟨ob, 3, none⟩ = some (.slice o.D o.dl.length o.dc) := Q22.out.cell 3
              have S21 := Lib.hid BM21.out.size
              clear hob m22 a0 a1 a2 a3 a4 a5 a6
              go_wp2_with ((with_reducible show wpList _ _ _ (⟨some 149, _, _, _, _, _⟩ :: _) _ _); go_must (refine bytes.wp_app (m := o.dl) (c := o.dc) rfl _ _ rfl rfl rfl rfl OE.out LY.out (by have := FT.out.1; simp; omega) BM22.out.size ?_))
              intro v23 w23 own23 gr23
              have BM23 := Lib.hid (BM22.out.trans (gr23.below OE.out BM22.out.size))
              have Q23 := Lib.hid (Q22.out.grown gr23.grown (fun e => by have e2 : ob = w21.heap.size := Option.some.inj e; have := Q21.out.lt; omega))
              obtain ⟨N, c23, nb, rfl, l23, ad23, ra23, g23, s23, -, -⟩ := own_raw own23 (by have := BM23.out.size; have := Q23.out.lt; have := OB.out; omega)
              have NO := Lib.hid (fun (h0 : 0 < o.dl.length) => show nb ≠ ob from ty_ne (ra23 h0).2.choose_spec.1 Q23.out (by decide))
              have Q24 := Lib.hid (show Blk (w23.setCell ⟨ob, 3, none⟩ (.slice N o.dl.length c23)) ob 34 #[.int .i64 o.k, .int .i64 o.s, .int .i64 o.n, .slice N o.dl.length c23, .slice o.K o.kl.length o.kc, .int .i64 o.t, .int .i64 o.z] from Q23.out.put 3 (.slice N o.dl.length c23))
              have AD := Lib.hid ad23
              have RA := Lib.hid (fun (h0 : 0 < o.dl.length) => (show N = some ⟨nb, 0, none⟩ ∧ Raw (w23.setCell ⟨ob, 3, none⟩ (.slice N o.dl.length c23)) nb o.dl.length from ⟨(ra23 h0).1, (ra23 h0).2.keep (Below.heap_setCell w23 ⟨ob, 3, none⟩ _ nb (NO.out h0))⟩))
              have L24 := Lib.hid (lay_keep l23 (w' := w23.setCell ⟨ob, 3, none⟩ (.slice N o.dl.length c23)) (by simp [World.setCell]) (fun ad e h0 => Below.heap_setCell w23 ⟨ob, 3, none⟩ _ ad.block (by rw [AD.out ad e h0]; exact NO.out h0)))
              have BM24 := Lib.hid (BM23.out.setCell (p := ⟨ob, 3, none⟩) (by rw [OB.out]; exact Nat.le_refl _) (.slice N o.dl.length c23))
              have S24 := Lib.hid (show nb < (w23.setCell ⟨ob, 3, none⟩ (.slice N o.dl.length c23)).heap.size by simpa [World.setCell] using s23)
              have G23 := Lib.hid g23
              have y3 : w23.cell? ⟨ob, 3, none⟩ = some (.slice o.D o.dl.length o.dc) := Q23.out.cell 3
              have yf := Q23.out.free 3
              clear own23 gr23 l23 ad23 ra23 g23 s23 e3 OE LY EB Q22 BM22 S21
              go_upto_region 38 with fail
              generalize w23.setCell ⟨ob, 3, none⟩ (.slice N o.dl.length c23) = w24 at *
              have H24 := Lib.hid (HH.out.avoid BM24.out G23.out S24.out)
              have C24 := Lib.hid (CC.out.avoid BM24.out G23.out S24.out)
              have B24 := Lib.hid (up B20.out BM24.out B20.out.size)
              have Z24 := Lib.hid (show w5.heap.size ≤ w24.heap.size from by have h1 := C24.out.six_lt (k := g') (.inl (.inl rfl)); have h2 := C24.out.six_ge (k := g') (.inl (.inl rfl)); omega)
              have BB24 := Lib.hid (fun W (hs : SCh g' s' m' y p2 q2 w24 W) => show Below w.heap.size w W from B24.out.trans ((hs.to C24.out.dat C24.out.xat Z24.out).mono BB.out.size))
              have FD := Lib.hid (show Fed g' s' m' y p2 q2 w24 w5.heap.size ⟨o.k, o.s, o.n, N, c23, o.dl, o.K, o.kc, o.kl, o.t, o.z⟩ from
                ⟨fun W hs => lay_keep L24.out hs.size (fun ad e h0 => hs.block ad.block (by rw [AD.out ad e h0]; exact S24.out) (by rw [AD.out ad e h0]; exact fun hx => C24.out.six_ty hx (RA.out h0).2.choose_spec.1)), fun W hs => OK.out.keep.below (BB24.out W hs), fun ad e h0 => by
                  obtain ⟨b', off', e', hlt, -⟩ := OK.out.keep h0
                  have e : o.K = some ad := e
                  rw [e'] at e
                  injection e with e
                  subst e
                  exact Nat.lt_of_lt_of_le hlt BB.out.size, OK.out.small, OK.out.ws, OK.out.wn, OK.out.wt, OK.out.wl, by have := FT.out.1; show o.dl.length ≤ 1000; omega, by have := FT.out.2; show o.kl.length ≤ 1000; omega⟩)
              have ST := Lib.hid (step_any C24.out ⟨o.k, o.s, o.n, N, c23, o.dl, o.K, o.kc, o.kl, o.t, o.z⟩ FD.out)
              unfold opV at ST
              dsimp only at ST
              have d0 : w24.cell? ⟨ob, 0, none⟩ = some (.int .i64 o.k) := Q24.out.cell 0
              have d1 : w24.cell? ⟨ob, 1, none⟩ = some (.int .i64 o.s) := Q24.out.cell 1
              have d2 : w24.cell? ⟨ob, 2, none⟩ = some (.int .i64 o.n) := Q24.out.cell 2
              have d3 : w24.cell? ⟨ob, 3, none⟩ = some (.slice N o.dl.length c23) := Q24.out.cell 3
              have d4 : w24.cell? ⟨ob, 4, none⟩ = some (.slice o.K o.kl.length o.kc) := Q24.out.cell 4
              have d5 : w24.cell? ⟨ob, 5, none⟩ = some (.int .i64 o.t) := Q24.out.cell 5
              have d6 : w24.cell? ⟨ob, 6, none⟩ = some (.int .i64 o.z) := Q24.out.cell 6
              clear y3 yf
              go_wp2_with fail
              refine ST.out.mono ?_
              rintro e0 w25 ⟨rfl, ⟨c6, h6, hc6⟩, x6, o6⟩
              have LK := stp_like f C24.out.s16 ⟨o.k, o.s, o.n, N, c23, o.dl, o.K, o.kc, o.kl, o.t, o.z⟩
              have CO := Lib.hid (show BU (fun k => k ≠ nb) w25 w5.heap.size g' s' m' y p2 q2 (f.stp ⟨o.k, o.s, o.n, N, c23, o.dl, o.K, o.kc, o.kl, o.t, o.z⟩) c6 from ⟨h6, x6, LK.n.trans C24.out.n6, LK.size.trans C24.out.s16, by have := LK.lo; have := C24.out.lo; omega, by have := LK.hi; have := MM.out; omega, by have := MM.out; omega⟩)
              have HO := Lib.hid (H24.out.sch C24.out o6 (fun k h1 h2 => by have := C24.out.six_ge h2; have := LTS.out k h1; omega))
              have B25 := Lib.hid (BB24.out _ o6)
              have RA25 := Lib.hid (fun (h0 : 0 < o.dl.length) => (RA.out h0).2.keep (o6.block nb S24.out (fun hx => C24.out.six_ty hx (RA.out h0).2.choose_spec.1)))
              have NA := Lib.hid (fun (h0 : 0 < o.dl.length) => (RA.out h0).1)
              have Q25 := Lib.hid (Q24.out.only o6 (C24.out.six_oth Q24.out (by decide) (by decide) (by decide) (by decide)))
              have M2 := Lib.hid (show c6 ≤ 30 + (j + 1) ∧ (f.stp ⟨o.k, o.s, o.n, N, c23, o.dl, o.K, o.kc, o.kl, o.t, o.z⟩).done ≤ 30 + (j + 1 : Nat) from ⟨by have := MM.out; omega, by have := LK.hi; have := MM.out; omega⟩)
              have NBW := Lib.hid (show w.heap.size ≤ nb from Nat.le_trans B20.out.size G23.out)
              have q3 : w25.cell? ⟨ob, 3, none⟩ = some (.slice N o.dl.length c23) := Q25.out.cell 3
              generalize f.stp ⟨o.k, o.s, o.n, N, c23, o.dl, o.K, o.kc, o.kl, o.t, o.z⟩ = f2 at *
              have DL := Lib.hid (show o.dl.length ≤ 100 from FT.out.1)
              generalize o.dl.length = dn at *
              have dn100 := DL.out
              clear h6 x6 o6 LK hc6 d0 d1 d2 d3 d4 d5 d6 ST FD BB24 L24 AD RA H24 C24 B24 Z24 BM24 BM23 G23 S24 Q21 Q23 Q24 HH CC OB BM21 MM B20
              go_wp2_with fail
              go_loopw [159] (fun i wr => ∃ (kk : Nat) (W : World), W = wr ∧ kk ≤ dn ∧ i = .int .i64 kk ∧ (0 < dn → Raw wr nb dn) ∧ BU (fun k => k ≠ nb) wr w.heap.size g s m x p q e ce ∧ BU (fun k => k ≠ nb) wr w5.heap.size g' s' m' y p2 q2 f2 c6 ∧ Blk wr ob 34 #[.int .i64 o.k, .int .i64 o.s, .int .i64 o.n, .slice N dn c23, .slice o.K o.kl.length o.kc, .int .i64 o.t, .int .i64 o.z] ∧ Below w.heap.size w wr) (fun i _ => dn - (RowKit.intOf i).toNat)
              case atStart => exact ⟨0, _, rfl, by omega, rfl, RA25.out, HO.out, CO.out, Q25.out, B25.out⟩
              case round =>
              clear RA25 HO CO Q25 B25 q3
              obtain ⟨kk, w26, rfl, hkk, rfl, hraw, hh, hc, hq26, hb26⟩ := hrel
              have RW := Lib.hid hraw
              have HH := Lib.hid hh
              have CC := Lib.hid hc
              have QQ := Lib.hid hq26
              have BB26 := Lib.hid hb26
              clear hraw hh hc hq26 hb26
              by_cases hkn : kk < dn
              · have q3 : w26.cell? ⟨ob, 3, none⟩ = some (.slice N dn c23) := QQ.out.cell 3
                have hN := NA.out (by omega)
                subst hN
                have R26 := Lib.hid (RW.out (by omega))
                obtain ⟨a, ea, fa⟩ := R26.out.at_ hkn
                have NO2 := Lib.hid (NO.out (by omega))
                clear NA NO
                go_wp2_with fail
                refine ⟨⟨kk + 1, _, rfl, by omega, by go_num, fun _ => R26.out.put kk _, HH.out.mut R26.out.choose_spec.1 (Only.setCell (Only.refl (fun k => k = nb) w26) (p := ⟨nb, kk, none⟩) (.inl rfl) _), CC.out.mut R26.out.choose_spec.1 (Only.setCell (Only.refl (fun k => k = nb) w26) (p := ⟨nb, kk, none⟩) (.inl rfl) _), QQ.out.far (p := ⟨nb, kk, none⟩) (fun q => NO2.out q.symm) _, BB26.out.setCell NBW.out _⟩, by simp [RowKit.intOf]; omega⟩
              · have hke : kk = dn := by omega
                go_wp2_with fail
                exact ⟨⟨j + 1, _, f2, c6, rfl, by omega, by go_num, HH.out.any, CC.out.any, M2.out.1, M2.out.2, BB26.out⟩, by simp [RowKit.intOf]; omega⟩
            · have HH := Lib.hid hbo
              have CC := Lib.hid hco
              have B20 := Lib.hid hb
              clear hbo hco hb hcf hfd
              go_wp2_with fail
              refine (same_any CC.out).mono ?_
              rintro e0 w21 ⟨rfl, b21⟩
              have H21 := Lib.hid (HH.out.below b21)
              have B21 := Lib.hid (up B20.out b21 B20.out.size)
              clear b21
              go_wp2_with fail
              refine (same_any H21.out).mono ?_
              rintro e0 w22 ⟨rfl, b22⟩
              have B22 := Lib.hid (up B21.out b22 B21.out.size)
              clear b22
              go_wp2_with fail
              refine (awake_any w22).mono ?_
              rintro e0 w23 ⟨rfl, b23⟩
              have B23 := Lib.hid (up B22.out b23 B22.out.size)
              clear b23
              go_wp2_with fail
              go_ret
              exact ⟨rfl, B23.out⟩

set_option maxRecDepth 100000 in
theorem lifted (os : Os) (started : os.Started) (H : Type) (enc : TypeId × Value → H) :
    ReturnsInHanded {} Try.checked os 6 .any (Rows.diskCopiesSpec.pre6 enc Try.prog Try.f6 Rows.diskCopiesRow.domain false) (Rows.diskCopiesSpec.post enc Try.prog Try.f6 false true false false) := by
  refine returnsInHanded_of_change (C := Try.checked) base.own started (by kernel_rfl) Try.func6
    (ChangeSpec.witness6 (enc := enc) (C := Try.checked) false ⟨#[], #[.slice none 0 0, .slice none 0 0], []⟩ 8 (by kernel_rfl) (by kernel_rfl) (by kernel_rfl) (by kernel_rfl)) ?_
  intro W bs args ds gs before hval0 hW _ _
  have hval : ∀ (j : Nat) t v, Try.f6.params[j]? = some t → args[j]? = some v → Value.okWide Try.prog W .any bs t v := hval0
  have hW' : DataW.Whole enc Try.prog Try.f6.params.toList Rows.diskCopiesSpec.vars false W args.toList ds gs before := hW
  obtain ⟨p, q, hA0, hV, rfl, _, _⟩ := hW
  have hA : DataW.TrodAll enc Try.prog W 0 (fun _ => true) true Try.f6.params.toList args.toList ds p := hA0
  rw [Try.params6] at hA hval
  obtain ⟨v0, vs0, d0, ds0, p0, q0, hargs, rfl, rfl, h0, r0⟩ := trodAll_cons hA
  obtain ⟨v1, vs1, d1, ds1, p1, q1, rfl, rfl, rfl, h1, r1⟩ := trodAll_cons r0
  obtain ⟨rfl, rfl, rfl⟩ := trodAll_nil r1
  obtain rfl : args = #[v0, v1] := by cases args; simp_all
  obtain ⟨rfl, rfl⟩ := trodVars_none hV
  obtain ⟨A0, c0, D0, rfl, b0, m0, n0, o0⟩ := open_ops (hval 0 22 v0 rfl rfl) h0
  obtain ⟨A1, c1, D1, rfl, b1, m1, n1, o1⟩ := open_ops (hval 1 22 v1 rfl rfl) h1
  clear hA0 hval0
  refine (walk W A0 c0 D0 n0 b0 m0 o0 A1 c1 D1 n1 b1 m1 o1).mono fun e W' ⟨he, hb⟩ => ?_
  subst he
  exact ⟨_, rfl, base.law_post base.laid (by kernel_rfl) rfl rfl Try.underlying4 hW' rfl rfl rfl hb⟩

theorem over : Rows.diskCopiesRow.holds Try.pinned (OpenSpec.ofChange Rows.diskCopiesSpec) :=
  OpenClaim.holds_of_wide 6 Try.f6 rfl rfl rfl rfl rfl rfl rfl ⟨rfl, rfl, rfl, rfl, rfl⟩ rfl rfl rfl rfl rfl (by kernel_rfl) Try.func6 (by kernel_rfl)
    (of_decide_eq_true (by kernel_rfl)) (by unfold Func.isWrapper; first | (rw [if_pos (by decide +kernel)]; kernel_rfl) | (rw [if_neg (by decide +kernel)]; exact ⟨rfl, rfl⟩))
    (fun os started H enc _ => lifted os started H enc)

theorem proved : Rows.DiskCopiesSaid := over
#print axioms proved
end Go.Proofs.Ytoabbcallhghcaa.diskCopies
