/-
  Contracts of package stall: Close of a stall that is there.
-/
import Derived.Test.YthnjacfpnbhfpaaStI
namespace Go.Proofs.Ythnjacfpnbhfpaa.st
open Go.RowKit
open base (ret_bool ret_int made up Blk Only)
open rk mk
set_option linter.unusedVariables false
set_option linter.unusedSimpArgs false
variable {B g bs bw : Nat} {w w1 w2 w' : World} {s : S3} {tot : Int} {nT nG m : Nat} {P M : Int → Nat}

def CloseP (B g bs bw : Nat) (n u : Int) (s : S3) (tot : Int) (m : Nat) (w : World) (e : Ending) (w' : World) : Prop := ∃ v ts, e = .returned (.tuple #[.agg #[.int .i64 n, .int .i64 u, v], .int .i64 0]) ∧ Keys (inn s.G n) ts ∧ ts.length ≤ 16 ∧ Own E2 w' w.heap.size 56 v (gl s ts) ∧ SX w' B g bs bw (closeS s n) (tot - u) m ∧ Chg B w w'
theorem lay_only {A : Option Addr} {L : List C2} {b : Nat} {t : TypeId} {v : Value} {c C : Nat} {P : Program} {kt : TypeId} {f : Lit → Option Value} {n : Nat} (ho : Own E2 w C t (.slice A L.length c) L) (hm : MapIs w P kt b f n) (h : Only (fun j => j = b) w w1) : Own E2 w1 C t (.slice A L.length c) L := Own.only ho h (fun k hk e => by
  obtain ⟨_, _, cs, h1⟩ := ho.lt' k hk
  subst e
  exact MapIs.ne hm h1 rfl)
theorem SAt.far_ (H : SAt w B g bs bw s tot nT nG P M) {k i : Nat} {t : TypeId} {cs : Array Value} (hb : Blk w k t cs) (h1 : t ≠ 67) (h2 : t ≠ 76) (v : Value) : SAt (w.setCell ⟨k, i, none⟩ v) B g bs bw s tot nT nG P M :=
  ⟨H.blk.far (p := ⟨k, i, none⟩) (ne_of_ty H.blk hb (fun e => h1 e.symm)) _, MapIs.far H.smap (p := ⟨k, i, none⟩) (MapIs.ne H.smap hb) _, MapIs.far H.wmap (p := ⟨k, i, none⟩) (MapIs.ne H.wmap hb) _, fun n t' e => by
    have ok := H.one n t' e
    exact ⟨ok.blk.far (p := ⟨k, i, none⟩) (ne_of_ty ok.blk hb (fun e => h2 e.symm)) _, MapIs.far ok.map (p := ⟨k, i, none⟩) (MapIs.ne ok.map hb) _, ok.pb, ok.mb⟩, H.inj, H.far, H.bb, H.gb, H.sb, H.wb, H.gd⟩
set_option maxRecDepth 100000 in
set_option maxHeartbeats 8000000 in
theorem close_some (n u : Int) (H : SX w B g bs bw s tot m) (hm1000 : m ≤ 1000) (hT : s.T n = some u) (ht : -1152921504606846976 ≤ tot ∧ tot ≤ 1152921504606846976) :
    Calls Try.prog 20 #[.pointer (some ⟨g, 0, none⟩), .int .i64 n] w (CloseP B g bs bw n u s tot m w) := by
  have hm := made w (.cells #[.int .i64 0, .int .i64 0, .slice none 0 0] 47)
  have H1 := H.below hm
  have bx := Blk.new w 47 #[.int .i64 0, .int .i64 0, .slice none 0 0]
  obtain ⟨nT, nG, P, M, h1, a, b⟩ := H1
  obtain ⟨-, -, u0, u1⟩ := h1.gd.till n u hT
  have HS := has_any n h1 (h1.gd.wfT hT)
  rw [hT] at HS
  have HS := Lib.hid (show Calls Try.prog _ _ _ (fun e w' => e = .returned (.bool true) ∧ _ = w') from HS)
  have RO := Lib.hid (row_any n u h1 hT)
  have HH := Lib.hid h1
  have BX := Lib.hid bx
  have B1 := Lib.hid hm
  have HT := Lib.hid hT
  clear hm h1 H bx hT
  generalize hw1 : w.alloc (.cells #[.int .i64 0, .int .i64 0, .slice none 0 0] 47) = w1 at *
  go_enter Try.func20, Try.ntmps20
  go_wp2_with (rw [hw1])
  refine HS.out.mono ?_
  rintro e w2 ⟨rfl, rfl⟩
  clear hw1
  go_wp2_with fail
  refine RO.out.mono ?_
  rintro e w2 ⟨v, ts, rfl, hk, hlen, ho, hb⟩
  obtain ⟨A, c, rfl, -, -, hcm⟩ := ho.open_
  have KK := Lib.hid hk
  have LN := Lib.hid hlen
  have GLN := Lib.hid (show (gl s ts).length = ts.length from List.length_map ..)
  have h2 := HH.out.below hb
  have hm3 := made w2 (.cells #[.int .i64 n, .int .i64 u, .slice A (gl s ts).length c] 47)
  have H3 := Lib.hid (h2.below hm3)
  have O3 := Lib.hid ((ho.below hm3).mono B1.out.size)
  have RB := Lib.hid (Blk.new w2 47 #[.int .i64 n, .int .i64 u, .slice A (gl s ts).length c])
  have BX3 := Lib.hid ((BX.out.below hb BX.out.lt).below hm3 (BX.out.below hb BX.out.lt).lt)
  have B3 := Lib.hid (up (up B1.out hb B1.out.size) hm3 (up B1.out hb B1.out.size).size)
  have hzr : w.heap.size ≠ w2.heap.size := by have := BX.out.lt; have := hb.size; omega
  clear hk hlen ho hb h2 hm3 HS RO BX B1 HH
  go_upto_region 4 with fail
  generalize w2.alloc (.cells #[.int .i64 n, .int .i64 u, .slice A (gl s ts).length c] 47) = w3 at *
  generalize w2.heap.size = rb at *
  have r2 := RB.out.cell 2
  go_wp2_with fail
  clear r2
  go_loopw [20] (fun i wr => ∃ (k : Nat) (W : World) (ck : Nat), W = wr ∧ k ≤ ts.length ∧ i = .int .i64 k ∧ Only (fun j => j = bw) w3 wr ∧ IMap wr Try.prog 3 bw (dropF s.G (ts.take k)) ck ∧ ck ≤ nG) (fun i _ => ts.length - (intOf i).toNat)
  case atStart => exact ⟨0, _, nG, rfl, by omega, rfl, Only.refl _ _, by rw [List.take_zero, drop_nil]; exact H3.out.wmap, Nat.le_refl _⟩
  case round =>
  obtain ⟨k, wr, ck, rfl, hk, rfl, hon, hmp, hck⟩ := hrel
  have ON := Lib.hid hon
  have MP := Lib.hid hmp
  have ow := lay_only (v := .slice none 0 0) O3.out H3.out.wmap hon
  obtain ⟨A', c', e1, lw, -, -⟩ := ow.open_
  injection e1 with e1 e2 e3
  subst e1
  clear e2 e3
  have hgl : ts.length ≤ (gl s ts).length := by rw [GLN.out]; exact Nat.le_refl _
  have hgl2 : (gl s ts).length ≤ ts.length := by rw [GLN.out]; exact Nat.le_refl _
  have hl16 := LN.out
  by_cases hkl : k < ts.length
  · obtain ⟨bb, off, rfl, x0, x1⟩ := lay2 lw (k := k) (by omega)
    have EL := Lib.hid (show (gl s ts)[k]'(by omega) = (ts[k], prB s ts[k]) by simp [gl])
    rw [EL.out] at x0 x1
    dsimp only at x0 x1
    have TK := Lib.hid (List.take_succ_eq_append_getElem hkl)
    have WF := Lib.hid ((KK.out.mem _ (List.getElem_mem hkl)).2)
    clear hon hmp ow lw
    generalize ts[k] = t at *
    generalize prB s t = p at *
    have hm := made wr (.cells #[.int .i64 t, .int .i64 p] 56)
    have g4 := ((H3.out.blk.only ON.out (fun e => MapIs.ne H3.out.wmap H3.out.blk e.symm)).below hm (H3.out.blk.only ON.out (fun e => MapIs.ne H3.out.wmap H3.out.blk e.symm)).lt)
    have b4 := Blk.new wr 56 #[.int .i64 t, .int .i64 p]
    have m4 := MapIs.below MP.out hm (MapIs.lt MP.out)
    have n4 : Only (fun j => j = bw) w3 (wr.alloc (.cells #[.int .i64 t, .int .i64 p] 56)) := ON.out.alloc _
    clear hm
    go_upto_region 7 with fail
    generalize wr.alloc (.cells #[.int .i64 t, .int .i64 p] 56) = w4 at *
    clear x0 x1
    have d4 := (Below.refl w4.heap.size w4).drew
    have SS := Lib.hid (show w4.drew.cell? ⟨g, 1, none⟩ = some (.map (some bw)) ∧ w4.drew.cell? ⟨wr.heap.size, 0, none⟩ = some (.int .i64 t) from ⟨(g4.below d4 g4.lt).cell 1, (b4.below d4 b4.lt).cell 0⟩)
    have m5 := MapIs.below m4 d4 (MapIs.lt m4)
    have n5 : Only (fun j => j = bw) w3 w4.drew := n4.below d4 (fun i hi h => absurd n4.size (by omega))
    obtain ⟨w6, hrun, m6, o6⟩ := IMap.drop (t := 65) (ty := 0) m5 Try.underlying3 Try.underlying65 WF.out
    rw [upd_put, ← drop_snoc, ← TK.out] at m6
    have M6 := Lib.hid m6
    have N6 := Lib.hid (show Only (fun j => j = bw) w3 w6 from n5.trans o6 (fun i _ e => e))
    have G6 := (g4.below d4 g4.lt).only o6 (fun e => MapIs.ne m5 (g4.below d4 g4.lt) e.symm)
    have T6 := (b4.below d4 b4.lt).only o6 (fun e => MapIs.ne m5 (b4.below d4 b4.lt) e.symm)
    have S6 := Lib.hid (show w6.cell? ⟨g, 1, none⟩ = some (.map (some bw)) ∧ w6.cell? ⟨wr.heap.size, 0, none⟩ = some (.int .i64 t) from ⟨G6.cell 1, T6.cell 0⟩)
    clear g4 b4 m4 n4 m5 n5 m6 o6 G6 T6 d4
    refine wp_region_held_drew (S := fun ws => ws.cell? ⟨g, 1, none⟩ = some (.map (some bw)) ∧ ws.cell? ⟨wr.heap.size, 0, none⟩ = some (.int .i64 t)) (by kernel_rfl) SS.out (fun hHeld => ?_)
    generalize w4.drew = w5 at *
    refine wpAnyH_take (i := 0) (v := ?_) rfl (by kernel_rfl) (by kernel_rfl) (by kernel_rfl) (fun _ _ _ h => h) (Or.inl ⟨by rfl, ?_⟩) (by assumption) ?_
    rotate_left
    · (intro w hSw; (try dsimp only at hSw); first | (go_simp; done) | (go_simp; with_reducible rfl))
    simp only [Act.put, List.getElem_toArray, List.getElem_cons_zero, List.getElem_cons_succ, List.setIfInBounds_toArray, List.set_cons_zero, List.set_cons_succ]
    refine wpAnyH_take (i := 1) (v := ?_) rfl (by kernel_rfl) (by kernel_rfl) (by kernel_rfl) (fun _ _ _ h => h) (Or.inl ⟨by rfl, ?_⟩) (by assumption) ?_
    rotate_left
    · (intro w hSw; (try dsimp only at hSw); first | (go_simp; done) | (go_simp; with_reducible rfl))
    simp only [Act.put, List.getElem_toArray, List.getElem_cons_zero, List.getElem_cons_succ, List.setIfInBounds_toArray, List.set_cons_zero, List.set_cons_succ]
    refine wpAnyH_take (i := 2) (v := ?_) rfl (by kernel_rfl) (by kernel_rfl) (by kernel_rfl) (fun _ _ _ h => h) (Or.inl ⟨by rfl, ?_⟩) (by assumption) ?_
    rotate_left
    · (intro w hSw; (try dsimp only at hSw); first | (go_simp; done) | (go_simp; with_reducible rfl))
    simp only [Act.put, List.getElem_toArray, List.getElem_cons_zero, List.getElem_cons_succ, List.setIfInBounds_toArray, List.set_cons_zero, List.set_cons_succ]
    refine wpAnyH_take (i := 3) (v := ?_) rfl (by kernel_rfl) (by kernel_rfl) (by kernel_rfl) (fun _ _ _ h => h) (Or.inl ⟨by rfl, ?_⟩) (by assumption) ?_
    rotate_left
    · (intro w hSw; (try dsimp only at hSw); first | (go_simp; done) | (go_simp; with_reducible rfl))
    simp only [Act.put, List.getElem_toArray, List.getElem_cons_zero, List.getElem_cons_succ, List.setIfInBounds_toArray, List.set_cons_zero, List.set_cons_succ]
    refine wpAnyH_take (i := 4) (v := ?_) rfl (by kernel_rfl) (by kernel_rfl) (by kernel_rfl) (fun _ _ _ h => h) (Or.inl ⟨by rfl, ?_⟩) (by assumption) ?_
    rotate_left
    · (intro w hSw; (try dsimp only at hSw); first | (go_simp; done) | (go_simp; with_reducible rfl))
    simp only [Act.put, List.getElem_toArray, List.getElem_cons_zero, List.getElem_cons_succ, List.setIfInBounds_toArray, List.set_cons_zero, List.set_cons_succ]
    refine wpAnyH_take (i := 5) (v := ?_) rfl (by kernel_rfl) (by kernel_rfl) (by kernel_rfl) (fun _ _ _ h => h) (Or.inl ⟨by rfl, ?_⟩) (by assumption) ?_
    rotate_left
    · (intro w hSw; (try dsimp only at hSw); first | (go_simp; done) | (go_simp; with_reducible rfl))
    simp only [Act.put, List.getElem_toArray, List.getElem_cons_zero, List.getElem_cons_succ, List.setIfInBounds_toArray, List.set_cons_zero, List.set_cons_succ]
    refine wpAnyH_ready (rs := [6]) (by kernel_rfl) (by simp) ?_
    refine AllReadyH.cons rfl (fun K hK => ?_) AllReadyH.nil
    go_simp
    refine hK.out _ _ S6.out (fun hHeld2 => ?_)
    clear hK K hHeld hrun
    refine wpAnyH_done (by kernel_rfl) ?_ _
    clear hHeld2
    go_wp2_with fail
    exact ⟨⟨k + 1, _, _, rfl, by omega, by go_num, N6.out, M6.out, by omega⟩, by simp [intOf]; omega⟩
  · obtain rfl : k = ts.length := by omega
    rw [List.take_length] at MP
    have d4 := (Below.refl wr.heap.size wr).drew
    have n5 : Only (fun j => j = bw) w3 wr.drew := ON.out.below d4 (fun i hi h => absurd ON.out.size (by omega))
    have m5 := MapIs.below MP.out d4 (MapIs.lt MP.out)
    have rb5 := RB.out.only n5 (fun e => MapIs.ne H3.out.wmap RB.out e.symm)
    have bx5 := BX3.out.only n5 (fun e => MapIs.ne H3.out.wmap BX3.out e.symm)
    obtain ⟨b1, b2, w7, hrun, h7, c7, o7⟩ := H3.out.closed n5 m5 KK.out HT.out
    have RB5 := Lib.hid rb5
    have gne : g ≠ rb := ne_of_ty H3.out.blk RB.out (by decide)
    have gnz : g ≠ w.heap.size := ne_of_ty H3.out.blk BX3.out (by decide)
    have SS := Lib.hid (show wr.drew.cell? ⟨rb, 1, none⟩ = some (.int .i64 u) from rb5.cell 1)
    have S6 := Lib.hid (show (wr.drew.setCell ⟨g, 2, none⟩ (.int .i64 (tot - u))).cell? ⟨rb, 1, none⟩ = some (.int .i64 u) from (rb5.far (p := ⟨g, 2, none⟩) (fun e => gne e.symm) (.int .i64 (tot - u))).cell 1)
    have sne : ∀ {k : Nat} {cs : Array Value} {t : TypeId}, Blk w3 k t cs → k ≠ bs ∧ k ≠ bw := fun h => ⟨fun e => MapIs.ne H3.out.smap h e.symm, fun e => MapIs.ne H3.out.wmap h e.symm⟩
    have rb7 := RB.out.only o7 (fun e => by rcases e with e | e | e; exact (sne RB.out).2 e; exact gne e.symm; exact (sne RB.out).1 e)
    have bx7 := BX3.out.only o7 (fun e => by rcases e with e | e | e; exact (sne BX3.out).2 e; exact gnz e.symm; exact (sne BX3.out).1 e)
    have ow7 : Own E2 w7 w.heap.size 56 (.slice A (gl s ts).length c) (gl s ts) := Own.only O3.out o7 (fun k hk e => by
      obtain ⟨_, _, cs, h1⟩ := O3.out.lt' k hk
      rcases e with e | e | e
      · exact (sne h1).2 e
      · exact ne_of_ty h1 H3.out.blk (by decide) e
      · exact (sne h1).1 e)
    have bx8 := ((bx7.put 0 (.int .i64 n)).put 1 (.int .i64 u)).put 2 (.slice A (gl s ts).length c)
    simp only [List.setIfInBounds_toArray, List.set_cons_zero, List.set_cons_succ] at bx8
    have FR := Lib.hid (bx7.free 0)
    have zf : ∀ i, w7.frozen? ⟨w.heap.size, i, none⟩ = false := fun i => bx7.free i
    have h8 := (((h7.far_ (i := 0) bx7 (by decide) (by decide) (.int .i64 n)).far_ (i := 1) (bx7.put 0 (.int .i64 n)) (by decide) (by decide) (.int .i64 u)).far_ (i := 2) ((bx7.put 0 (.int .i64 n)).put 1 (.int .i64 u)) (by decide) (by decide) (.slice A (gl s ts).length c))
    have c8 : Chg B w (((w7.setCell ⟨w.heap.size, 0, none⟩ (.int .i64 n)).setCell ⟨w.heap.size, 1, none⟩ (.int .i64 u)).setCell ⟨w.heap.size, 2, none⟩ (.slice A (gl s ts).length c)) :=
      ((((Chg.of_below B B3.out).trans c7).setCell (p := ⟨w.heap.size, 0, none⟩) (.inr (Nat.le_refl _)) _).setCell (p := ⟨w.heap.size, 1, none⟩) (.inr (Nat.le_refl _)) _).setCell (p := ⟨w.heap.size, 2, none⟩) (.inr (Nat.le_refl _)) _
    have o8 : Own E2 (((w7.setCell ⟨w.heap.size, 0, none⟩ (.int .i64 n)).setCell ⟨w.heap.size, 1, none⟩ (.int .i64 u)).setCell ⟨w.heap.size, 2, none⟩ (.slice A (gl s ts).length c)) w.heap.size 56 (.slice A (gl s ts).length c) (gl s ts) := ow7.keep (fun k hk => by
      obtain ⟨_, _, cs, h1⟩ := ow7.lt' k hk
      have hne : k ≠ w.heap.size := ne_of_ty h1 bx7 (by decide)
      exact (Below.heap_setCell _ ⟨w.heap.size, 2, none⟩ _ k hne).trans ((Below.heap_setCell _ ⟨w.heap.size, 1, none⟩ _ k hne).trans (Below.heap_setCell _ ⟨w.heap.size, 0, none⟩ _ k hne)))
    have R8 := Lib.hid (And.intro h8 (And.intro c8 o8))
    have r0 := rb7.cell 0
    have r1 := rb7.cell 1
    have r2 := rb7.cell 2
    have z0 := bx7.cell 0
    have z1 := bx7.cell 1
    have z2 := bx7.cell 2
    have x0 := bx8.cell 0
    have x1 := bx8.cell 1
    have x2 := bx8.cell 2
    have fz0 := zf 0
    have fz1 := zf 1
    have fz2 := zf 2
    have g2 := b1.cell 2
    have fg := b1.free 2
    have y0 := b2.cell 0
    have wr1 : IntKind.i64.wrap (tot - u) = tot - u := IntWalk.i64_in _ (by omega)
    clear hon hmp ow lw d4 n5 m5 rb5 bx5 b1 b2 h7 c7 o7 sne rb7 bx7 ow7 bx8 zf h8 c8 o8
    go_upto_region 9 with fail
    refine wp_region_held_drew (S := fun ws => ws.cell? ⟨rb, 1, none⟩ = some (.int .i64 u)) (by kernel_rfl) SS.out (fun hHeld => ?_)
    generalize wr.drew = w5 at *
    refine wpAnyH_take (i := 0) (v := ?_) rfl (by kernel_rfl) (by kernel_rfl) (by kernel_rfl) (fun _ _ _ h => h) (Or.inl ⟨by rfl, ?_⟩) (by assumption) ?_
    rotate_left
    · (intro w hSw; (try dsimp only at hSw); first | (go_simp; done) | (go_simp; with_reducible rfl))
    simp only [Act.put, List.getElem_toArray, List.getElem_cons_zero, List.getElem_cons_succ, List.setIfInBounds_toArray, List.set_cons_zero, List.set_cons_succ]
    refine wpAnyH_take (i := 1) (v := ?_) rfl (by kernel_rfl) (by kernel_rfl) (by kernel_rfl) (fun _ _ _ h => h) (Or.inl ⟨by rfl, ?_⟩) (by assumption) ?_
    rotate_left
    · (intro w hSw; (try dsimp only at hSw); first | (go_simp; done) | (go_simp; with_reducible rfl))
    simp only [Act.put, List.getElem_toArray, List.getElem_cons_zero, List.getElem_cons_succ, List.setIfInBounds_toArray, List.set_cons_zero, List.set_cons_succ]
    refine wpAnyH_take (i := 2) (v := ?_) rfl (by kernel_rfl) (by kernel_rfl) (by kernel_rfl) (fun _ _ _ h => h) (Or.inl ⟨by rfl, ?_⟩) (by assumption) ?_
    rotate_left
    · (intro w hSw; (try dsimp only at hSw); first | (go_simp; done) | (go_simp; with_reducible rfl))
    simp only [Act.put, List.getElem_toArray, List.getElem_cons_zero, List.getElem_cons_succ, List.setIfInBounds_toArray, List.set_cons_zero, List.set_cons_succ]
    refine wpAnyH_take (i := 4) (v := ?_) rfl (by kernel_rfl) (by kernel_rfl) (by kernel_rfl) (fun _ _ _ h => h) (Or.inl ⟨by rfl, ?_⟩) (by assumption) ?_
    rotate_left
    · (intro w hSw; (try dsimp only at hSw); first | (go_simp; done) | (go_simp; with_reducible rfl))
    simp only [Act.put, List.getElem_toArray, List.getElem_cons_zero, List.getElem_cons_succ, List.setIfInBounds_toArray, List.set_cons_zero, List.set_cons_succ]
    refine wpAnyH_take (i := 5) (v := ?_) rfl (by kernel_rfl) (by kernel_rfl) (by kernel_rfl) (fun _ _ _ h => h) (Or.inl ⟨by rfl, ?_⟩) (by assumption) ?_
    rotate_left
    · (intro w hSw; (try dsimp only at hSw); first | (go_simp; done) | (go_simp; with_reducible rfl))
    simp only [Act.put, List.getElem_toArray, List.getElem_cons_zero, List.getElem_cons_succ, List.setIfInBounds_toArray, List.set_cons_zero, List.set_cons_succ]
    refine wpAnyH_ready (rs := [3]) (by kernel_rfl) (by simp) ?_
    refine AllReadyH.cons rfl (fun K hK => ?_) AllReadyH.nil
    go_simp
    refine hK.out _ _ SS.out (fun hHeld2 => ?_)
    clear hK K hHeld
    refine wpAnyH_take (i := 6) (v := ?_) rfl (by kernel_rfl) (by kernel_rfl) (by kernel_rfl) (fun _ _ _ h => h) (Or.inl ⟨by rfl, ?_⟩) (by assumption) ?_
    rotate_left
    · (intro w hSw; (try dsimp only at hSw); first | (go_simp; done) | (go_simp; with_reducible rfl))
    simp only [Act.put, List.getElem_toArray, List.getElem_cons_zero, List.getElem_cons_succ, List.setIfInBounds_toArray, List.set_cons_zero, List.set_cons_succ]
    clear wr1
    refine wpAnyH_take (i := 7) (v := ?_) rfl (by kernel_rfl) (by kernel_rfl) (by kernel_rfl) (fun _ _ _ h => h) (Or.inl ⟨by rfl, ?_⟩) (by assumption) ?_
    rotate_left
    · (intro w hSw; (try dsimp only at hSw); first | (go_simp; done) | (go_simp; with_reducible rfl))
    simp only [Act.put, List.getElem_toArray, List.getElem_cons_zero, List.getElem_cons_succ, List.setIfInBounds_toArray, List.set_cons_zero, List.set_cons_succ]
    refine wpAnyH_take (i := 8) (v := ?_) rfl (by kernel_rfl) (by kernel_rfl) (by kernel_rfl) (fun _ _ _ h => h) (Or.inl ⟨by rfl, ?_⟩) (by assumption) ?_
    rotate_left
    · (intro w hSw; (try dsimp only at hSw); first | (go_simp; done) | (go_simp; with_reducible rfl))
    simp only [Act.put, List.getElem_toArray, List.getElem_cons_zero, List.getElem_cons_succ, List.setIfInBounds_toArray, List.set_cons_zero, List.set_cons_succ]
    refine wpAnyH_ready (rs := [9]) (by kernel_rfl) (by simp) ?_
    refine AllReadyH.cons rfl (fun K hK => ?_) AllReadyH.nil
    go_simp
    refine hK.out _ _ S6.out (fun hHeld => ?_)
    clear hK K hHeld2
    refine wpAnyH_done (by kernel_rfl) ?_ _
    clear hHeld g2 fg
    generalize w5.setCell ⟨g, 2, none⟩ (.int .i64 (tot - u)) = w6 at *
    go_upto_region 11 with fail
    clear y0 hrun
    go_wp2_with fail
    refine bodyPost_ret (v := .tuple #[.agg #[.int .i64 n, .int .i64 u, .slice A (gl s ts).length c], .int .i64 0]) (by simp [results, Try.results20, go_sem, x0, x1, x2]) rfl ⟨_, ts, rfl, KK.out, LN.out, R8.out.2.2, R8.out.1.sx (Nat.le_trans (Nat.sub_le _ _) a) (Nat.le_trans hck b), R8.out.2.1⟩
end Go.Proofs.Ythnjacfpnbhfpaa.st
