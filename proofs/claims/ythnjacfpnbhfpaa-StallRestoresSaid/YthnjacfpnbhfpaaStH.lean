/-
  Contracts of package stall: Goods, row.
-/
import Derived.Test.YthnjacfpnbhfpaaStF
import Derived.Deep.RegionHeld
namespace Go.Proofs.Ythnjacfpnbhfpaa.st
open Go.RowKit
open base (ret_bool ret_int made up Blk Only)
open rk mk
set_option linter.unusedVariables false
set_option linter.unusedSimpArgs false
variable {B g bs bw : Nat} {w w1 w2 w' : World} {s : S3} {tot : Int} {nT nG m : Nat} {P M : Int → Nat}

theorem TG : Ty E2 Try.prog 45 56 (.agg #[.int .i64 0, .int .i64 0]) 16 := ⟨Try.underlying45, by kernel_rfl, rfl, by decide⟩
theorem lay1 {A : Option Addr} {L : List Int} (h : Lay E1 w A L) {k : Nat} (hk : k < L.length) : ∃ b off, A = some ⟨b, off, none⟩ ∧ w.cell? ⟨b, off + k, none⟩ = some (.int .i64 L[k]) := by
  obtain ⟨b, off, e, _, hc⟩ := h (by omega)
  refine ⟨b, off, e, ?_⟩
  have := hc k hk 0 (by decide)
  rw [show off + k * E1.k + 0 = off + k by show off + k * 1 + 0 = _; omega] at this
  exact this
theorem lay2 {A : Option Addr} {L : List C2} (h : Lay E2 w A L) {k : Nat} (hk : k < L.length) : ∃ b off, A = some ⟨b, off, none⟩ ∧ w.cell? ⟨b, off + k * 2, none⟩ = some (.int .i64 L[k].1) ∧ w.cell? ⟨b, off + k * 2 + 1, none⟩ = some (.int .i64 L[k].2) := by
  obtain ⟨b, off, e, _, hc⟩ := h (by omega)
  exact ⟨b, off, e, hc k hk 0 (by decide), hc k hk 1 (by decide)⟩
/-- the goods of a house out of their keys -/
def gl (s : S3) (ts : List Int) : List C2 := ts.map (fun t => (t, prB s t))
theorem inn_some {n t : Int} (h : (inn s.G n t).isSome = true) : ∃ p, s.G t = some (n, p) := by
  unfold inn at h
  cases q : s.G t with
  | none => rw [q] at h; cases h
  | some d =>
    obtain ⟨k, p⟩ := d
    rw [q] at h
    by_cases e : k = n
    · subst e; exact ⟨p, rfl⟩
    · replace h : (if k = n then some (Value.int .i64 p) else none).isSome = true := h
      rw [if_neg e] at h
      cases h
set_option maxRecDepth 100000 in
set_option maxHeartbeats 2000000 in
theorem goods_none (n : Int) (H : SAt w B g bs bw s tot nT nG P M) (hw : (Lit.int .i64 n).wf = true) (hT : s.T n = none) :
    Calls Try.prog 27 #[.pointer (some ⟨g, 0, none⟩), .int .i64 n] w fun e w' => e = .returned (.slice none 0 0) ∧ w = w' := by
  have c0 := H.blk.cell 0
  have lk := H.s_ok hw
  have e1 : ptr s.T P n = none := by unfold ptr; rw [hT]; rfl
  rw [hT, e1] at lk
  replace lk : (Instr.lookup 64 (.map (some bs)) (.int .i64 n) true).run Try.prog w = .ok (.tuple #[.pointer none, .bool false]) w := lk
  clear H hT e1
  go_enter Try.func27, Try.ntmps27
  go_wp2_with fail
  go_ret
  exact ⟨rfl, rfl⟩
def GoodsP (n : Int) (s : S3) (w : World) (e : Ending) (w' : World) : Prop := ∃ v ts, e = .returned v ∧ Keys (inn s.G n) ts ∧ ts.length ≤ 16 ∧ Own E2 w' w.heap.size 56 v (gl s ts) ∧ Below w.heap.size w w'
set_option maxRecDepth 100000 in
set_option maxHeartbeats 4000000 in
theorem goods_some (n u : Int) (H : SAt w B g bs bw s tot nT nG P M) (hT : s.T n = some u) :
    Calls Try.prog 27 #[.pointer (some ⟨g, 0, none⟩), .int .i64 n] w (GoodsP n s w) := by
  have hw := H.gd.wfT hT
  have c0 := H.blk.cell 0
  have lk := H.s_ok hw
  have e1 : ptr s.T P n = some (.pointer (some ⟨P n, 0, none⟩)) := by unfold ptr; rw [hT]; rfl
  rw [hT, e1] at lk
  replace lk : (Instr.lookup 64 (.map (some bs)) (.int .i64 n) true).run Try.prog w = .ok (.tuple #[.pointer (some ⟨P n, 0, none⟩), .bool true]) w := lk
  have on := H.one n u hT
  have p1 := on.blk.cell 1
  have KA := Lib.hid (keysI_any (some (M n)) w)
  have cn := H.gd.cnt n
  have SO := Lib.hid (sortedI_any on.map (by omega))
  have ON := Lib.hid on
  have GD := Lib.hid H.gd
  have CN := Lib.hid cn
  clear H hT e1 hw on cn
  go_enter Try.func27, Try.ntmps27
  go_wp2_with fail
  refine KA.out.mono ?_
  rintro e w1 ⟨rfl, rfl⟩
  go_wp2_with fail
  refine SO.out.mono ?_
  rintro e w2 ⟨v2, ts, rfl, hk, hlen, ho, hb⟩
  obtain ⟨A2, cp2, rfl, hl2, -, -⟩ := ho.open_
  have L2 := Lib.hid hl2
  have KK := Lib.hid hk
  have B2 := Lib.hid hb
  have LN := Lib.hid (show ts.length ≤ 16 from Nat.le_trans hlen CN.out)
  have hlt := LN.out
  clear hl2 hk hb ho hlen KA SO c0 lk p1
  go_wp2_with fail
  go_loopw [7, 28] (fun o i wr => ∃ (k : Nat) (W : World), W = wr ∧ k ≤ ts.length ∧ i = .int .i64 k ∧ Own E2 wr w2.heap.size 56 o (gl s (ts.take k)) ∧ Below w.heap.size w wr ∧ Below w2.heap.size w2 wr) (fun _ i _ => ts.length - (intOf i).toNat)
  case atStart => exact ⟨0, _, rfl, by omega, rfl, Own.nil _ _ _, B2.out, Below.refl _ _⟩
  case round =>
  obtain ⟨k, w3, rfl, hk, rfl, ho, hb, hb2⟩ := hrel
  have O3 := Lib.hid ho
  have B3 := Lib.hid hb
  have D3 := Lib.hid hb2
  by_cases hkl : k < ts.length
  · obtain ⟨bb, off, rfl, e0⟩ := lay1 (L2.out.below hb2) hkl
    have TK := Lib.hid (List.take_succ_eq_append_getElem hkl)
    have TL := Lib.hid (show (gl s (ts.take k)).length = k by unfold gl; rw [List.length_map, List.length_take]; omega)
    obtain ⟨hin, hwf⟩ := KK.out.mem _ (List.getElem_mem hkl)
    obtain ⟨p, hp⟩ := inn_some hin
    have PB := Lib.hid (show prB s ts[k] = p by unfold prB; rw [hp])
    have o3 := ON.out.below hb
    have l3 := o3.at_ hp hwf
    have q1 := o3.blk.cell 1
    clear hb hb2 ho hin hwf hp o3
    generalize ts[k] = t at *
    have hm := made w3 (.cells #[.int .i64 t, .int .i64 p] 56)
    have O4 := Lib.hid (O3.out.below hm)
    have B4 := Lib.hid (up B3.out hm B3.out.size)
    have D4 := Lib.hid (up D3.out hm D3.out.size)
    have LY := Lib.hid (Lay.lit (E := E2) (w3.alloc (.cells #[.int .i64 t, .int .i64 p] 56)) (t, p) 56 w3.heap.size (Blk.new _ _ _))
    have GE := Lib.hid (show gl s (ts.take k) ++ [(t, p)] = gl s (ts.take (k + 1)) by rw [TK.out]; unfold gl; rw [List.map_append, List.map_cons, List.map_nil, PB.out])
    clear hm
    generalize hw4 : w3.alloc (.cells #[.int .i64 t, .int .i64 p] 56) = w4 at *
    go_wp2_with (first | rw [hw4] | ((with_reducible show wpList _ _ _ (⟨some 42, _, _, _, _, _⟩ :: _) _ _); go_must (refine wp_app TG (c := 1) (n := 1) rfl _ _ rfl rfl rfl rfl rfl O4.out LY.out (by rw [TL.out]; simp; omega) D4.out.size ?_)))
    intro v5 w5 own5 gr5
    have K5 := gr5.below O4.out D4.out.size
    have B5 := Lib.hid (B4.out.trans (K5.mono B2.out.size))
    have D5 := Lib.hid (show Below w2.heap.size w2 w5 from D4.out.trans K5)
    clear K5
    rw [GE.out] at own5
    have O5 := Lib.hid own5
    obtain ⟨A5, c5, rfl, -⟩ := own5.open_
    clear own5 gr5 O4 LY hw4 e0 l3 q1
    go_wp2_with fail
    refine ⟨⟨k + 1, _, rfl, by omega, by go_num, O5.out, B5.out, D5.out⟩, by simp [intOf]; omega⟩
  · obtain rfl : k = ts.length := by omega
    rw [List.take_length] at O3
    obtain ⟨A5, c5, rfl, -⟩ := ho.open_
    clear ho hb hb2
    go_wp2_with fail
    go_ret
    exact ⟨_, ts, rfl, KK.out, LN.out, O3.out.mono B2.out.size, B3.out⟩

def RowP (n u : Int) (s : S3) (w : World) (e : Ending) (w' : World) : Prop := ∃ v ts, e = .returned (.agg #[.int .i64 n, .int .i64 u, v]) ∧ Keys (inn s.G n) ts ∧ ts.length ≤ 16 ∧ Own E2 w' w.heap.size 56 v (gl s ts) ∧ Below w.heap.size w w'
set_option maxRecDepth 100000 in
set_option maxHeartbeats 4000000 in
theorem row_any (n u : Int) (H : SAt w B g bs bw s tot nT nG P M) (hT : s.T n = some u) :
    Calls Try.prog 37 #[.pointer (some ⟨g, 0, none⟩), .int .i64 n] w (RowP n u s w) := by
  have hm := made w (.cells #[.int .i64 0, .int .i64 0, .slice none 0 0] 47)
  have d1 := (Below.refl (w.alloc (.cells #[.int .i64 0, .int .i64 0, .slice none 0 0] 47)).heap.size (w.alloc (.cells #[.int .i64 0, .int .i64 0, .slice none 0 0] 47))).drew
  have H2 := (H.below hm).below d1
  have BX := Lib.hid ((Blk.new w 47 #[.int .i64 0, .int .i64 0, .slice none 0 0]).below d1 (Blk.new _ _ _).lt)
  have B2 := Lib.hid (hm.drew)
  clear hm d1
  generalize hw1 : w.alloc (.cells #[.int .i64 0, .int .i64 0, .slice none 0 0] 47) = w1 at *
  have SF := Lib.hid (fun ws (h : SAt ws B g bs bw s tot nT nG P M) => show ws.cell? ⟨g, 0, none⟩ = some (.map (some bs)) ∧ (Instr.lookup 64 (.map (some bs)) (.int .i64 n) false).run Try.prog ws = .ok (.pointer (some ⟨P n, 0, none⟩)) ws ∧ ws.cell? ⟨P n, 0, none⟩ = some (.int .i64 u) from ⟨h.blk.cell 0, h.s_at hT, (h.one n u hT).blk.cell 0⟩)
  have GO := Lib.hid (goods_some n u H2 hT)
  have HH := Lib.hid H2
  have H0 := Lib.hid H
  clear H H2 hT
  go_enter Try.func37, Try.ntmps37
  go_wp2_with (rw [hw1])
  refine wp_region_held_drew (S := fun ws => ws.cell? ⟨g, 0, none⟩ = some (.map (some bs)) ∧ (Instr.lookup 64 (.map (some bs)) (.int .i64 n) false).run Try.prog ws = .ok (.pointer (some ⟨P n, 0, none⟩)) ws ∧ ws.cell? ⟨P n, 0, none⟩ = some (.int .i64 u)) (by kernel_rfl) (SF.out _ HH.out) (fun hHeld => ?_)
  clear hw1
  generalize w1.drew = w2 at *
  refine wpAnyH_take (i := 0) (v := ?_) rfl (by kernel_rfl) (by kernel_rfl) (by kernel_rfl) (fun _ _ _ h => h) (Or.inl ⟨by rfl, ?_⟩) (by assumption) ?_
  rotate_left
  · (intro w hSw; (try dsimp only at hSw); first | (go_simp; done) | (go_simp; with_reducible rfl))
  simp only [Act.put, List.getElem_toArray, List.getElem_cons_zero, List.getElem_cons_succ, List.setIfInBounds_toArray, List.set_cons_zero, List.set_cons_succ]
  refine wpAnyH_take (i := 1) (v := ?_) rfl (by kernel_rfl) (by kernel_rfl) (by kernel_rfl) (fun _ _ _ h => h) (Or.inl ⟨by rfl, ?_⟩) (by assumption) ?_
  rotate_left
  · (intro w hSw; (try dsimp only at hSw); first | (go_simp; done) | (go_simp; with_reducible rfl))
  simp only [Act.put, List.getElem_toArray, List.getElem_cons_zero, List.getElem_cons_succ, List.setIfInBounds_toArray, List.set_cons_zero, List.set_cons_succ]
  refine wpAnyH_take (i := 2) (v := ?_) rfl (by kernel_rfl) (by kernel_rfl) (by kernel_rfl) (fun _ _ _ h => h) (Or.inl ⟨by rfl, ?_⟩) (by assumption) ?_
  rotate_left
  · (intro w hSw; (try dsimp only at hSw); first | (go_simp; done) | (go_simp; with_reducible rfl))
  simp only [Act.put, List.getElem_toArray, List.getElem_cons_zero, List.getElem_cons_succ, List.setIfInBounds_toArray, List.set_cons_zero, List.set_cons_succ]
  refine wpAnyH_take (i := 3) (v := ?_) rfl (by kernel_rfl) (by kernel_rfl) (by kernel_rfl) (fun _ _ _ h => h) (Or.inl ⟨by rfl, ?_⟩) (by assumption) ?_
  rotate_left
  · (intro w hSw; (try dsimp only at hSw); first | (go_simp; done) | (go_simp; with_reducible rfl))
  simp only [Act.put, List.getElem_toArray, List.getElem_cons_zero, List.getElem_cons_succ, List.setIfInBounds_toArray, List.set_cons_zero, List.set_cons_succ]
  refine wpAnyH_take (i := 4) (v := ?_) rfl (by kernel_rfl) (by kernel_rfl) (by kernel_rfl) (fun _ _ _ h => h) (Or.inl ⟨by rfl, ?_⟩) (by assumption) ?_
  rotate_left
  · (intro w hSw; (try dsimp only at hSw); first | (go_simp; done) | (go_simp; with_reducible rfl))
  simp only [Act.put, List.getElem_toArray, List.getElem_cons_zero, List.getElem_cons_succ, List.setIfInBounds_toArray, List.set_cons_zero, List.set_cons_succ]
  refine wpAnyH_take (i := 5) (v := ?_) rfl (by kernel_rfl) (by kernel_rfl) (by kernel_rfl) (fun _ _ _ h => h) (Or.inl ⟨by rfl, ?_⟩) (by assumption) ?_
  rotate_left
  · (intro w hSw; (try dsimp only at hSw); first | (go_simp; done) | (go_simp; with_reducible rfl))
  simp only [Act.put, List.getElem_toArray, List.getElem_cons_zero, List.getElem_cons_succ, List.setIfInBounds_toArray, List.set_cons_zero, List.set_cons_succ]
  refine wpAnyH_take (i := 6) (v := ?_) rfl (by kernel_rfl) (by kernel_rfl) (by kernel_rfl) (fun _ _ _ h => h) (Or.inl ⟨by rfl, ?_⟩) (by assumption) ?_
  rotate_left
  · (intro w hSw; (try dsimp only at hSw); first | (go_simp; done) | (go_simp; with_reducible rfl))
  simp only [Act.put, List.getElem_toArray, List.getElem_cons_zero, List.getElem_cons_succ, List.setIfInBounds_toArray, List.set_cons_zero, List.set_cons_succ]
  refine wpAnyH_take (i := 7) (v := ?_) rfl (by kernel_rfl) (by kernel_rfl) (by kernel_rfl) (fun _ _ _ h => h) (Or.inl ⟨by rfl, ?_⟩) (by assumption) ?_
  rotate_left
  · (intro w hSw; (try dsimp only at hSw); first | (go_simp; done) | (go_simp; with_reducible rfl))
  simp only [Act.put, List.getElem_toArray, List.getElem_cons_zero, List.getElem_cons_succ, List.setIfInBounds_toArray, List.set_cons_zero, List.set_cons_succ]
  refine wpAnyH_take (i := 8) (v := ?_) rfl (by kernel_rfl) (by kernel_rfl) (by kernel_rfl) (fun _ _ _ h => h) (Or.inl ⟨by rfl, ?_⟩) (by assumption) ?_
  rotate_left
  · (intro w hSw; (try dsimp only at hSw); first | (go_simp; done) | (go_simp; with_reducible rfl))
  simp only [Act.put, List.getElem_toArray, List.getElem_cons_zero, List.getElem_cons_succ, List.setIfInBounds_toArray, List.set_cons_zero, List.set_cons_succ]
  refine wpAnyH_take (i := 9) (v := ?_) rfl (by kernel_rfl) (by kernel_rfl) (by kernel_rfl) (fun _ _ _ h => h) (Or.inl ⟨by rfl, ?_⟩) (by assumption) ?_
  rotate_left
  · (intro w hSw; (try dsimp only at hSw); first | (go_simp; done) | (go_simp; with_reducible rfl))
  simp only [Act.put, List.getElem_toArray, List.getElem_cons_zero, List.getElem_cons_succ, List.setIfInBounds_toArray, List.set_cons_zero, List.set_cons_succ]
  refine wpAnyH_take (i := 10) (v := ?_) rfl (by kernel_rfl) (by kernel_rfl) (by kernel_rfl) (fun _ _ _ h => h) (Or.inl ⟨by rfl, ?_⟩) (by assumption) ?_
  rotate_left
  · (intro w hSw; (try dsimp only at hSw); first | (go_simp; done) | (go_simp; with_reducible rfl))
  simp only [Act.put, List.getElem_toArray, List.getElem_cons_zero, List.getElem_cons_succ, List.setIfInBounds_toArray, List.set_cons_zero, List.set_cons_succ]
  refine wpAnyH_take (i := 11) (v := ?_) rfl (by kernel_rfl) (by kernel_rfl) (by kernel_rfl) (fun _ _ _ h => h) (Or.inl ⟨by rfl, ?_⟩) (by assumption) ?_
  rotate_left
  · (intro w hSw; (try dsimp only at hSw); first | (go_simp; done) | (go_simp; with_reducible rfl))
  simp only [Act.put, List.getElem_toArray, List.getElem_cons_zero, List.getElem_cons_succ, List.setIfInBounds_toArray, List.set_cons_zero, List.set_cons_succ]
  refine wpAnyH_ready (rs := [12]) (by kernel_rfl) (by simp) ?_
  refine AllReadyH.cons rfl (fun K hK => ?_) AllReadyH.nil
  go_simp
  go_wp2_with (go_at_call 27; refine GO.out.mono ?_; rintro e w3 ⟨v, ts, rfl, hk, hlen, ho, hb⟩)
  have R3 := Lib.hid (And.intro hk (And.intro hlen ho))
  have B3 := Lib.hid hb
  have BX3 := Lib.hid (BX.out.below hb BX.out.lt)
  have S3' := Lib.hid (SF.out _ (HH.out.below hb))
  obtain ⟨A3, c3, rfl, -⟩ := ho.open_
  clear hk hlen ho hb GO
  refine hK.out _ _ S3'.out (fun hHeld2 => ?_)
  clear hK K hHeld
  have x0 := BX3.out.cell 0
  have x1 := BX3.out.cell 1
  have x2 := BX3.out.cell 2
  have f0 := BX3.out.free 0
  have f1 := BX3.out.free 1
  have f2 := BX3.out.free 2
  refine wpAnyH_take (i := 13) (v := ?_) rfl (by kernel_rfl) (by kernel_rfl) (by kernel_rfl) (fun _ _ _ h => h) (Or.inl ⟨by rfl, ?_⟩) (by assumption) ?_
  rotate_left
  · (intro w hSw; (try dsimp only at hSw); first | (go_simp; done) | (go_simp; with_reducible rfl))
  simp only [Act.put, List.getElem_toArray, List.getElem_cons_zero, List.getElem_cons_succ, List.setIfInBounds_toArray, List.set_cons_zero, List.set_cons_succ]
  refine wpAnyH_ready (rs := [14]) (by kernel_rfl) (by simp) ?_
  refine AllReadyH.cons rfl (fun K hK => ?_) AllReadyH.nil
  go_simp
  have hz : w.heap.size < w2.heap.size := BX.out.lt
  have b4 := ((BX3.out.put 0 (.int .i64 n)).put 1 (.int .i64 u)).put 2 (.slice A3 (gl s ts).length c3)
  simp only [List.setIfInBounds_toArray, List.set_cons_zero, List.set_cons_succ] at b4
  have k4 : Below w.heap.size w (((w3.setCell ⟨w.heap.size, 0, none⟩ (.int .i64 n)).setCell ⟨w.heap.size, 1, none⟩ (.int .i64 u)).setCell ⟨w.heap.size, 2, none⟩ (.slice A3 (gl s ts).length c3)) :=
    (((up B2.out B3.out B2.out.size).setCell (p := ⟨w.heap.size, 0, none⟩) (Nat.le_refl _) _).setCell (p := ⟨w.heap.size, 1, none⟩) (Nat.le_refl _) _).setCell (p := ⟨w.heap.size, 2, none⟩) (Nat.le_refl _) _
  have o4 : Own E2 (((w3.setCell ⟨w.heap.size, 0, none⟩ (.int .i64 n)).setCell ⟨w.heap.size, 1, none⟩ (.int .i64 u)).setCell ⟨w.heap.size, 2, none⟩ (.slice A3 (gl s ts).length c3)) w.heap.size 56 (.slice A3 (gl s ts).length c3) (gl s ts) := (R3.out.2.2.mono (Nat.le_of_lt hz)).keep (fun k hk => by
    have := (R3.out.2.2.lt' k hk).1
    have hne : k ≠ w.heap.size := by omega
    exact (Below.heap_setCell _ ⟨w.heap.size, 2, none⟩ _ k hne).trans ((Below.heap_setCell _ ⟨w.heap.size, 1, none⟩ _ k hne).trans (Below.heap_setCell _ ⟨w.heap.size, 0, none⟩ _ k hne)))
  have K4 := Lib.hid k4
  have O4 := Lib.hid o4
  have S4 := Lib.hid (SF.out _ (H0.out.below k4))
  have x0 := b4.cell 0
  have x1 := b4.cell 1
  have x2 := b4.cell 2
  clear k4 o4 f0 f1 f2 hz
  refine hK.out _ _ S4.out (fun hHeld => ?_)
  clear hK K hHeld2
  refine wpAnyH_done (by kernel_rfl) ?_ _
  clear hHeld S4 SF
  generalize ((w3.setCell ⟨w.heap.size, 0, none⟩ (.int .i64 n)).setCell ⟨w.heap.size, 1, none⟩ (.int .i64 u)).setCell ⟨w.heap.size, 2, none⟩ (.slice A3 (gl s ts).length c3) = w4 at *
  go_wp2_with fail
  refine bodyPost_ret (v := .agg #[.int .i64 n, .int .i64 u, .slice A3 (gl s ts).length c3]) (by simp [results, Try.results37, go_sem, x0, x1, x2]) rfl ⟨_, ts, rfl, R3.out.1, R3.out.2.1, O4.out, K4.out⟩
end Go.Proofs.Ythnjacfpnbhfpaa.st
