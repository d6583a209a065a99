/-
  Contracts of package thing: one is taken out of the map by places.
-/
import Derived.Test.YtckdfdnhoionnaaTgC
namespace Go.Proofs.Ytckdfdnhoionnaa.tg
open Go.RowKit
open Go.Maps (Keyed)
open base (ret_bool ret_int made up Blk Only)
open rk mk il nm
set_option linter.unusedVariables false
set_option linter.unusedSimpArgs false
variable {B g m K : Nat} {w w1 w2 w5 w' : World} {M M' : List Th} {f : Lit → Option Value} {V : Pc → Value} {c : Nat}

set_option maxRecDepth 100000 in
set_option maxHeartbeats 4000000 in
theorem leave_any (x : Th) (v0 n0 : Value) (hg : Blk w g 68 #[v0, .map (some m), n0]) (H : MAt w B m M K) (hp : wp (pc x)) (hr : (ids M (pc x)).Pairwise (· < ·))
    (hin : pl (ids M (pc x)) x.id < (ids M (pc x)).length) (hM : ∀ q, ids M' q = if q = pc x then (ids M (pc x)).eraseIdx (pl (ids M (pc x)) x.id) else ids M q) (hl : M.length ≤ 100000) (hK : K ≤ 100000) (hB : B ≤ w.heap.size) :
    Calls Try.prog 45 #[.pointer (some ⟨g, 0, none⟩), tv x] w (EntP B m M' (K + 1) w) := by
  obtain ⟨f, V, c, H, hc⟩ := H
  have hrow := H.row_own hp
  have hll := Nat.le_trans (ids_len M (pc x)) hl
  have hm := made w (.cells #[.int .i64 x.id, .string x.nm, .int .i64 x.ow, .int .i64 x.kd, .int .i64 x.hs, .int .i64 x.sl] 46)
  have bx : Blk (w.alloc (.cells #[.int .i64 x.id, .string x.nm, .int .i64 x.ow, .int .i64 x.kd, .int .i64 x.hs, .int .i64 x.sl] 46)) w.heap.size 46 #[.int .i64 x.id, .string x.nm, .int .i64 x.ow, .int .i64 x.kd, .int .i64 x.hs, .int .i64 x.sl] := Blk.new _ _ _
  have hs1 := asz w (.cells #[.int .i64 x.id, .string x.nm, .int .i64 x.ow, .int .i64 x.kd, .int .i64 x.hs, .int .i64 x.sl] 46)
  have H1 := H.below hm
  have g1 := hg.below hm hg.lt
  have r1 := hrow.below hm
  generalize hw1 : w.alloc (.cells #[.int .i64 x.id, .string x.nm, .int .i64 x.ow, .int .i64 x.kd, .int .i64 x.hs, .int .i64 x.sl] 46) = w1 at *
  -- what stands in whatever world that keeps what lay in w1
  have KS := Lib.hid (fun ws (h : Below w1.heap.size w1 ws) => (show ws.cell? ⟨g, 1, none⟩ = some (.map (some m)) ∧ ws.cell? ⟨w.heap.size, 0, none⟩ = some (.int .i64 x.id) ∧ ws.cell? ⟨w.heap.size, 3, none⟩ = some (.int .i64 x.kd) ∧ ws.cell? ⟨w.heap.size, 4, none⟩ = some (.int .i64 x.hs) ∧ ws.cell? ⟨w.heap.size, 5, none⟩ = some (.int .i64 x.sl) from
    ⟨(g1.below h g1.lt).cell 1, (bx.below h bx.lt).cell 0, (bx.below h bx.lt).cell 3, (bx.below h bx.lt).cell 4, (bx.below h bx.lt).cell 5⟩))
  have LK := Lib.hid (fun ws (h : Below w1.heap.size w1 ws) => (H1.below h).look hp)
  have SB := Lib.hid (fun ws (h : Below w1.heap.size w1 ws) => search_both B (row M V (pc x)) (ids M (pc x)) x.id ws (r1.below h) hr hll)
  obtain ⟨gv, cv, csv, hvv, -⟩ := hrow.full (by omega)
  have hll2 := Lib.hid hll
  have IN := Lib.hid (fun ws (h : Below w1.heap.size w1 ws) => (show Calls Try.prog 55 #[.slice (some ⟨gv, 0, none⟩) (ids M (pc x)).length cv, .int .i64 (pl (ids M (pc x)) x.id : Nat), .int .i64 ((pl (ids M (pc x)) x.id : Nat) + 1 : Int)] ws _ from
    delete_any B gv cv (pl (ids M (pc x)) x.id) (ids M (pc x)) ws (by have := r1.below h; rw [hvv] at this; exact this) hin))
  have PUT := Lib.hid (fun ws w6 (h : Below w1.heap.size w1 ws) (ho : OwnI w6 B (.slice (some ⟨gv, 0, none⟩) ((ids M (pc x)).eraseIdx (pl (ids M (pc x)) x.id)).length cv) ((ids M (pc x)).eraseIdx (pl (ids M (pc x)) x.id))) (hc6 : Only (fun k => k = gv) ws w6) (hne : (ids M (pc x)).eraseIdx (pl (ids M (pc x)) x.id) ≠ []) =>
    (H1.below h).put (M' := M') hp (Only.mono hc6 (fun j _ e => by rw [hvv, e]; rfl)) ho (.inl (by rw [hvv]; rfl)) (fun q => by rw [hM q]) hne hc hK)
  have DEL := Lib.hid (fun ws w6 (h : Below w1.heap.size w1 ws) (hc6 : Only (fun k => k = gv) ws w6) (hne : (ids M (pc x)).eraseIdx (pl (ids M (pc x)) x.id) = []) (ty : TypeId) =>
    (H1.below h).del (M' := M') (K := K) hp (Only.mono hc6 (fun j _ e => by rw [hvv, e]; rfl)) (fun q => by rw [hM q, hne]) hc ty)
  have hgm : g ≠ m := fun e => by
    obtain ⟨es, cl, ho⟩ := map_obj H.map
    unfold Blk at hg
    rw [e, ho] at hg
    cases hg
  have hxm : w.heap.size ≠ m := by have := H.map.lt; omega
  have GB := Lib.hid (fun ws w6 (h : Below w1.heap.size w1 ws) (hc6 : Only (fun k => k = gv) ws w6) => (show Blk w6 g 68 #[v0, .map (some m), n0] ∧ Blk w6 w.heap.size 46 #[.int .i64 x.id, .string x.nm, .int .i64 x.ow, .int .i64 x.kd, .int .i64 x.hs, .int .i64 x.sl] from
    ⟨(g1.below h g1.lt).only hc6 (fun e => own_blk_ne (r1.below h) (g1.below h g1.lt) (by decide) gv (by rw [hvv]; rfl) e.symm), (bx.below h bx.lt).only hc6 (fun e => own_blk_ne (r1.below h) (bx.below h bx.lt) (by decide) gv (by rw [hvv]; rfl) e.symm)⟩))
  have GC := Lib.hid (fun ws (k : Blk ws g 68 #[v0, .map (some m), n0] ∧ Blk ws w.heap.size 46 #[.int .i64 x.id, .string x.nm, .int .i64 x.ow, .int .i64 x.kd, .int .i64 x.hs, .int .i64 x.sl]) => (show ws.cell? ⟨g, 1, none⟩ = some (.map (some m)) ∧ ws.cell? ⟨w.heap.size, 0, none⟩ = some (.int .i64 x.id) ∧ ws.cell? ⟨w.heap.size, 3, none⟩ = some (.int .i64 x.kd) ∧ ws.cell? ⟨w.heap.size, 4, none⟩ = some (.int .i64 x.hs) ∧ ws.cell? ⟨w.heap.size, 5, none⟩ = some (.int .i64 x.sl) from
    ⟨k.1.cell 1, k.2.cell 0, k.2.cell 3, k.2.cell 4, k.2.cell 5⟩))
  have GM := Lib.hid (fun w6 w7 (h7 : Only (fun j => j = m) w6 w7) (k : Blk w6 g 68 #[v0, .map (some m), n0] ∧ Blk w6 w.heap.size 46 #[.int .i64 x.id, .string x.nm, .int .i64 x.ow, .int .i64 x.kd, .int .i64 x.hs, .int .i64 x.sl]) => And.intro (k.1.only h7 hgm) (k.2.only h7 hxm))
  have FIN := Lib.hid (fun ws w6 w7 (h : Below w1.heap.size w1 ws) (hc6 : Only (fun k => k = gv) ws w6) (h7 : Only (fun j => j = m) w6 w7) => (show MC B m w w7 from
    (mc_row hrow (up hm h hm.size) (Only.mono hc6 (fun j _ e => by rw [hvv, e]; rfl))).map h7))
  rw [hvv] at LK SB
  obtain ⟨i, hi⟩ : ∃ i, i = pl (ids M (pc x)) x.id := ⟨_, rfl⟩
  have SB2 := Lib.hid (fun ws (h : Below w1.heap.size w1 ws) => (SB.out ws h).mono (fun e w' (he : SeaP _ _ _ _ _) => (show ∃ b, e = .returned (.tuple #[.int .i64 (i : Nat), .bool b]) ∧ ∃ q, w' = ws.drewN q from by rw [hi]; exact he)))
  rw [← hi] at IN PUT DEL hin
  obtain ⟨n, hn⟩ : ∃ n, n = (ids M (pc x)).length := ⟨_, rfl⟩
  obtain ⟨l', hl'⟩ : ∃ l', l' = (ids M (pc x)).eraseIdx i := ⟨_, rfl⟩
  rw [← hl'] at IN PUT DEL
  rw [← hn] at LK SB2 IN hin
  have hi1 : (i : Int) + 1 ≤ 100001 := by omega
  have hi0 : IntKind.i64.wrap ((i : Int) + 1) = (i : Int) + 1 := IntWalk.i64_in _ (by omega)
  have MMX := Lib.hid (Below.refl w1.heap.size w1)
  obtain ⟨x0, x1, x2, x3, x4, x5⟩ := x
  simp only [pc] at LK
  dsimp only at KS LK SB2 IN PUT DEL GB GC GM FIN hw1 ⊢
  clear hgm hxm hvv hi hl' hn hin hll2 SB hrow hll hm bx hs1 H1 g1 r1 H hc hr hM hg
  go_enter Try.func45, Try.ntmps45
  go_wp2_with (rw [hw1])
  clear hw1
  refine wp_region_held_drew (S := fun ws => (ws.cell? ⟨g, 1, none⟩ = some (.map (some m)) ∧ ws.cell? ⟨w.heap.size, 0, none⟩ = some (.int .i64 x0) ∧ ws.cell? ⟨w.heap.size, 3, none⟩ = some (.int .i64 x3) ∧ ws.cell? ⟨w.heap.size, 4, none⟩ = some (.int .i64 x4) ∧ ws.cell? ⟨w.heap.size, 5, none⟩ = some (.int .i64 x5)) ∧ (Instr.lookup 66 (.map (some m)) (.agg #[.int .i64 x3, .int .i64 x4, .int .i64 x5]) false).run Try.prog ws = .ok (.slice (some ⟨gv, 0, none⟩) n cv) ws) (by kernel_rfl) ⟨KS.out _ MMX.out.drew, LK.out _ MMX.out.drew⟩ (fun hHeld => ?_)
  refine wpAnyH_take (i := 0) (v := ?_) rfl (by kernel_rfl) (by kernel_rfl) (by kernel_rfl) (fun _ _ _ h => h) (Or.inl ⟨by rfl, ?_⟩) (by assumption) ?_
  rotate_left
  · (intro w hSw; (try dsimp only at hSw); first | (go_simp; done) | (go_simp; with_reducible rfl))
  simp only [Act.put, List.getElem_toArray, List.getElem_cons_zero, List.getElem_cons_succ, List.setIfInBounds_toArray, List.set_cons_zero, List.set_cons_succ]
  refine wpAnyH_take (i := 1) (v := ?_) rfl (by kernel_rfl) (by kernel_rfl) (by kernel_rfl) (fun _ _ _ h => h) (Or.inl ⟨by rfl, ?_⟩) (by assumption) ?_
  rotate_left
  · (intro w hSw; (try dsimp only at hSw); first | (go_simp; done) | (go_simp; with_reducible rfl))
  simp only [Act.put, List.getElem_toArray, List.getElem_cons_zero, List.getElem_cons_succ, List.setIfInBounds_toArray, List.set_cons_zero, List.set_cons_succ]
  refine wpAnyH_take (i := 2) (v := ?_) rfl (by kernel_rfl) (by kernel_rfl) (by kernel_rfl) (fun _ _ _ h => h) (Or.inl ⟨by rfl, ?_⟩) (by assumption) ?_
  rotate_left
  · (intro w hSw; (try dsimp only at hSw); first | (go_simp; done) | (go_simp; with_reducible rfl))
  simp only [Act.put, List.getElem_toArray, List.getElem_cons_zero, List.getElem_cons_succ, List.setIfInBounds_toArray, List.set_cons_zero, List.set_cons_succ]
  refine wpAnyH_take (i := 3) (v := ?_) rfl (by kernel_rfl) (by kernel_rfl) (by kernel_rfl) (fun _ _ _ h => h) (Or.inl ⟨by rfl, ?_⟩) (by assumption) ?_
  rotate_left
  · (intro w hSw; (try dsimp only at hSw); first | (go_simp; done) | (go_simp; with_reducible rfl))
  simp only [Act.put, List.getElem_toArray, List.getElem_cons_zero, List.getElem_cons_succ, List.setIfInBounds_toArray, List.set_cons_zero, List.set_cons_succ]
  refine wpAnyH_take (i := 4) (v := ?_) rfl (by kernel_rfl) (by kernel_rfl) (by kernel_rfl) (fun _ _ _ h => h) (Or.inl ⟨by rfl, ?_⟩) (by assumption) ?_
  rotate_left
  · (intro w hSw; (try dsimp only at hSw); first | (go_simp; done) | (go_simp; with_reducible rfl))
  simp only [Act.put, List.getElem_toArray, List.getElem_cons_zero, List.getElem_cons_succ, List.setIfInBounds_toArray, List.set_cons_zero, List.set_cons_succ]
  refine wpAnyH_take (i := 5) (v := ?_) rfl (by kernel_rfl) (by kernel_rfl) (by kernel_rfl) (fun _ _ _ h => h) (Or.inl ⟨by rfl, ?_⟩) (by assumption) ?_
  rotate_left
  · (intro w hSw; (try dsimp only at hSw); first | (go_simp; done) | (go_simp; with_reducible rfl))
  simp only [Act.put, List.getElem_toArray, List.getElem_cons_zero, List.getElem_cons_succ, List.setIfInBounds_toArray, List.set_cons_zero, List.set_cons_succ]
  refine wpAnyH_take (i := 6) (v := ?_) rfl (by kernel_rfl) (by kernel_rfl) (by kernel_rfl) (fun _ _ _ h => h) (Or.inl ⟨by rfl, ?_⟩) (by assumption) ?_
  rotate_left
  · (intro w hSw; (try dsimp only at hSw); first | (go_simp; done) | (go_simp; with_reducible rfl))
  simp only [Act.put, List.getElem_toArray, List.getElem_cons_zero, List.getElem_cons_succ, List.setIfInBounds_toArray, List.set_cons_zero, List.set_cons_succ]
  refine wpAnyH_take (i := 7) (v := ?_) rfl (by kernel_rfl) (by kernel_rfl) (by kernel_rfl) (fun _ _ _ h => h) (Or.inl ⟨by rfl, ?_⟩) (by assumption) ?_
  rotate_left
  · (intro w hSw; (try dsimp only at hSw); first | (go_simp; done) | (go_simp; with_reducible rfl))
  simp only [Act.put, List.getElem_toArray, List.getElem_cons_zero, List.getElem_cons_succ, List.setIfInBounds_toArray, List.set_cons_zero, List.set_cons_succ]
  refine wpAnyH_done (by kernel_rfl) ?_ _
  clear hHeld LK
  obtain ⟨a1, a2, a3, a4, a5⟩ := KS.out _ MMX.out.drew
  go_wp2_with fail
  refine (SB2.out _ MMX.out.drew).mono ?_
  rintro e w2 ⟨bb, rfl, q, hq⟩
  have M2 := Lib.hid (show Below w1.heap.size w1 w2 from by rw [hq]; exact base.below_drewN MMX.out.drew q)
  clear a1 a2 a3 a4 a5 SB2 hq
  go_wp2_with fail
  refine (IN.out _ M2.out).mono ?_
  rintro e w6' ⟨rfl, own6, chg6⟩
  -- a region that draws follows: its first step is a draw
  obtain ⟨n', hn'⟩ : ∃ n', n' = l'.length := ⟨_, rfl⟩
  have O6 := Lib.hid (show OwnI w6'.drew B (.slice (some ⟨gv, 0, none⟩) l'.length cv) l' from own6.below (Below.refl _ w6').drew)
  have C6 := Lib.hid (show Only (fun k => k = gv) w2 w6'.drew from Only.drewN chg6 1)
  have g6 := Lib.hid (GB.out _ w6'.drew M2.out C6.out)
  clear own6 chg6 IN
  by_cases hz : l' = []
  · have hn0 : l'.length = 0 := by rw [hz]; rfl
    obtain ⟨w7, hrun, h7, o7⟩ := DEL.out _ _ M2.out C6.out hz 0
    have c7 := Lib.hid (GC.out _ (GM.out _ _ o7 g6.out))
    have g7 := Lib.hid (FIN.out _ _ _ M2.out C6.out (o7))
    have H7 := Lib.hid h7
    have HR := Lib.hid hrun
    clear hrun h7 o7 PUT DEL FIN GB GM O6 C6
    go_wp2_with fail
    refine wp_region_held_drew (S := fun ws => ws.cell? ⟨g, 1, none⟩ = some (.map (some m)) ∧ ws.cell? ⟨w.heap.size, 0, none⟩ = some (.int .i64 x0) ∧ ws.cell? ⟨w.heap.size, 3, none⟩ = some (.int .i64 x3) ∧ ws.cell? ⟨w.heap.size, 4, none⟩ = some (.int .i64 x4) ∧ ws.cell? ⟨w.heap.size, 5, none⟩ = some (.int .i64 x5)) (by kernel_rfl) (GC.out _ g6.out) (fun hHeld => ?_)
    refine wpAnyH_take (i := 0) (v := ?_) rfl (by kernel_rfl) (by kernel_rfl) (by kernel_rfl) (fun _ _ _ h => h) (Or.inl ⟨by rfl, ?_⟩) (by assumption) ?_
    rotate_left
    · (intro w hSw; (try dsimp only at hSw); first | (go_simp; done) | (go_simp; with_reducible rfl))
    simp only [Act.put, List.getElem_toArray, List.getElem_cons_zero, List.getElem_cons_succ, List.setIfInBounds_toArray, List.set_cons_zero, List.set_cons_succ]
    refine wpAnyH_take (i := 1) (v := ?_) rfl (by kernel_rfl) (by kernel_rfl) (by kernel_rfl) (fun _ _ _ h => h) (Or.inl ⟨by rfl, ?_⟩) (by assumption) ?_
    rotate_left
    · (intro w hSw; (try dsimp only at hSw); first | (go_simp; done) | (go_simp; with_reducible rfl))
    simp only [Act.put, List.getElem_toArray, List.getElem_cons_zero, List.getElem_cons_succ, List.setIfInBounds_toArray, List.set_cons_zero, List.set_cons_succ]
    refine wpAnyH_take (i := 2) (v := ?_) rfl (by kernel_rfl) (by kernel_rfl) (by kernel_rfl) (fun _ _ _ h => h) (Or.inl ⟨by rfl, ?_⟩) (by assumption) ?_
    rotate_left
    · (intro w hSw; (try dsimp only at hSw); first | (go_simp; done) | (go_simp; with_reducible rfl))
    simp only [Act.put, List.getElem_toArray, List.getElem_cons_zero, List.getElem_cons_succ, List.setIfInBounds_toArray, List.set_cons_zero, List.set_cons_succ]
    refine wpAnyH_take (i := 3) (v := ?_) rfl (by kernel_rfl) (by kernel_rfl) (by kernel_rfl) (fun _ _ _ h => h) (Or.inl ⟨by rfl, ?_⟩) (by assumption) ?_
    rotate_left
    · (intro w hSw; (try dsimp only at hSw); first | (go_simp; done) | (go_simp; with_reducible rfl))
    simp only [Act.put, List.getElem_toArray, List.getElem_cons_zero, List.getElem_cons_succ, List.setIfInBounds_toArray, List.set_cons_zero, List.set_cons_succ]
    refine wpAnyH_take (i := 4) (v := ?_) rfl (by kernel_rfl) (by kernel_rfl) (by kernel_rfl) (fun _ _ _ h => h) (Or.inl ⟨by rfl, ?_⟩) (by assumption) ?_
    rotate_left
    · (intro w hSw; (try dsimp only at hSw); first | (go_simp; done) | (go_simp; with_reducible rfl))
    simp only [Act.put, List.getElem_toArray, List.getElem_cons_zero, List.getElem_cons_succ, List.setIfInBounds_toArray, List.set_cons_zero, List.set_cons_succ]
    refine wpAnyH_take (i := 5) (v := ?_) rfl (by kernel_rfl) (by kernel_rfl) (by kernel_rfl) (fun _ _ _ h => h) (Or.inl ⟨by rfl, ?_⟩) (by assumption) ?_
    rotate_left
    · (intro w hSw; (try dsimp only at hSw); first | (go_simp; done) | (go_simp; with_reducible rfl))
    simp only [Act.put, List.getElem_toArray, List.getElem_cons_zero, List.getElem_cons_succ, List.setIfInBounds_toArray, List.set_cons_zero, List.set_cons_succ]
    have hrun := HR.out
    dsimp only [pc, pv] at hrun
    refine wpAnyH_ready (rs := [6]) (by kernel_rfl) (by simp) ?_
    refine AllReadyH.cons rfl (fun K hK => ?_) AllReadyH.nil
    go_simp
    refine hK.out _ _ c7.out (fun hH3 => ?_)
    clear hK K hHeld hrun HR
    refine wpAnyH_done (by kernel_rfl) ?_ _
    clear hH3
    go_wp2_with fail
    exact bodyPost_ret (results_none rfl _ _ _) rfl ⟨rfl, H7.out, g7.out⟩
  · have hn0 : 0 < l'.length := List.length_pos_iff.2 hz
    obtain ⟨k, hk⟩ : ∃ k, l'.length = k + 1 := ⟨l'.length - 1, by omega⟩
    obtain ⟨w7, hrun, h7, o7⟩ := PUT.out _ _ M2.out O6.out C6.out hz
    have c7 := Lib.hid (GC.out _ (GM.out _ _ o7 g6.out))
    have g7 := Lib.hid (FIN.out _ _ _ M2.out C6.out (o7))
    have H7 := Lib.hid h7
    have HR := Lib.hid hrun
    clear hrun h7 o7 PUT DEL FIN GB GM O6 C6
    go_wp2_with fail
    refine wp_region_held_drew (S := fun ws => ws.cell? ⟨g, 1, none⟩ = some (.map (some m)) ∧ ws.cell? ⟨w.heap.size, 0, none⟩ = some (.int .i64 x0) ∧ ws.cell? ⟨w.heap.size, 3, none⟩ = some (.int .i64 x3) ∧ ws.cell? ⟨w.heap.size, 4, none⟩ = some (.int .i64 x4) ∧ ws.cell? ⟨w.heap.size, 5, none⟩ = some (.int .i64 x5)) (by kernel_rfl) (GC.out _ g6.out) (fun hHeld => ?_)
    refine wpAnyH_take (i := 0) (v := ?_) rfl (by kernel_rfl) (by kernel_rfl) (by kernel_rfl) (fun _ _ _ h => h) (Or.inl ⟨by rfl, ?_⟩) (by assumption) ?_
    rotate_left
    · (intro w hSw; (try dsimp only at hSw); first | (go_simp; done) | (go_simp; with_reducible rfl))
    simp only [Act.put, List.getElem_toArray, List.getElem_cons_zero, List.getElem_cons_succ, List.setIfInBounds_toArray, List.set_cons_zero, List.set_cons_succ]
    refine wpAnyH_take (i := 1) (v := ?_) rfl (by kernel_rfl) (by kernel_rfl) (by kernel_rfl) (fun _ _ _ h => h) (Or.inl ⟨by rfl, ?_⟩) (by assumption) ?_
    rotate_left
    · (intro w hSw; (try dsimp only at hSw); first | (go_simp; done) | (go_simp; with_reducible rfl))
    simp only [Act.put, List.getElem_toArray, List.getElem_cons_zero, List.getElem_cons_succ, List.setIfInBounds_toArray, List.set_cons_zero, List.set_cons_succ]
    refine wpAnyH_take (i := 2) (v := ?_) rfl (by kernel_rfl) (by kernel_rfl) (by kernel_rfl) (fun _ _ _ h => h) (Or.inl ⟨by rfl, ?_⟩) (by assumption) ?_
    rotate_left
    · (intro w hSw; (try dsimp only at hSw); first | (go_simp; done) | (go_simp; with_reducible rfl))
    simp only [Act.put, List.getElem_toArray, List.getElem_cons_zero, List.getElem_cons_succ, List.setIfInBounds_toArray, List.set_cons_zero, List.set_cons_succ]
    refine wpAnyH_take (i := 3) (v := ?_) rfl (by kernel_rfl) (by kernel_rfl) (by kernel_rfl) (fun _ _ _ h => h) (Or.inl ⟨by rfl, ?_⟩) (by assumption) ?_
    rotate_left
    · (intro w hSw; (try dsimp only at hSw); first | (go_simp; done) | (go_simp; with_reducible rfl))
    simp only [Act.put, List.getElem_toArray, List.getElem_cons_zero, List.getElem_cons_succ, List.setIfInBounds_toArray, List.set_cons_zero, List.set_cons_succ]
    refine wpAnyH_take (i := 4) (v := ?_) rfl (by kernel_rfl) (by kernel_rfl) (by kernel_rfl) (fun _ _ _ h => h) (Or.inl ⟨by rfl, ?_⟩) (by assumption) ?_
    rotate_left
    · (intro w hSw; (try dsimp only at hSw); first | (go_simp; done) | (go_simp; with_reducible rfl))
    simp only [Act.put, List.getElem_toArray, List.getElem_cons_zero, List.getElem_cons_succ, List.setIfInBounds_toArray, List.set_cons_zero, List.set_cons_succ]
    refine wpAnyH_take (i := 5) (v := ?_) rfl (by kernel_rfl) (by kernel_rfl) (by kernel_rfl) (fun _ _ _ h => h) (Or.inl ⟨by rfl, ?_⟩) (by assumption) ?_
    rotate_left
    · (intro w hSw; (try dsimp only at hSw); first | (go_simp; done) | (go_simp; with_reducible rfl))
    simp only [Act.put, List.getElem_toArray, List.getElem_cons_zero, List.getElem_cons_succ, List.setIfInBounds_toArray, List.set_cons_zero, List.set_cons_succ]
    refine wpAnyH_take (i := 6) (v := ?_) rfl (by kernel_rfl) (by kernel_rfl) (by kernel_rfl) (fun _ _ _ h => h) (Or.inl ⟨by rfl, ?_⟩) (by assumption) ?_
    rotate_left
    · (intro w hSw; (try dsimp only at hSw); first | (go_simp; done) | (go_simp; with_reducible rfl))
    simp only [Act.put, List.getElem_toArray, List.getElem_cons_zero, List.getElem_cons_succ, List.setIfInBounds_toArray, List.set_cons_zero, List.set_cons_succ]
    have hrun := HR.out
    dsimp only [pc, pv] at hrun
    rw [hk] at hrun
    refine wpAnyH_ready (rs := [7]) (by kernel_rfl) (by simp) ?_
    refine AllReadyH.cons rfl (fun K hK => ?_) AllReadyH.nil
    go_simp
    refine hK.out _ _ c7.out (fun hH3 => ?_)
    clear hK K hHeld hrun HR
    refine wpAnyH_done (by kernel_rfl) ?_ _
    clear hH3
    go_wp2_with fail
    exact bodyPost_ret (results_none rfl _ _ _) rfl ⟨rfl, H7.out, g7.out⟩
end Go.Proofs.Ytckdfdnhoionnaa.tg
