/-
  Contracts of package thing: one is laid into the map by places, or taken out of it.
-/
import Derived.Test.YtckdfdnhoionnaaTgB
namespace Go.Proofs.Ytckdfdnhoionnaa.tg
open Go.RowKit
open Go.Maps (Keyed)
open base (ret_bool ret_int made up Blk Only)
open rk mk il nm
set_option linter.unusedVariables false
set_option linter.unusedSimpArgs false
variable {B g m K : Nat} {w w1 w2 w5 w' : World} {M M' : List Th} {f : Lit → Option Value} {V : Pc → Value} {c : Nat}

/-- of what there was only the map, and rows of ints, may have turned -/
def MC (B m : Nat) (w w' : World) : Prop := Only (fun k => k = m ∨ B ≤ k ∧ ∃ cs, Blk w k 3 cs) w w'
def EntP (B m : Nat) (M' : List Th) (K : Nat) (w : World) (e : Ending) (w' : World) : Prop := e = .returned (.tuple #[]) ∧ MAt w' B m M' K ∧ MC B m w w'
theorem row_mc {v : Value} {l : List Int} (hv : OwnI w B v l) (h : Only (fun k => v.ownBlock = some k) w w1) : MC B m w w1 := Only.mono h (fun i hi e => by
  obtain ⟨h1, h2, cs, h3⟩ := hv.lt' i e
  exact .inr ⟨h1, cs, h3⟩)
theorem MC.step (h : MC B m w w1) (k : Below w1.heap.size w1 w2) : MC B m w w2 := Only.below h k (fun i h1 h2 => by have := Only.size h; omega)
theorem MC.of_below (h : Below w.heap.size w w1) : MC B m w w1 := (Only.refl _ w).below h (fun i h1 h2 => by omega)
theorem MC.then_ (h : Below w.heap.size w w1) (k : MC B m w1 w2) : MC B m w w2 := by
  refine ⟨k.os.trans h.os, k.tape.trans h.tape, k.output.trans h.output, Nat.le_trans h.size k.size, fun i hi hn => ?_⟩
  have h1 := h.block i hi
  refine (k.block i (Nat.lt_of_lt_of_le hi h.size) (fun q => hn ?_)).trans h1
  rcases q with q | ⟨q, cs, hb⟩
  · exact .inl q
  · exact .inr ⟨q, cs, h1.symm.trans hb⟩
theorem MC.map (h : MC B m w w1) (k : Only (fun j => j = m) w1 w2) : MC B m w w2 := Only.trans h k (fun i _ e => .inl e)
theorem mc_row {v : Value} {l : List Int} (hv : OwnI w B v l) (h : Below w.heap.size w w1) (k : Only (fun j => v.ownBlock = some j) w1 w2) : MC B m w w2 := MC.then_ h (row_mc (hv.below h) k)

set_option maxRecDepth 100000 in
set_option maxHeartbeats 4000000 in
theorem enter_any (x : Th) (v0 n0 : Value) (hg : Blk w g 68 #[v0, .map (some m), n0]) (H : MAt w B m M K) (hp : wp (pc x)) (hr : (ids M (pc x)).Pairwise (· < ·))
    (hM : ∀ q, ids M' q = if q = pc x then ins (ids M (pc x)) (pl (ids M (pc x)) x.id) x.id else ids M q) (hl : M.length ≤ 100000) (hK : K ≤ 100000) (hB : B ≤ w.heap.size) :
    Calls Try.prog 42 #[.pointer (some ⟨g, 0, none⟩), tv x] w (EntP B m M' (K + 1) w) := by
  obtain ⟨f, V, c, H, hc⟩ := H
  have hrow := H.row_own hp
  have hll := Nat.le_trans (ids_len M (pc x)) hl
  have hm := made w (.cells #[.int .i64 x.id, .string x.nm, .int .i64 x.ow, .int .i64 x.kd, .int .i64 x.hs, .int .i64 x.sl] 46)
  have bx : Blk (w.alloc (.cells #[.int .i64 x.id, .string x.nm, .int .i64 x.ow, .int .i64 x.kd, .int .i64 x.hs, .int .i64 x.sl] 46)) w.heap.size 46 #[.int .i64 x.id, .string x.nm, .int .i64 x.ow, .int .i64 x.kd, .int .i64 x.hs, .int .i64 x.sl] := Blk.new _ _ _
  have hs1 := asz w (.cells #[.int .i64 x.id, .string x.nm, .int .i64 x.ow, .int .i64 x.kd, .int .i64 x.hs, .int .i64 x.sl] 46)
  have H1 := H.below hm
  have g1 := hg.below hm hg.lt
  have r1 := hrow.below hm
  generalize hw1 : w.alloc (.cells #[.int .i64 x.id, .string x.nm, .int .i64 x.ow, .int .i64 x.kd, .int .i64 x.hs, .int .i64 x.sl] 46) = w1 at *
  -- what stands in whatever world that keeps what lay in w1
  have KS := Lib.hid (fun ws (h : Below w1.heap.size w1 ws) => (show ws.cell? ⟨g, 1, none⟩ = some (.map (some m)) ∧ ws.cell? ⟨w.heap.size, 0, none⟩ = some (.int .i64 x.id) ∧ ws.cell? ⟨w.heap.size, 3, none⟩ = some (.int .i64 x.kd) ∧ ws.cell? ⟨w.heap.size, 4, none⟩ = some (.int .i64 x.hs) ∧ ws.cell? ⟨w.heap.size, 5, none⟩ = some (.int .i64 x.sl) from
    ⟨(g1.below h g1.lt).cell 1, (bx.below h bx.lt).cell 0, (bx.below h bx.lt).cell 3, (bx.below h bx.lt).cell 4, (bx.below h bx.lt).cell 5⟩))
  have LK := Lib.hid (fun ws (h : Below w1.heap.size w1 ws) => (H1.below h).look hp)
  have SB := Lib.hid (fun ws (h : Below w1.heap.size w1 ws) => search_both B (row M V (pc x)) (ids M (pc x)) x.id ws (r1.below h) hr hll)
  have IN := Lib.hid (fun ws (h : Below w1.heap.size w1 ws) => (show Calls Try.prog 54 #[row M V (pc x), .int .i64 (pl (ids M (pc x)) x.id : Nat), .slice (some ⟨ws.heap.size, 0, none⟩) 1 1] (ws.alloc (.cells #[.int .i64 x.id] 3)) (InsP B (row M V (pc x)) (ins (ids M (pc x)) (pl (ids M (pc x)) x.id) x.id) (ws.alloc (.cells #[.int .i64 x.id] 3))) from
    insert_any B ws.heap.size _ _ _ x.id _ ((r1.below h).below (made ws _)) (Blk.new _ _ _) (fun e => by have := ((r1.below h).lt' _ e).2.1; omega) (pl_le _ _) hll (by rw [asz]; have := h.size; omega)))
  have PUT := Lib.hid (fun ws w6 v6 (h : Below w1.heap.size w1 ws) (ho : OwnI w6 B v6 (ins (ids M (pc x)) (pl (ids M (pc x)) x.id) x.id)) (hc6 : il.Chg ws w6 (row M V (pc x)) v6) => 
    (H1.below h).put (M' := M') hp hc6.only ho hc6.at_ (fun q => by rw [hM q]) (by unfold ins; simp) hc hK)
  have hgm : g ≠ m := fun e => by
    obtain ⟨es, cl, ho⟩ := map_obj H.map
    unfold Blk at hg
    rw [e, ho] at hg
    cases hg
  have hxm : w.heap.size ≠ m := by have := H.map.lt; omega
  have GB := Lib.hid (fun ws w6 v6 (h : Below w1.heap.size w1 ws) (hc6 : il.Chg ws w6 (row M V (pc x)) v6) => (show Blk w6 g 68 #[v0, .map (some m), n0] ∧ Blk w6 w.heap.size 46 #[.int .i64 x.id, .string x.nm, .int .i64 x.ow, .int .i64 x.kd, .int .i64 x.hs, .int .i64 x.sl] from
    ⟨(g1.below h g1.lt).only hc6.only (fun e => own_blk_ne (r1.below h) (g1.below h g1.lt) (by decide) _ e rfl), (bx.below h bx.lt).only hc6.only (fun e => own_blk_ne (r1.below h) (bx.below h bx.lt) (by decide) _ e rfl)⟩))
  have GC := Lib.hid (fun ws (k : Blk ws g 68 #[v0, .map (some m), n0] ∧ Blk ws w.heap.size 46 #[.int .i64 x.id, .string x.nm, .int .i64 x.ow, .int .i64 x.kd, .int .i64 x.hs, .int .i64 x.sl]) => (show ws.cell? ⟨g, 1, none⟩ = some (.map (some m)) ∧ ws.cell? ⟨w.heap.size, 0, none⟩ = some (.int .i64 x.id) ∧ ws.cell? ⟨w.heap.size, 3, none⟩ = some (.int .i64 x.kd) ∧ ws.cell? ⟨w.heap.size, 4, none⟩ = some (.int .i64 x.hs) ∧ ws.cell? ⟨w.heap.size, 5, none⟩ = some (.int .i64 x.sl) from
    ⟨k.1.cell 1, k.2.cell 0, k.2.cell 3, k.2.cell 4, k.2.cell 5⟩))
  have GM := Lib.hid (fun w6 w7 (h7 : Only (fun j => j = m) w6 w7) (k : Blk w6 g 68 #[v0, .map (some m), n0] ∧ Blk w6 w.heap.size 46 #[.int .i64 x.id, .string x.nm, .int .i64 x.ow, .int .i64 x.kd, .int .i64 x.hs, .int .i64 x.sl]) => And.intro (k.1.only h7 hgm) (k.2.only h7 hxm))
  have FIN := Lib.hid (fun ws w6 w7 v6 (h : Below w1.heap.size w1 ws) (hc6 : il.Chg ws w6 (row M V (pc x)) v6) (h7 : Only (fun j => j = m) w6 w7) => (show MC B m w w7 from
    (mc_row hrow (up hm h hm.size) hc6.only).map h7))
  obtain ⟨v, hv⟩ : ∃ v, v = row M V (pc x) := ⟨_, rfl⟩
  rw [← hv] at LK SB IN PUT GB FIN
  obtain ⟨i, hi⟩ : ∃ i, i = pl (ids M (pc x)) x.id := ⟨_, rfl⟩
  have SB2 := Lib.hid (fun ws (h : Below w1.heap.size w1 ws) => (SB.out ws h).mono (fun e w' (he : SeaP _ _ _ _ _) => (show ∃ b, e = .returned (.tuple #[.int .i64 (i : Nat), .bool b]) ∧ ∃ q, w' = ws.drewN q from by rw [hi]; exact he)))
  rw [← hi] at IN PUT
  obtain ⟨l', hl'⟩ : ∃ l', l' = ins (ids M (pc x)) i x.id := ⟨_, rfl⟩
  rw [← hl'] at IN PUT
  have MMX := Lib.hid (Below.refl w1.heap.size w1)
  obtain ⟨x0, x1, x2, x3, x4, x5⟩ := x
  simp only [pc] at LK
  dsimp only at KS LK SB2 IN PUT GB GC GM FIN hw1 ⊢
  clear hgm hxm hv hi hl' SB hrow hll hm bx hs1 H1 g1 r1 H hc hr hM hg
  go_enter Try.func42, Try.ntmps42
  go_wp2_with (rw [hw1])
  clear hw1
  refine wp_region_held_drew (S := fun ws => (ws.cell? ⟨g, 1, none⟩ = some (.map (some m)) ∧ ws.cell? ⟨w.heap.size, 0, none⟩ = some (.int .i64 x0) ∧ ws.cell? ⟨w.heap.size, 3, none⟩ = some (.int .i64 x3) ∧ ws.cell? ⟨w.heap.size, 4, none⟩ = some (.int .i64 x4) ∧ ws.cell? ⟨w.heap.size, 5, none⟩ = some (.int .i64 x5)) ∧ (Instr.lookup 66 (.map (some m)) (.agg #[.int .i64 x3, .int .i64 x4, .int .i64 x5]) false).run Try.prog ws = .ok v ws) (by kernel_rfl) ⟨KS.out _ MMX.out.drew, LK.out _ MMX.out.drew⟩ (fun hHeld => ?_)
  refine wpAnyH_take (i := 0) (v := ?_) rfl (by kernel_rfl) (by kernel_rfl) (by kernel_rfl) (fun _ _ _ h => h) (Or.inl ⟨by rfl, ?_⟩) (by assumption) ?_
  rotate_left
  · (intro w hSw; (try dsimp only at hSw); first | (go_simp; done) | (go_simp; with_reducible rfl))
  simp only [Act.put, List.getElem_toArray, List.getElem_cons_zero, List.getElem_cons_succ, List.setIfInBounds_toArray, List.set_cons_zero, List.set_cons_succ]
  refine wpAnyH_take (i := 1) (v := ?_) rfl (by kernel_rfl) (by kernel_rfl) (by kernel_rfl) (fun _ _ _ h => h) (Or.inl ⟨by rfl, ?_⟩) (by assumption) ?_
  rotate_left
  · (intro w hSw; (try dsimp only at hSw); first | (go_simp; done) | (go_simp; with_reducible rfl))
  simp only [Act.put, List.getElem_toArray, List.getElem_cons_zero, List.getElem_cons_succ, List.setIfInBounds_toArray, List.set_cons_zero, List.set_cons_succ]
  refine wpAnyH_take (i := 2) (v := ?_) rfl (by kernel_rfl) (by kernel_rfl) (by kernel_rfl) (fun _ _ _ h => h) (Or.inl ⟨by rfl, ?_⟩) (by assumption) ?_
  rotate_left
  · (intro w hSw; (try dsimp only at hSw); first | (go_simp; done) | (go_simp; with_reducible rfl))
  simp only [Act.put, List.getElem_toArray, List.getElem_cons_zero, List.getElem_cons_succ, List.setIfInBounds_toArray, List.set_cons_zero, List.set_cons_succ]
  refine wpAnyH_take (i := 3) (v := ?_) rfl (by kernel_rfl) (by kernel_rfl) (by kernel_rfl) (fun _ _ _ h => h) (Or.inl ⟨by rfl, ?_⟩) (by assumption) ?_
  rotate_left
  · (intro w hSw; (try dsimp only at hSw); first | (go_simp; done) | (go_simp; with_reducible rfl))
  simp only [Act.put, List.getElem_toArray, List.getElem_cons_zero, List.getElem_cons_succ, List.setIfInBounds_toArray, List.set_cons_zero, List.set_cons_succ]
  refine wpAnyH_take (i := 4) (v := ?_) rfl (by kernel_rfl) (by kernel_rfl) (by kernel_rfl) (fun _ _ _ h => h) (Or.inl ⟨by rfl, ?_⟩) (by assumption) ?_
  rotate_left
  · (intro w hSw; (try dsimp only at hSw); first | (go_simp; done) | (go_simp; with_reducible rfl))
  simp only [Act.put, List.getElem_toArray, List.getElem_cons_zero, List.getElem_cons_succ, List.setIfInBounds_toArray, List.set_cons_zero, List.set_cons_succ]
  refine wpAnyH_take (i := 5) (v := ?_) rfl (by kernel_rfl) (by kernel_rfl) (by kernel_rfl) (fun _ _ _ h => h) (Or.inl ⟨by rfl, ?_⟩) (by assumption) ?_
  rotate_left
  · (intro w hSw; (try dsimp only at hSw); first | (go_simp; done) | (go_simp; with_reducible rfl))
  simp only [Act.put, List.getElem_toArray, List.getElem_cons_zero, List.getElem_cons_succ, List.setIfInBounds_toArray, List.set_cons_zero, List.set_cons_succ]
  refine wpAnyH_take (i := 6) (v := ?_) rfl (by kernel_rfl) (by kernel_rfl) (by kernel_rfl) (fun _ _ _ h => h) (Or.inl ⟨by rfl, ?_⟩) (by assumption) ?_
  rotate_left
  · (intro w hSw; (try dsimp only at hSw); first | (go_simp; done) | (go_simp; with_reducible rfl))
  simp only [Act.put, List.getElem_toArray, List.getElem_cons_zero, List.getElem_cons_succ, List.setIfInBounds_toArray, List.set_cons_zero, List.set_cons_succ]
  refine wpAnyH_take (i := 7) (v := ?_) rfl (by kernel_rfl) (by kernel_rfl) (by kernel_rfl) (fun _ _ _ h => h) (Or.inl ⟨by rfl, ?_⟩) (by assumption) ?_
  rotate_left
  · (intro w hSw; (try dsimp only at hSw); first | (go_simp; done) | (go_simp; with_reducible rfl))
  simp only [Act.put, List.getElem_toArray, List.getElem_cons_zero, List.getElem_cons_succ, List.setIfInBounds_toArray, List.set_cons_zero, List.set_cons_succ]
  refine wpAnyH_done (by kernel_rfl) ?_ _
  clear hHeld LK
  obtain ⟨a1, a2, a3, a4, a5⟩ := KS.out _ MMX.out.drew
  go_wp2_with fail
  refine (SB2.out _ MMX.out.drew).mono ?_
  rintro e w2 ⟨bb, rfl, q, hq⟩
  have M2 := Lib.hid (show Below w1.heap.size w1 w2 from by rw [hq]; exact base.below_drewN MMX.out.drew q)
  clear a1 a2 a3 a4 a5 SB2 hq
  go_wp2_with fail
  have M3 := Lib.hid M2.out.drew
  refine wp_region_held_drew (S := fun ws => ws.cell? ⟨g, 1, none⟩ = some (.map (some m)) ∧ ws.cell? ⟨w.heap.size, 0, none⟩ = some (.int .i64 x0) ∧ ws.cell? ⟨w.heap.size, 3, none⟩ = some (.int .i64 x3) ∧ ws.cell? ⟨w.heap.size, 4, none⟩ = some (.int .i64 x4) ∧ ws.cell? ⟨w.heap.size, 5, none⟩ = some (.int .i64 x5)) (by kernel_rfl) (KS.out _ M3.out) (fun hHeld => ?_)
  refine wpAnyH_take (i := 0) (v := ?_) rfl (by kernel_rfl) (by kernel_rfl) (by kernel_rfl) (fun _ _ _ h => h) (Or.inl ⟨by rfl, ?_⟩) (by assumption) ?_
  rotate_left
  · (intro w hSw; (try dsimp only at hSw); first | (go_simp; done) | (go_simp; with_reducible rfl))
  simp only [Act.put, List.getElem_toArray, List.getElem_cons_zero, List.getElem_cons_succ, List.setIfInBounds_toArray, List.set_cons_zero, List.set_cons_succ]
  refine wpAnyH_take (i := 1) (v := ?_) rfl (by kernel_rfl) (by kernel_rfl) (by kernel_rfl) (fun _ _ _ h => h) (Or.inl ⟨by rfl, ?_⟩) (by assumption) ?_
  rotate_left
  · (intro w hSw; (try dsimp only at hSw); first | (go_simp; done) | (go_simp; with_reducible rfl))
  simp only [Act.put, List.getElem_toArray, List.getElem_cons_zero, List.getElem_cons_succ, List.setIfInBounds_toArray, List.set_cons_zero, List.set_cons_succ]
  refine wpAnyH_take (i := 2) (v := ?_) rfl (by kernel_rfl) (by kernel_rfl) (by kernel_rfl) (fun _ _ _ h => h) (Or.inl ⟨by rfl, ?_⟩) (by assumption) ?_
  rotate_left
  · (intro w hSw; (try dsimp only at hSw); first | (go_simp; done) | (go_simp; with_reducible rfl))
  simp only [Act.put, List.getElem_toArray, List.getElem_cons_zero, List.getElem_cons_succ, List.setIfInBounds_toArray, List.set_cons_zero, List.set_cons_succ]
  refine wpAnyH_take (i := 3) (v := ?_) rfl (by kernel_rfl) (by kernel_rfl) (by kernel_rfl) (fun _ _ _ h => h) (Or.inl ⟨by rfl, ?_⟩) (by assumption) ?_
  rotate_left
  · (intro w hSw; (try dsimp only at hSw); first | (go_simp; done) | (go_simp; with_reducible rfl))
  simp only [Act.put, List.getElem_toArray, List.getElem_cons_zero, List.getElem_cons_succ, List.setIfInBounds_toArray, List.set_cons_zero, List.set_cons_succ]
  refine wpAnyH_take (i := 4) (v := ?_) rfl (by kernel_rfl) (by kernel_rfl) (by kernel_rfl) (fun _ _ _ h => h) (Or.inl ⟨by rfl, ?_⟩) (by assumption) ?_
  rotate_left
  · (intro w hSw; (try dsimp only at hSw); first | (go_simp; done) | (go_simp; with_reducible rfl))
  simp only [Act.put, List.getElem_toArray, List.getElem_cons_zero, List.getElem_cons_succ, List.setIfInBounds_toArray, List.set_cons_zero, List.set_cons_succ]
  refine wpAnyH_take (i := 5) (v := ?_) rfl (by kernel_rfl) (by kernel_rfl) (by kernel_rfl) (fun _ _ _ h => h) (Or.inl ⟨by rfl, ?_⟩) (by assumption) ?_
  rotate_left
  · (intro w hSw; (try dsimp only at hSw); first | (go_simp; done) | (go_simp; with_reducible rfl))
  simp only [Act.put, List.getElem_toArray, List.getElem_cons_zero, List.getElem_cons_succ, List.setIfInBounds_toArray, List.set_cons_zero, List.set_cons_succ]
  refine wpAnyH_take (i := 6) (v := ?_) rfl (by kernel_rfl) (by kernel_rfl) (by kernel_rfl) (fun _ _ _ h => h) (Or.inl ⟨by rfl, ?_⟩) (by assumption) ?_
  rotate_left
  · (intro w hSw; (try dsimp only at hSw); first | (go_simp; done) | (go_simp; with_reducible rfl))
  simp only [Act.put, List.getElem_toArray, List.getElem_cons_zero, List.getElem_cons_succ, List.setIfInBounds_toArray, List.set_cons_zero, List.set_cons_succ]
  refine wpAnyH_take (i := 7) (v := ?_) rfl (by kernel_rfl) (by kernel_rfl) (by kernel_rfl) (fun _ _ _ h => h) (Or.inl ⟨by rfl, ?_⟩) (by assumption) ?_
  rotate_left
  · (intro w hSw; (try dsimp only at hSw); first | (go_simp; done) | (go_simp; with_reducible rfl))
  simp only [Act.put, List.getElem_toArray, List.getElem_cons_zero, List.getElem_cons_succ, List.setIfInBounds_toArray, List.set_cons_zero, List.set_cons_succ]
  refine wpAnyH_take (i := 8) (v := ?_) rfl (by kernel_rfl) (by kernel_rfl) (by kernel_rfl) (fun _ _ _ h => h) (Or.inl ⟨by rfl, ?_⟩) (by assumption) ?_
  rotate_left
  · (intro w hSw; (try dsimp only at hSw); first | (go_simp; done) | (go_simp; with_reducible rfl))
  simp only [Act.put, List.getElem_toArray, List.getElem_cons_zero, List.getElem_cons_succ, List.setIfInBounds_toArray, List.set_cons_zero, List.set_cons_succ]
  refine wpAnyH_take (i := 9) (v := ?_) rfl (by kernel_rfl) (by kernel_rfl) (by kernel_rfl) (fun _ _ _ h => h) (Or.inl ⟨by rfl, ?_⟩) (by assumption) ?_
  rotate_left
  · (intro w hSw; (try dsimp only at hSw); first | (go_simp; done) | (go_simp; with_reducible rfl))
  simp only [Act.put, List.getElem_toArray, List.getElem_cons_zero, List.getElem_cons_succ, List.setIfInBounds_toArray, List.set_cons_zero, List.set_cons_succ]
  generalize w2.drew = w3 at *
  have M4 := Lib.hid (M3.out.alloc M3.out.size (.cells #[.int .i64 x0] 3))
  refine wpAnyH_ready (rs := [10]) (by kernel_rfl) (by simp) ?_
  refine AllReadyH.cons rfl (fun K hK => ?_) AllReadyH.nil
  go_simp
  refine hK.out _ _ (KS.out _ M4.out) (fun hH1 => ?_)
  clear hK K hHeld
  refine wpAnyH_ready (rs := [11]) (by kernel_rfl) (by simp) ?_
  refine AllReadyH.cons rfl (fun K hK => ?_) AllReadyH.nil
  go_simp
  go_wp2_with (go_at_call 54; refine (IN.out _ M3.out).mono ?_; rintro e w6 ⟨v6, rfl, own6, chg6⟩)
  obtain ⟨w7, hrun, h7, o7⟩ := PUT.out _ _ _ M4.out own6 chg6
  have g6 := Lib.hid (GB.out _ _ _ M4.out chg6)
  have c7 := Lib.hid (GC.out _ (GM.out _ _ o7 g6.out))
  have g7 := Lib.hid (FIN.out _ _ _ _ M4.out chg6 o7)
  have H7 := Lib.hid h7
  have HR := Lib.hid hrun
  clear own6 chg6 hrun h7 o7 PUT FIN GB IN GM
  refine hK.out _ _ (GC.out _ g6.out) (fun hH2 => ?_)
  clear hK K hH1
  have hrun := HR.out
  dsimp only [pc, pv] at hrun
  refine wpAnyH_ready (rs := [12]) (by kernel_rfl) (by simp) ?_
  refine AllReadyH.cons rfl (fun K hK => ?_) AllReadyH.nil
  go_simp
  refine hK.out _ _ c7.out (fun hH3 => ?_)
  clear hK K hH2 hrun HR
  refine wpAnyH_done (by kernel_rfl) ?_ _
  clear hH3
  go_wp2_with fail
  exact bodyPost_ret (results_none rfl _ _ _) rfl ⟨rfl, H7.out, g7.out⟩
end Go.Proofs.Ytckdfdnhoionnaa.tg
