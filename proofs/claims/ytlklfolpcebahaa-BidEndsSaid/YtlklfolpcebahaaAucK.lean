/-
  The reference's Open.
-/
import Derived.Test.YtlklfolpcebahaaAucJ
namespace Go.Proofs.Ytlklfolpcebahaa.bb
open Go.RowKit
open base (ret_bool ret_int made up Blk Only Nums)
open rk
set_option linter.unusedVariables false
set_option linter.unusedSimpArgs false

theorem blk2 {w : World} {r : Nat} {t : TypeId} {a0 a1 : Value} (h : Blk w r t #[a0, a1]) (v0 v1 : Value) :
    Blk ((w.setCell ⟨r, 0, none⟩ v0).setCell ⟨r, 1, none⟩ v1) r t #[v0, v1] := by
  have h7 := (h.put 0 v0).put 1 v1
  simp only [List.setIfInBounds_toArray, List.set_cons_zero, List.set_cons_succ] at h7
  exact h7
theorem below2 {B : Nat} {w w' : World} {r : Nat} (h : Below B w w') (hB : B ≤ r) (v0 v1 : Value) :
    Below B w ((w'.setCell ⟨r, 0, none⟩ v0).setCell ⟨r, 1, none⟩ v1) := (h.setCell (p := ⟨r, 0, none⟩) hB _).setCell (p := ⟨r, 1, none⟩) hB _
theorem own2 {w : World} {B r : Nat} {t t' : TypeId} {v : Value} {L : List D} {cs : Array Value} (h : Own E7 w B t v L) (hb : Blk w r t' cs) (ht : t ≠ t') (v0 v1 : Value) : Own E7 ((w.setCell ⟨r, 0, none⟩ v0).setCell ⟨r, 1, none⟩ v1) B t v L := h.keep (fun k hk => by
  obtain ⟨_, _, cs', h1⟩ := h.lt' k hk
  have hne := ty_ne h1 hb ht
  exact (Below.heap_setCell _ ⟨r, 1, none⟩ v1 k hne).trans (Below.heap_setCell _ ⟨r, 0, none⟩ v0 k hne))
theorem erase_snoc (L : List D) (i : Nat) {k : Nat} (hk : k < L.length) : (L.take (k + 1)).eraseIdx i = if k = i then (L.take k).eraseIdx i else (L.take k).eraseIdx i ++ [L[k]] := by
  rw [List.take_succ_eq_append_getElem hk]
  have hl : (L.take k).length = k := by rw [List.length_take]; omega
  by_cases e : k = i
  · subst e
    have e2 : (L.take k).eraseIdx k = L.take k := List.eraseIdx_of_length_le (by omega)
    rw [if_pos rfl, e2, List.eraseIdx_append_of_length_le (by omega), hl, Nat.sub_self]
    exact List.append_nil _
  · rw [if_neg e]
    by_cases q : i < k
    · rw [List.eraseIdx_append_of_lt_length (by omega)]
    · rw [List.eraseIdx_append_of_length_le (by omega), List.eraseIdx_of_length_le (l := L.take k) (by omega), hl]
      congr 1
      rw [List.eraseIdx_of_length_le (by simp; omega)]
def RIP (B : Nat) (r : St × Int × Int) (w : World) (e : Ending) (w' : World) : Prop :=
  ∃ v, e = .returned (.tuple #[.agg #[v, .int .i64 r.1.2], .int .i64 r.2.1, .int .i64 r.2.2]) ∧ Own E7 w' B 52 v r.1.1 ∧ Below w.heap.size w w'
def ROP (B : Nat) (r : St × Int) (w : World) (e : Ending) (w' : World) : Prop :=
  ∃ v, e = .returned (.tuple #[.agg #[v, .int .i64 r.1.2], .int .i64 r.2]) ∧ Own E7 w' B 52 v r.1.1 ∧ Below w.heap.size w w'

set_option maxRecDepth 100000 in
set_option maxHeartbeats 4000000 in
theorem ropen_any (A : Option Addr) (c : Nat) (L : List D) (nx d sl l en : Int) (B : Nat) (w : World) (ho : Own E7 w B 52 (.slice A L.length c) L) (hl : L.length ≤ 100000) (hn : 0 ≤ nx ∧ nx ≤ 4398046511104) (hB : B ≤ w.heap.size) :
    Calls Try.prog 23 #[.agg #[.slice A L.length c, .int .i64 nx], .int .i64 d, .int .i64 sl, .int .i64 l, .int .i64 en] w (RIP B (opn (L, nx) d sl l en) w) := by
  obtain ⟨hn0, hn1⟩ := hn
  have IE := Lib.hid (fun k (h : mayOpen L d sl l en = k) (h0 : k ≠ 0) => opn_err (s := (L, nx)) h h0)
  have IO := Lib.hid (fun (h : mayOpen L d sl l en = 0) => opn_ok (s := (L, nx)) h)
  generalize opn (L, nx) d sl l en = r at *
  have hm1 : Below w.heap.size w (w.alloc (.cells #[.slice A L.length c, .int .i64 nx] 28)) := made w _
  have hm2 : Below w.heap.size w ((w.alloc (.cells #[.slice A L.length c, .int .i64 nx] 28)).alloc (.cells #[.slice none 0 0, .int .i64 0] 28)) := hm1.alloc (by rw [asz]; omega) _
  have bx : Blk ((w.alloc (.cells #[.slice A L.length c, .int .i64 nx] 28)).alloc (.cells #[.slice none 0 0, .int .i64 0] 28)) w.heap.size 28 #[.slice A L.length c, .int .i64 nx] := (Blk.new _ _ _).alloc _
  have br : Blk ((w.alloc (.cells #[.slice A L.length c, .int .i64 nx] 28)).alloc (.cells #[.slice none 0 0, .int .i64 0] 28)) (w.heap.size + 1) 28 #[.slice none 0 0, .int .i64 0] := by
    have := Blk.new (w.alloc (.cells #[.slice A L.length c, .int .i64 nx] 28)) 28 #[.slice none 0 0, .int .i64 0]
    rw [asz] at this
    exact this
  have hs2 : ((w.alloc (.cells #[.slice A L.length c, .int .i64 nx] 28)).alloc (.cells #[.slice none 0 0, .int .i64 0] 28)).heap.size = w.heap.size + 2 := by rw [asz, asz]
  have BX := Lib.hid bx
  have BR := Lib.hid br
  have M := Lib.hid hm2
  have Z2 := Lib.hid hs2
  have HO := Lib.hid (ho.below hm2)
  have HB := Lib.hid hB
  have b0 := bx.cell 0
  have b1 := bx.cell 1
  have r0 := br.cell 0
  have r1 := br.cell 1
  have f0 := br.free 0
  have f1 := br.free 1
  have LAY := Lib.hid (show ∀ ws B', Own E7 ws B' 52 (.slice A L.length c) L → Lay E7 ws A L from fun ws B' h => by
    obtain ⟨A', c', e, h2, _⟩ := h.open_
    injection e with e1 e2 e3
    subst e1
    exact h2)
  have MA := Lib.hid (fun ws (hh : Lay E7 ws A L) => rmay_any A c L nx d sl l en ws hh hl)
  generalize mayOpen L d sl l en = mo at *
  clear ho hB hm1 hm2 bx br hs2
  generalize hw2 : (w.alloc (.cells #[.slice A L.length c, .int .i64 nx] 28)).alloc (.cells #[.slice none 0 0, .int .i64 0] 28) = w2 at *
  by_cases q3 : mo = 0
  · obtain rfl := IO.out q3
    rw [q3] at MA
    clear IE IO q3
    go_enter Try.func23, Try.ntmps23
    go_wp2_with (rw [hw2])
    refine (MA.out _ (LAY.out _ _ HO.out)).mono ?_
    rintro e w4 ⟨rfl, hb4⟩
    have B4 := Lib.hid (up M.out hb4 M.out.size)
    have BX4 := Lib.hid (BX.out.below hb4 BX.out.lt)
    have BR4 := Lib.hid (BR.out.below hb4 BR.out.lt)
    have HO4 := Lib.hid (HO.out.below hb4)
    clear hb4 b0 b1 r0 r1 f0 f1
    have b0 := BX4.out.cell 0
    have b1 := BX4.out.cell 1
    have r0 := BR4.out.cell 0
    have r1 := BR4.out.cell 1
    have f0 := BR4.out.free 0
    have f1 := BR4.out.free 1
    go_wp2_with fail
    clear b0 b1 r0 r1 f0 f1 MA
    go_loopw [14, 15] (fun o i wr => ∃ (k : Nat) (W : World), W = wr ∧ k ≤ L.length ∧ i = .int .i64 k ∧ Own E7 wr w4.heap.size 52 o (L.take k) ∧ Below w4.heap.size w4 wr) (fun _ i _ => L.length - (intOf i).toNat)
    case atStart => exact ⟨0, _, rfl, by omega, rfl, Own.nil _ _ _, Below.refl _ _⟩
    case round =>
      obtain ⟨k, w5, rfl, hk, rfl, hown, hb5⟩ := hrel
      have O5 := Lib.hid hown
      have B5 := Lib.hid hb5
      have b0 := (BX4.out.below hb5 BX4.out.lt).cell 0
      have b1 := (BX4.out.below hb5 BX4.out.lt).cell 1
      by_cases hkl : k < L.length
      · obtain ⟨bb, off, rfl, e0, e1, e2, e3, e4, e5, e6⟩ := lay7 (LAY.out _ _ (HO4.out.below hb5)) hkl
        have TK := Lib.hid (List.take_succ_eq_append_getElem hkl)
        clear hown hb5
        generalize L[k] = d at *
        obtain ⟨d0, d1, d2, d3, d4, d5, d6⟩ := d
        dsimp only at e0 e1 e2 e3 e4 e5 e6
        have O6 := Lib.hid (O5.out.below (made w5 (.cells #[.int .i64 d0, .int .i64 d1, .int .i64 d2, .int .i64 d3, .int .i64 d4, .int .i64 d5, .int .i64 d6] 52)))
        have LY := Lib.hid (Lay.lit (E := E7) (w5.alloc (.cells #[.int .i64 d0, .int .i64 d1, .int .i64 d2, .int .i64 d3, .int .i64 d4, .int .i64 d5, .int .i64 d6] 52)) (d0, d1, d2, d3, d4, d5, d6) 52 w5.heap.size (Blk.new _ _ _))
        have B6 := Lib.hid (up B5.out (made w5 (.cells #[.int .i64 d0, .int .i64 d1, .int .i64 d2, .int .i64 d3, .int .i64 d4, .int .i64 d5, .int .i64 d6] 52)) B5.out.size)
        have HT := Lib.hid (show (L.take k).length + 1 ≤ 100000000 by rw [List.length_take]; omega)
        go_wp2_with ((with_reducible show wpList _ _ _ (⟨some 40, _, _, _, _, _⟩ :: _) _ _); go_must (refine wp_app TR (c := 1) (n := 1) rfl _ _ rfl rfl rfl rfl rfl O6.out LY.out HT.out B6.out.size ?_))
        intro v7 w7 own7 gr7
        have B7 := Lib.hid (B6.out.trans (gr7.below O6.out B6.out.size))
        rw [← TK.out] at own7
        have O7 := Lib.hid own7
        obtain ⟨A2, c2, rfl, -⟩ := own7.open_
        clear own7 gr7 O6 LY B6 e0 e1 e2 e3 e4 e5 e6 b0 b1 HT
        go_wp2_with fail
        refine ⟨⟨k + 1, _, rfl, by omega, by go_num, O7.out, B7.out⟩, by simp [intOf]; omega⟩
      · obtain rfl : k = L.length := by omega
        rw [List.take_length] at O5
        have br5 := BR4.out.below hb5 BR4.out.lt
        have bx5 := BX4.out.below hb5 BX4.out.lt
        have BR5 := Lib.hid br5
        have BX5 := Lib.hid bx5
        obtain ⟨Av, cv, rfl, -⟩ := O5.out.open_
        clear hown hb5 b0 b1
        have b0 := bx5.cell 0
        have b1 := bx5.cell 1
        clear br5 bx5
        have O6 := Lib.hid (O5.out.below (made w5 (.cells #[.int .i64 nx, .int .i64 d, .int .i64 sl, .int .i64 l, .int .i64 0, .int .i64 0, .int .i64 en] 52)))
        have LY := Lib.hid (Lay.lit (E := E7) (w5.alloc (.cells #[.int .i64 nx, .int .i64 d, .int .i64 sl, .int .i64 l, .int .i64 0, .int .i64 0, .int .i64 en] 52)) (nx, d, sl, l, 0, 0, en) 52 w5.heap.size (Blk.new _ _ _))
        have B6 := Lib.hid (up B5.out (made w5 (.cells #[.int .i64 nx, .int .i64 d, .int .i64 sl, .int .i64 l, .int .i64 0, .int .i64 0, .int .i64 en] 52)) B5.out.size)
        have HT := Lib.hid (show L.length + 1 ≤ 100000000 by omega)
        go_wp2_with ((with_reducible show wpList _ _ _ (⟨some 50, _, _, _, _, _⟩ :: _) _ _); go_must (refine wp_app TR (c := 1) (n := 1) rfl _ _ rfl rfl rfl rfl rfl O6.out LY.out HT.out B6.out.size ?_))
        intro v7 w7 own7 gr7
        have B7 := Lib.hid (B6.out.trans (gr7.below O6.out B6.out.size))
        have O7 := Lib.hid own7
        obtain ⟨A2, c2, rfl, -⟩ := own7.open_
        have BX7 := Lib.hid (BX4.out.below B7.out BX4.out.lt)
        have BR7 := Lib.hid (BR4.out.below B7.out BR4.out.lt)
        have B0 := Lib.hid (up B4.out B7.out B4.out.size)
        clear own7 gr7 O6 LY B6 b0 b1 HT BR5 BX5
        have b0 := BX7.out.cell 0
        have b1 := BX7.out.cell 1
        have r0 := BR7.out.cell 0
        have r1 := BR7.out.cell 1
        have f0 := BR7.out.free 0
        have f1 := BR7.out.free 1
        have hx1 : IntKind.i64.wrap (nx + 1) = nx + 1 := IntWalk.i64_in _ (by omega)
        have O7' : Hid (Own E7 w7 w4.heap.size 52 (.slice A2 (L.length + 1) c2) (L ++ [((nx, d, sl, l, 0, 0, en) : D)])) := Lib.hid (by
          have := O7.out
          rw [show (L ++ [((nx, d, sl, l, 0, 0, en) : D)]).length = L.length + 1 by simp] at this
          exact this)
        go_wp2_with fail
        refine wp_region_held_drew (S := (fun ws => ws.cell? ⟨w.heap.size, 1, none⟩ = some (.int .i64 nx))) (by kernel_rfl) b1 (fun hHeld => ?_)
        refine wpAnyH_take (i := 0) (v := ?_) rfl (by kernel_rfl) (by kernel_rfl) (by kernel_rfl) (fun _ _ _ h => h) (Or.inl ⟨by rfl, ?_⟩) (by assumption) ?_
        rotate_left
        · (intro w hSw; (try dsimp only at hSw); first | (go_simp; done) | (go_simp; with_reducible rfl))
        simp only [Act.put, List.getElem_toArray, List.getElem_cons_zero, List.getElem_cons_succ, List.setIfInBounds_toArray, List.set_cons_zero, List.set_cons_succ]
        refine wpAnyH_take (i := 1) (v := ?_) rfl (by kernel_rfl) (by kernel_rfl) (by kernel_rfl) (fun _ _ _ h => h) (Or.inl ⟨by rfl, ?_⟩) (by assumption) ?_
        rotate_left
        · (intro w hSw; (try dsimp only at hSw); first | (go_simp; done) | (go_simp; with_reducible rfl))
        simp only [Act.put, List.getElem_toArray, List.getElem_cons_zero, List.getElem_cons_succ, List.setIfInBounds_toArray, List.set_cons_zero, List.set_cons_succ]
        refine wpAnyH_take (i := 2) (v := ?_) rfl (by kernel_rfl) (by kernel_rfl) (by kernel_rfl) (fun _ _ _ h => h) (Or.inl ⟨by rfl, ?_⟩) (by assumption) ?_
        rotate_left
        · (intro w hSw; (try dsimp only at hSw); first | (go_simp; done) | (go_simp; with_reducible rfl))
        simp only [Act.put, List.getElem_toArray, List.getElem_cons_zero, List.getElem_cons_succ, List.setIfInBounds_toArray, List.set_cons_zero, List.set_cons_succ]
        refine wpAnyH_take (i := 3) (v := ?_) rfl (by kernel_rfl) (by kernel_rfl) (by kernel_rfl) (fun _ _ _ h => h) (Or.inl ⟨by rfl, ?_⟩) (by assumption) ?_
        rotate_left
        · (intro w hSw; (try dsimp only at hSw); first | (go_simp; done) | (go_simp; with_reducible rfl))
        simp only [Act.put, List.getElem_toArray, List.getElem_cons_zero, List.getElem_cons_succ, List.setIfInBounds_toArray, List.set_cons_zero, List.set_cons_succ]
        refine wpAnyH_take (i := 4) (v := ?_) rfl (by kernel_rfl) (by kernel_rfl) (by kernel_rfl) (fun _ _ _ h => h) (Or.inl ⟨by rfl, ?_⟩) (by assumption) ?_
        rotate_left
        · (intro w hSw; (try dsimp only at hSw); first | (go_simp; done) | (go_simp; with_reducible rfl))
        simp only [Act.put, List.getElem_toArray, List.getElem_cons_zero, List.getElem_cons_succ, List.setIfInBounds_toArray, List.set_cons_zero, List.set_cons_succ]
        refine wpAnyH_take (i := 5) (v := ?_) rfl (by kernel_rfl) (by kernel_rfl) (by kernel_rfl) (fun _ _ _ h => h) (Or.inl ⟨by rfl, ?_⟩) (by assumption) ?_
        rotate_left
        · (intro w hSw; (try dsimp only at hSw); first | (go_simp; done) | (go_simp; with_reducible rfl))
        simp only [Act.put, List.getElem_toArray, List.getElem_cons_zero, List.getElem_cons_succ, List.setIfInBounds_toArray, List.set_cons_zero, List.set_cons_succ]
        refine wpAnyH_take (i := 6) (v := ?_) rfl (by kernel_rfl) (by kernel_rfl) (by kernel_rfl) (fun _ _ _ h => h) (Or.inl ⟨by rfl, ?_⟩) (by assumption) ?_
        rotate_left
        · (intro w hSw; (try dsimp only at hSw); first | (go_simp; done) | (go_simp; with_reducible rfl))
        simp only [Act.put, List.getElem_toArray, List.getElem_cons_zero, List.getElem_cons_succ, List.setIfInBounds_toArray, List.set_cons_zero, List.set_cons_succ]
        have S7 := Lib.hid ((BX7.out.far (p := ⟨w.heap.size + 1, 0, none⟩) (show w.heap.size ≠ w.heap.size + 1 by omega) (.slice A2 (L.length + 1) c2)).far (p := ⟨w.heap.size + 1, 1, none⟩) (show w.heap.size ≠ w.heap.size + 1 by omega) (.int .i64 (nx + 1)))
        refine wpAnyH_ready (rs := [7]) (by kernel_rfl) (by simp) ?_
        refine AllReadyH.cons rfl (fun K hK => ?_) AllReadyH.nil
        go_simp
        refine hK.out _ _ (S7.out.cell 1) (fun hH1 => ?_)
        clear hK K hHeld
        refine wpAnyH_take (i := 8) (v := ?_) rfl (by kernel_rfl) (by kernel_rfl) (by kernel_rfl) (fun _ _ _ h => h) (Or.inl ⟨by rfl, ?_⟩) (by assumption) ?_
        rotate_left
        · (intro w hSw; (try dsimp only at hSw); first | (go_simp; done) | (go_simp; with_reducible rfl))
        simp only [Act.put, List.getElem_toArray, List.getElem_cons_zero, List.getElem_cons_succ, List.setIfInBounds_toArray, List.set_cons_zero, List.set_cons_succ]
        refine wpAnyH_take (i := 9) (v := ?_) rfl (by kernel_rfl) (by kernel_rfl) (by kernel_rfl) (fun _ _ _ h => h) (Or.inl ⟨by rfl, ?_⟩) (by assumption) ?_
        rotate_left
        · (intro w hSw; (try dsimp only at hSw); first | (go_simp; done) | (go_simp; with_reducible rfl))
        simp only [Act.put, List.getElem_toArray, List.getElem_cons_zero, List.getElem_cons_succ, List.setIfInBounds_toArray, List.set_cons_zero, List.set_cons_succ]
        refine wpAnyH_done (by kernel_rfl) ?_ _
        clear hH1
        have K : Blk ((w7.setCell ⟨w.heap.size + 1, 0, none⟩ (.slice A2 (L.length + 1) c2)).setCell ⟨w.heap.size + 1, 1, none⟩ (.int .i64 (nx + 1))).drew (w.heap.size + 1) 28 #[.slice A2 (L.length + 1) c2, .int .i64 (nx + 1)] := (blk2 BR7.out (.slice A2 (L.length + 1) c2) (.int .i64 (nx + 1))).drewN 1
        have P7 : Hid (Own E7 ((w7.setCell ⟨w.heap.size + 1, 0, none⟩ (.slice A2 (L.length + 1) c2)).setCell ⟨w.heap.size + 1, 1, none⟩ (.int .i64 (nx + 1))).drew w4.heap.size 52 (.slice A2 (L.length + 1) c2) (L ++ [((nx, d, sl, l, 0, 0, en) : D)])) := Lib.hid (own2 O7'.out BR7.out (by decide) (.slice A2 (L.length + 1) c2) (.int .i64 (nx + 1)))
        have Q7 := Lib.hid ((below2 B0.out (Nat.le_succ _) (.slice A2 (L.length + 1) c2) (.int .i64 (nx + 1))).drew)
        clear S7
        generalize ((w7.setCell ⟨w.heap.size + 1, 0, none⟩ (.slice A2 (L.length + 1) c2)).setCell ⟨w.heap.size + 1, 1, none⟩ (.int .i64 (nx + 1))).drew = w8 at *
        have g0 := K.cell 0
        have g1 := K.cell 1
        have HBB := Lib.hid (show B ≤ w4.heap.size from Nat.le_trans HB.out B4.out.size)
        clear b0 b1 r0 r1 f0 f1
        go_wp2_with fail
        refine bodyPost_ret (v := .tuple #[.agg #[.slice A2 (L.length + 1) c2, .int .i64 (nx + 1)], .int .i64 nx, .int .i64 0]) (by simp [results, Try.results23, go_sem, g0, g1]) rfl ?_
        exact ⟨_, rfl, (P7.out.mono HBB.out), Q7.out⟩
  · obtain rfl := IE.out mo rfl q3
    clear IE IO
    have q4 : (mo != 0) = true := by simpa using q3
    clear q3
    go_enter Try.func23, Try.ntmps23
    go_wp2_with (rw [hw2])
    refine (MA.out _ (LAY.out _ _ HO.out)).mono ?_
    rintro e w4 ⟨rfl, hb4⟩
    have B4 := Lib.hid (up M.out hb4 M.out.size)
    have BX4 := Lib.hid (BX.out.below hb4 BX.out.lt)
    have BR4 := Lib.hid (BR.out.below hb4 BR.out.lt)
    have HO4 := Lib.hid (HO.out.below hb4)
    clear hb4 b0 b1 r0 r1 f0 f1
    have b0 := BX4.out.cell 0
    have b1 := BX4.out.cell 1
    have r0 := BR4.out.cell 0
    have r1 := BR4.out.cell 1
    have f0 := BR4.out.free 0
    have f1 := BR4.out.free 1
    go_wp2_with fail
    have K := blk2 BR4.out (.slice A L.length c) (.int .i64 nx)
    have g0 := K.cell 0
    have g1 := K.cell 1
    refine bodyPost_ret (v := .tuple #[.agg #[.slice A L.length c, .int .i64 nx], .int .i64 0, .int .i64 mo]) (by simp [results, Try.results23, go_sem, g0, g1]) rfl ?_
    exact ⟨_, rfl, own2 HO4.out BR4.out (by decide) _ _, below2 B4.out (Nat.le_succ _) _ _⟩
end Go.Proofs.Ytlklfolpcebahaa.bb
