/-
  Contracts of package access: the second call of the fixed answer: one is put on the list of the banned.
-/
import Derived.Test.YtemkhblogmdleaaDoorAccD
namespace Go.Proofs.YtemkhblogmdleaaDoor.ac
open Go.RowKit
open base (ret_bool ret_int made up Blk Only Nums)
set_option linter.unusedVariables false
set_option linter.unusedSimpArgs false

theorem idx3_2 (p q r : Value) : ∀ w, (Instr.index 41 (.agg #[p, q, r]) (.int .i64 2)).run Tryd.prog w = .ok r w := fun _ => by kernel_rfl
theorem heap_one {wa w9 : World} {b : Nat} {p : Addr} (u : Value) (hp : b ≠ p.block) (e : wa.heap[b]? = w9.heap[b]?) : (wa.setCell p u).heap[b]? = w9.heap[b]? := (Below.heap_setCell _ _ u b hp).trans e
theorem nums_at {w9 w' : World} {A : Option Addr} {l : List Int} (h : Nums .i64 w9 A l) (hk : ∀ ad, A = some ad → w'.heap[ad.block]? = w9.heap[ad.block]?) : Nums .i64 w' A l := fun h0 => by
  obtain ⟨b, off, rfl, hb, hc⟩ := h h0
  have e := hk _ rfl
  change w'.heap[b]? = w9.heap[b]? at e
  refine ⟨b, off, rfl, ?_, fun j hj => ?_⟩
  · have : w9.heap[b]? ≠ none := by rw [Array.getElem?_eq_getElem hb]; simp
    rw [← e] at this
    rcases Nat.lt_or_ge b w'.heap.size with q | q
    · exact q
    · exact absurd (Array.getElem?_eq_none q) this
  · rw [← hc j hj]
    exact World.cell?_of_block (w := w9) (a := ⟨b, off + j, none⟩) e
theorem nums_four {wc : World} {A : Option Addr} {l : List Int} {b : Nat} {u0 u1 u2 u3 : Value} (h : Nums .i64 wc A l) (hk : ∀ ad, A = some ad → ad.block ≠ b) :
    Nums .i64 ((((wc.setCell ⟨b, 0, none⟩ u0).setCell ⟨b, 1, none⟩ u1).setCell ⟨b, 2, none⟩ u2).setCell ⟨b, 3, none⟩ u3) A l := nums_at h (fun ad e => by
  have hb := hk ad e
  exact heap_one (p := ⟨b, 3, none⟩) _ hb (heap_one (p := ⟨b, 2, none⟩) _ hb (heap_one (p := ⟨b, 1, none⟩) _ hb (heap_one (p := ⟨b, 0, none⟩) _ hb rfl))))
theorem nums_five {w9 : World} {A : Option Addr} {l : List Int} {b r k : Nat} {u u0 u1 u2 u3 : Value} (h : Nums .i64 w9 A l) (hk : ∀ ad, A = some ad → ad.block ≠ b ∧ ad.block ≠ r) :
    Nums .i64 (((((w9.setCell ⟨b, k, none⟩ u).setCell ⟨r, 0, none⟩ u0).setCell ⟨r, 1, none⟩ u1).setCell ⟨r, 2, none⟩ u2).setCell ⟨r, 3, none⟩ u3) A l := nums_at h (fun ad e => by
  obtain ⟨hb, hr⟩ := hk ad e
  exact heap_one (p := ⟨r, 3, none⟩) _ hr (heap_one (p := ⟨r, 2, none⟩) _ hr (heap_one (p := ⟨r, 1, none⟩) _ hr (heap_one (p := ⟨r, 0, none⟩) _ hr (heap_one (p := ⟨b, k, none⟩) _ hb rfl)))))
theorem set_fin3 (w W2 w9 : World) (cB : Nat) (A5 : Option Addr) (c5 : Nat) (A9 : Option Addr) (c9 : Nat) (HB2 : Below w.heap.size w W2) (B9 : Below (w.heap.size + 2) W2 w9) (hs : W2.heap.size = w.heap.size + 2) (CB : Blk w9 cB 24 #[.int .i64 1, .slice A5 1 c5, .slice none 0 0, .slice none 0 0]) (RB : Blk w9 (w.heap.size + 1) 24 #[.int .i64 0, .slice none 0 0, .slice none 0 0, .slice none 0 0])
    (N5 : Nums .i64 w9 A5 [2]) (NN : Nums .i64 w9 A9 [2]) (h5 : ∀ ad, A5 = some ad → ad.block ≠ cB ∧ ad.block ≠ w.heap.size + 1) (hA : ∀ ad, A9 = some ad → ad.block ≠ cB ∧ ad.block ≠ w.heap.size + 1) (hcB : w.heap.size + 2 ≤ cB) :
    Blk (((((w9.setCell ⟨cB, 3, none⟩ (.slice A9 1 c9)).setCell ⟨w.heap.size + 1, 0, none⟩ (.int .i64 1)).setCell ⟨w.heap.size + 1, 1, none⟩ (.slice A5 1 c5)).setCell ⟨w.heap.size + 1, 2, none⟩ (.slice none 0 0)).setCell ⟨w.heap.size + 1, 3, none⟩ (.slice A9 1 c9)) (w.heap.size + 1) 24 #[.int .i64 1, .slice A5 1 c5, .slice none 0 0, .slice A9 1 c9] ∧ Nums .i64 (((((w9.setCell ⟨cB, 3, none⟩ (.slice A9 1 c9)).setCell ⟨w.heap.size + 1, 0, none⟩ (.int .i64 1)).setCell ⟨w.heap.size + 1, 1, none⟩ (.slice A5 1 c5)).setCell ⟨w.heap.size + 1, 2, none⟩ (.slice none 0 0)).setCell ⟨w.heap.size + 1, 3, none⟩ (.slice A9 1 c9)) A5 [2] ∧ Nums .i64 (((((w9.setCell ⟨cB, 3, none⟩ (.slice A9 1 c9)).setCell ⟨w.heap.size + 1, 0, none⟩ (.int .i64 1)).setCell ⟨w.heap.size + 1, 1, none⟩ (.slice A5 1 c5)).setCell ⟨w.heap.size + 1, 2, none⟩ (.slice none 0 0)).setCell ⟨w.heap.size + 1, 3, none⟩ (.slice A9 1 c9)) A9 [2] ∧ Below w.heap.size w (((((w9.setCell ⟨cB, 3, none⟩ (.slice A9 1 c9)).setCell ⟨w.heap.size + 1, 0, none⟩ (.int .i64 1)).setCell ⟨w.heap.size + 1, 1, none⟩ (.slice A5 1 c5)).setCell ⟨w.heap.size + 1, 2, none⟩ (.slice none 0 0)).setCell ⟨w.heap.size + 1, 3, none⟩ (.slice A9 1 c9)) := by
  refine ⟨?_, nums_five N5 h5, nums_five NN hA, ?_⟩
  · exact ((((RB.far (p := ⟨cB, 3, none⟩) (show w.heap.size + 1 ≠ cB by omega) _).put 0 _).put 1 _).put 2 _).put 3 _
  · refine Below.setCell (Below.setCell (Below.setCell (Below.setCell (Below.setCell (up HB2 B9 (by omega)) ?_ _) ?_ _) ?_ _) ?_ _) ?_ _ <;> simp <;> omega
def SetP3 (w : World) (e : Ending) (w' : World) : Prop := ∃ A c B d, e = .returned (.tuple #[.agg #[.int .i64 1, .slice A 1 c, .slice none 0 0, .slice B 1 d], .int .i64 0]) ∧ Nums .i64 w' A [2] ∧ Nums .i64 w' B [2] ∧ Below w.heap.size w w'
set_option maxRecDepth 100000 in
set_option maxHeartbeats 4000000 in
theorem set_three (A : Option Addr) (c : Nat) (w : World) (hN : Nums .i64 w A [2]) :
    Calls Tryd.prog 19 #[.agg #[.int .i64 1, .slice A 1 c, .slice none 0 0, .slice none 0 0], .int .i64 3, .int .i64 2, .bool true] w (SetP3 w) := by
  have bx : Blk (w.alloc (.cells #[.int .i64 1, .slice A 1 c, .slice none 0 0, .slice none 0 0] 24)) w.heap.size 24 #[.int .i64 1, .slice A 1 c, .slice none 0 0, .slice none 0 0] := Blk.new _ _ _
  have by_ : Blk ((w.alloc (.cells #[.int .i64 1, .slice A 1 c, .slice none 0 0, .slice none 0 0] 24)).alloc (.cells #[.int .i64 0, .slice none 0 0, .slice none 0 0, .slice none 0 0] 24)) (w.heap.size + 1) 24 #[.int .i64 0, .slice none 0 0, .slice none 0 0, .slice none 0 0] := by
    have := Blk.new (w.alloc (.cells #[.int .i64 1, .slice A 1 c, .slice none 0 0, .slice none 0 0] 24)) 24 #[.int .i64 0, .slice none 0 0, .slice none 0 0, .slice none 0 0]
    rw [asz] at this
    exact this
  have bx2 := bx.alloc (.cells #[.int .i64 0, .slice none 0 0, .slice none 0 0, .slice none 0 0] 24)
  have hb2 : Below w.heap.size w ((w.alloc (.cells #[.int .i64 1, .slice A 1 c, .slice none 0 0, .slice none 0 0] 24)).alloc (.cells #[.int .i64 0, .slice none 0 0, .slice none 0 0, .slice none 0 0] 24)) := (made w _).alloc (by rw [asz]; omega) _
  have hs2 : ((w.alloc (.cells #[.int .i64 1, .slice A 1 c, .slice none 0 0, .slice none 0 0] 24)).alloc (.cells #[.int .i64 0, .slice none 0 0, .slice none 0 0, .slice none 0 0] 24)).heap.size = w.heap.size + 2 := by rw [asz, asz]
  have LI := Lib.hid (fun b ws => lists_any b ws)
  have CN := Lib.hid clone_nil
  have CN3 := Lib.hid (fun (ws : World) (h : Nums .i64 ws A [2]) => (show Calls Tryd.prog 27 #[.slice A 1 c] ws (NewI [2] ws) from clone_any A c [2] ws h (by simp)))
  have NK := Lib.hid (fun (ws : World) (h : Below w.heap.size w ws) => base.Nums.keep hN h)
  have IX := Lib.hid (index_nil 2)
  have BS := Lib.hid (bsearch_nil 2)
  have KS0 : ∀ ws, Below (w.heap.size + 2) ((w.alloc (.cells #[.int .i64 1, .slice A 1 c, .slice none 0 0, .slice none 0 0] 24)).alloc (.cells #[.int .i64 0, .slice none 0 0, .slice none 0 0, .slice none 0 0] 24)) ws → ws.cell? ⟨w.heap.size, 0, none⟩ = some (.int .i64 1) ∧ ws.cell? ⟨w.heap.size, 1, none⟩ = some (.slice A 1 c) ∧ ws.cell? ⟨w.heap.size, 2, none⟩ = some (.slice none 0 0) ∧ ws.cell? ⟨w.heap.size, 3, none⟩ = some (.slice none 0 0) := fun ws hb => by
    have b := bx2.below hb (by omega)
    exact ⟨b.cell 0, b.cell 1, b.cell 2, b.cell 3⟩
  have KR0 : ∀ ws, Below (w.heap.size + 2) ((w.alloc (.cells #[.int .i64 1, .slice A 1 c, .slice none 0 0, .slice none 0 0] 24)).alloc (.cells #[.int .i64 0, .slice none 0 0, .slice none 0 0, .slice none 0 0] 24)) ws → Blk ws (w.heap.size + 1) 24 #[.int .i64 0, .slice none 0 0, .slice none 0 0, .slice none 0 0] := fun ws hb => by_.below hb (by omega)
  have KS := Lib.hid KS0
  have KR := Lib.hid KR0
  have HB2 := Lib.hid hb2
  clear KS0 KR0 bx bx2 by_ hb2 hN
  go_enter Tryd.func19, Tryd.ntmps19
  go_wp2_with fail
  refine (LI.out _ _).mono ?_
  rintro e w3 ⟨rfl, hb3⟩
  rw [hs2] at hb3
  have B3 := Lib.hid hb3
  have PE := Lib.hid (person_two w3)
  have S3 := KS.out _ hb3
  obtain ⟨b0, b1, b2, b3⟩ := S3
  have hsz := hb3.size
  rw [hs2] at hsz
  clear hb3
  go_wp2_with fail
  refine PE.out.mono ?_
  rintro e w4 ⟨rfl, rfl⟩
  go_wp2_with fail
  have HB4 := Lib.hid B3.out.drew
  have HA := Lib.hid ((B3.out.drew).alloc (by simpa using hsz) (.cells #[.int .i64 0, .slice none 0 0, .slice none 0 0, .slice none 0 0] 24))
  have CBA := Lib.hid (show Blk (w4.drew.alloc (.cells #[.int .i64 0, .slice none 0 0, .slice none 0 0, .slice none 0 0] 24)) w4.heap.size 24 #[.int .i64 0, .slice none 0 0, .slice none 0 0, .slice none 0 0] from Blk.new _ _ _)
  have SA := Lib.hid (show (w4.drew.alloc (.cells #[.int .i64 0, .slice none 0 0, .slice none 0 0, .slice none 0 0] 24)).heap.size = w4.heap.size + 1 from asz _ _)
  have NH4 := Lib.hid (NK.out w4.drew (up HB2.out B3.out.drew (by omega)))
  have NHA := Lib.hid (NK.out _ (up HB2.out HA.out (by omega)))
  generalize hW2 : ((w.alloc (.cells #[.int .i64 1, .slice A 1 c, .slice none 0 0, .slice none 0 0] 24)).alloc (.cells #[.int .i64 0, .slice none 0 0, .slice none 0 0, .slice none 0 0] 24)) = W2 at *
  refine Code.wp_mono (Q := Exit.then (fun f w5 => ∃ (A5 : Option Addr) (c5 cB : Nat), f = ({ tmps := #[Value.agg #[Value.int IntKind.i64 1, Value.slice A 1 c, Value.slice none 0 0, Value.slice none 0 0], Value.int IntKind.i64 3, Value.int IntKind.i64 2, Value.bool true, Value.pointer (some { block := w.heap.size, off := 0 }), undef, undef, undef, Value.pointer (some { block := w.heap.size + 1, off := 0 }), Value.int IntKind.i64 0, Value.pointer (some { block := cB, off := 0 }), undef, undef, undef, undef, Value.int IntKind.i64 3, Value.bool false, Value.bool false, Value.int IntKind.i64 3, Value.agg #[Value.pointer (some { block := w.heap.size, off := 1 }), Value.pointer (some { block := w.heap.size, off := 2 }), Value.pointer (some { block := w.heap.size, off := 3 })], Value.int IntKind.i64 3, Value.bool false, Value.bool false, Value.bool false, Value.int IntKind.i64 2, Value.bool true, Value.bool false, Value.bool false, undef, Value.int IntKind.i64 2, Value.pointer (some { block := w.heap.size, off := 0 }), Value.int IntKind.i64 1, Value.bool false, undef, Value.pointer (some { block := w.heap.size, off := 0 }), Value.int IntKind.i64 1, Value.pointer (some { block := w.heap.size, off := 1 }), Value.slice A 1 c, Value.slice A5 1 c5, Value.pointer (some { block := w.heap.size, off := 2 }), Value.slice none 0 0, Value.slice none 0 0, Value.pointer (some { block := w.heap.size, off := 3 }), Value.slice none 0 0, Value.slice none 0 0, Value.agg #[Value.int IntKind.i64 1, Value.slice A5 1 c5, Value.slice none 0 0, Value.slice none 0 0], undef, undef, undef, undef, undef, undef, undef, undef, undef, undef, undef, undef, undef, undef, undef, undef, undef, undef, undef, undef, undef, undef, undef, undef, undef, undef, undef, undef, undef, undef, undef, undef, undef, undef, undef, undef, undef, undef, undef, undef, undef, undef, undef, undef, undef, undef, undef, undef, undef, undef, undef, undef, undef, undef, undef, undef, undef, undef, undef, undef, undef, undef, undef], defers := [] } : Act) ∧ Blk w5 cB 24 #[.int .i64 1, .slice A5 1 c5, .slice none 0 0, .slice none 0 0] ∧ Below (w.heap.size + 2) W2 w5 ∧ Nums .i64 w5 A5 [2] ∧ (∀ ad, A5 = some ad → ad.block ≠ cB ∧ ad.block ≠ w.heap.size + 1) ∧ w.heap.size + 2 ≤ cB) (fun _ _ _ => False)) ?_ ?_
  · intro e f w5 q
    cases e <;> first | exact False.elim q | skip
    obtain ⟨A5, c5, cB, rfl, CB, B5, NA5, hA50, hcB⟩ := q
    have hA5 := Lib.hid hA50
    clear hA50 HB4 HA CBA SA NH4 NHA CN3 CN NK
    have CBH := Lib.hid CB
    have B5H := Lib.hid B5
    have NAH := Lib.hid NA5
    clear CB B5 NA5 KS B3 PE
    go_wp2_with fail
    refine (LI.out _ _).mono ?_
    rintro e w6 ⟨rfl, hb6⟩
    have CB6 := Lib.hid (CBH.out.below hb6 CBH.out.lt)
    have NA6 := Lib.hid (base.Nums.keep NAH.out hb6)
    have B6 := Lib.hid (up B5H.out hb6 (by have := CBH.out.lt; omega))
    have s6 := CB6.out.lt
    have c1 := CB6.out.cell 3
    have ix := idx3_2 (.pointer (some ⟨cB, 1, none⟩)) (.pointer (some ⟨cB, 2, none⟩)) (.pointer (some ⟨cB, 3, none⟩))
    clear hb6
    go_wp2_with fail
    refine (IX.out _).mono ?_
    rintro e w7 ⟨rfl, rfl⟩
    go_wp2_with fail
    refine (BS.out _).mono ?_
    rintro e w8 ⟨rfl, rfl⟩
    have hbn := made w8 (.cells #[.int .i64 2] 3)
    have IN := Lib.hid (insert_nil w8.heap.size 2 (w8.alloc (.cells #[.int .i64 2] 3)) ((Blk.new w8 3 #[.int .i64 2]).cell 0) (by rw [asz]; omega))
    have CB8 := Lib.hid (CB6.out.below hbn (by omega))
    have NA8 := Lib.hid (base.Nums.keep NA6.out hbn)
    have B8 := Lib.hid (up B6.out hbn (by omega))
    have N8 := Lib.hid (asz w8 (.cells #[.int .i64 2] 3))
    clear hbn CB6 B6 NA6
    go_wp2_with fail
    refine IN.out.mono ?_
    rintro e w9 ⟨v, rfl, own9, hb9⟩
    obtain ⟨A9, c9, rfl, -, -, hn9, hlie⟩ := own9.open_
    have CB9 := Lib.hid (CB8.out.below hb9 (by have := N8.out; omega))
    have NA9 := Lib.hid (base.Nums.keep NA8.out hb9)
    have B9 := Lib.hid (up B8.out hb9 (by have := N8.out; omega))
    have NN := Lib.hid hn9
    have d0 := CB9.out.cell 0
    have d1 := CB9.out.cell 1
    have d2 := CB9.out.cell 2
    have d3 := CB9.out.cell 3
    have f1 := CB9.out.free 3
    have RB := KR.out _ B9.out
    have hA : ∀ ad, A9 = some ad → ad.block ≠ cB ∧ ad.block ≠ w.heap.size + 1 := fun ad e => by
      have hn := N8.out
      rcases hlie with ⟨e2, _⟩ | ⟨g, e2, hg, _⟩
      · rw [e2] at e; cases e
      · rw [e2] at e
        injection e with e
        subst e
        exact ⟨by show g ≠ _; omega, by show g ≠ _; omega⟩
    obtain ⟨fb, fn, fm, fl⟩ := set_fin3 w W2 w9 cB A5 c5 A9 c9 HB2.out B9.out hs2 CB9.out RB NA9.out NN.out hA5.out hA hcB
    have g0 := fb.cell 0
    have g1 := fb.cell 1
    have g2 := fb.cell 2
    have g3 := fb.cell 3
    have FN := Lib.hid fn
    have FM := Lib.hid fm
    have FL := Lib.hid fl
    have e0 := RB.cell 0
    have e1 := RB.cell 1
    have e2 := RB.cell 2
    have e3 := RB.cell 3
    have r0 := RB.free 0
    have r1 := RB.free 1
    have r2 := RB.free 2
    have r3 := RB.free 3
    have ne1 : cB ≠ w.heap.size + 1 := by omega
    have ne2 : w.heap.size + 1 ≠ cB := by omega
    clear own9 hb9 hn9 CB8 B8 N8 IN RB c1 hlie hA fb fn fm fl NA8 NA9 hA5
    go_wp2_with fail
    refine bodyPost_ret (v := .tuple #[.agg #[.int .i64 1, .slice A5 1 c5, .slice none 0 0, .slice A9 1 c9], .int .i64 0]) (by simp [results, Tryd.results19, go_sem, g0, g1, g2, g3]) rfl ⟨A5, c5, A9, c9, rfl, FN.out, FM.out, FL.out⟩
  · refine wp_region_held_drew (S := (fun ws => ws.cell? ⟨w.heap.size, 0, none⟩ = some (.int .i64 1) ∧ ws.cell? ⟨w.heap.size, 1, none⟩ = some (.slice A 1 c) ∧ ws.cell? ⟨w.heap.size, 2, none⟩ = some (.slice none 0 0) ∧ ws.cell? ⟨w.heap.size, 3, none⟩ = some (.slice none 0 0))) (by kernel_rfl) (KS.out _ HB4.out) (fun hHeld => ?_)
    refine wpAnyH_take (i := 0) (v := ?_) rfl (by kernel_rfl) (by kernel_rfl) (by kernel_rfl) (fun _ _ _ h => h) (Or.inl ⟨by rfl, ?_⟩) (by assumption) ?_
    rotate_left
    · (intro w hSw; (try dsimp only at hSw); first | (go_simp; done) | (go_simp; with_reducible rfl))
    simp only [Act.put, List.getElem_toArray, List.getElem_cons_zero, List.getElem_cons_succ, List.setIfInBounds_toArray, List.set_cons_zero, List.set_cons_succ]
    refine wpAnyH_take (i := 1) (v := ?_) rfl (by kernel_rfl) (by kernel_rfl) (by kernel_rfl) (fun _ _ _ h => h) (Or.inl ⟨by rfl, ?_⟩) (by assumption) ?_
    rotate_left
    · (intro w hSw; (try dsimp only at hSw); first | (go_simp; done) | (go_simp; with_reducible rfl))
    simp only [Act.put, List.getElem_toArray, List.getElem_cons_zero, List.getElem_cons_succ, List.setIfInBounds_toArray, List.set_cons_zero, List.set_cons_succ]
    refine wpAnyH_take (i := 2) (v := ?_) rfl (by kernel_rfl) (by kernel_rfl) (by kernel_rfl) (fun _ _ _ h => h) (Or.inl ⟨by rfl, ?_⟩) (by assumption) ?_
    rotate_left
    · (intro w hSw; (try dsimp only at hSw); first | (go_simp; done) | (go_simp; with_reducible rfl))
    simp only [Act.put, List.getElem_toArray, List.getElem_cons_zero, List.getElem_cons_succ, List.setIfInBounds_toArray, List.set_cons_zero, List.set_cons_succ]
    refine wpAnyH_take (i := 3) (v := ?_) rfl (by kernel_rfl) (by kernel_rfl) (by kernel_rfl) (fun _ _ _ h => h) (Or.inl ⟨by rfl, ?_⟩) (by assumption) ?_
    rotate_left
    · (intro w hSw; (try dsimp only at hSw); first | (go_simp; done) | (go_simp; with_reducible rfl))
    simp only [Act.put, List.getElem_toArray, List.getElem_cons_zero, List.getElem_cons_succ, List.setIfInBounds_toArray, List.set_cons_zero, List.set_cons_succ]
    refine wpAnyH_take (i := 5) (v := ?_) rfl (by kernel_rfl) (by kernel_rfl) (by kernel_rfl) (fun _ _ _ h => h) (Or.inl ⟨by rfl, ?_⟩) (by assumption) ?_
    rotate_left
    · (intro w hSw; (try dsimp only at hSw); first | (go_simp; done) | (go_simp; with_reducible rfl))
    simp only [Act.put, List.getElem_toArray, List.getElem_cons_zero, List.getElem_cons_succ, List.setIfInBounds_toArray, List.set_cons_zero, List.set_cons_succ]
    refine wpAnyH_take (i := 6) (v := ?_) rfl (by kernel_rfl) (by kernel_rfl) (by kernel_rfl) (fun _ _ _ h => h) (Or.inl ⟨by rfl, ?_⟩) (by assumption) ?_
    rotate_left
    · (intro w hSw; (try dsimp only at hSw); first | (go_simp; done) | (go_simp; with_reducible rfl))
    simp only [Act.put, List.getElem_toArray, List.getElem_cons_zero, List.getElem_cons_succ, List.setIfInBounds_toArray, List.set_cons_zero, List.set_cons_succ]
    refine wpAnyH_take (i := 8) (v := ?_) rfl (by kernel_rfl) (by kernel_rfl) (by kernel_rfl) (fun _ _ _ h => h) (Or.inl ⟨by rfl, ?_⟩) (by assumption) ?_
    rotate_left
    · (intro w hSw; (try dsimp only at hSw); first | (go_simp; done) | (go_simp; with_reducible rfl))
    simp only [Act.put, List.getElem_toArray, List.getElem_cons_zero, List.getElem_cons_succ, List.setIfInBounds_toArray, List.set_cons_zero, List.set_cons_succ]
    refine wpAnyH_take (i := 9) (v := ?_) rfl (by kernel_rfl) (by kernel_rfl) (by kernel_rfl) (fun _ _ _ h => h) (Or.inl ⟨by rfl, ?_⟩) (by assumption) ?_
    rotate_left
    · (intro w hSw; (try dsimp only at hSw); first | (go_simp; done) | (go_simp; with_reducible rfl))
    simp only [Act.put, List.getElem_toArray, List.getElem_cons_zero, List.getElem_cons_succ, List.setIfInBounds_toArray, List.set_cons_zero, List.set_cons_succ]
    refine wpAnyH_ready (rs := [4, 12]) (by kernel_rfl) (by simp) ?_
    refine AllReadyH.cons rfl (fun K hK => ?_) (AllReadyH.cons rfl (fun K hK => ?_) AllReadyH.nil)
    · go_simp
      go_wp2_with (go_at_call 27; refine (CN3.out _ NH4.out).mono ?_; rintro e wc ⟨v5, rfl, own5, hb5⟩)
      obtain ⟨A5, c5, rfl, -, -, hn5, hlie5⟩ := own5.open_
      have HB5 := Lib.hid (up HB4.out hb5 (by have := HB4.out.size; omega))
      have NA := Lib.hid hn5
      have sz5 := hb5.size
      have hA50 : ∀ ad, A5 = some ad → ad.block ≠ wc.heap.size ∧ ad.block ≠ w.heap.size + 1 := fun ad e => by
        have hn : w4.drew.heap.size = w4.heap.size := rfl
        rcases hlie5 with ⟨e2, _⟩ | ⟨g, e2, hg, hg2⟩
        · rw [e2] at e; cases e
        · rw [e2] at e
          injection e with e
          subst e
          exact ⟨by show g ≠ _; omega, by show g ≠ _; omega⟩
      have s5b : w.heap.size + 2 ≤ wc.heap.size := by
        have hn : w4.drew.heap.size = w4.heap.size := rfl
        omega
      have HA5 := Lib.hid (HB5.out.alloc (by omega) (.cells #[.int .i64 0, .slice none 0 0, .slice none 0 0, .slice none 0 0] 24))
      have HC5 := Lib.hid (HB5.out.alloc (by omega) (.cells #[.int .i64 1, .slice A5 1 c5, .slice none 0 0, .slice none 0 0] 24))
      have hA5 := Lib.hid hA50
      clear own5 hb5 hn5 hlie5 hA50
      refine hK.out _ _ (KS.out _ HB5.out) (fun hH1 => ?_)
      clear hK K hHeld
      refine wpAnyH_ready (rs := [7, 12]) (by kernel_rfl) (by simp) ?_
      refine AllReadyH.cons rfl (fun K hK => ?_) (AllReadyH.cons rfl (fun K hK => ?_) AllReadyH.nil)
      · go_simp
        go_wp2_with (go_at_call 27; refine (CN.out _).mono ?_; rintro e wx ⟨rfl, hwx⟩; subst wx)
        refine hK.out _ _ (KS.out _ HB5.out) (fun hH2 => ?_)
        clear hK K hH1
        refine wpAnyH_ready (rs := [10, 12]) (by kernel_rfl) (by simp) ?_
        refine AllReadyH.cons rfl (fun K hK => ?_) (AllReadyH.cons rfl (fun K hK => ?_) AllReadyH.nil)
        · go_simp
          go_wp2_with (go_at_call 27; refine (CN.out _).mono ?_; rintro e wx ⟨rfl, hwx⟩; subst wx)
          refine hK.out _ _ (KS.out _ HB5.out) (fun hH3 => ?_)
          clear hK K hH2
          refine wpAnyH_take (i := 11) (v := ?_) rfl (by kernel_rfl) (by kernel_rfl) (by kernel_rfl) (fun _ _ _ h => h) (Or.inl ⟨by rfl, ?_⟩) (by assumption) ?_
          rotate_left
          · (intro w hSw; (try dsimp only at hSw); first | (go_simp; done) | (go_simp; with_reducible rfl))
          simp only [Act.put, List.getElem_toArray, List.getElem_cons_zero, List.getElem_cons_succ, List.setIfInBounds_toArray, List.set_cons_zero, List.set_cons_succ]
          refine wpAnyH_ready (rs := [12]) (by kernel_rfl) (by simp) ?_
          refine AllReadyH.cons rfl (fun K hK => ?_) AllReadyH.nil
          go_simp
          refine hK.out _ _ (KS.out _ HA5.out) (fun hH4 => ?_)
          clear hK K hH3
          refine wpAnyH_ready (rs := [13]) (by kernel_rfl) (by simp) ?_
          refine AllReadyH.cons rfl (fun K hK => ?_) AllReadyH.nil
          go_simp
          refine hK.out _ _ (KS.out _ HC5.out) (fun hH5 => ?_)
          clear hK K hH4
          refine wpAnyH_done (by kernel_rfl) ?_ _
          clear hH5
          have CB : Blk (wc.alloc (.cells #[.int .i64 1, .slice A5 1 c5, .slice none 0 0, .slice none 0 0] 24)) wc.heap.size 24 #[.int .i64 1, .slice A5 1 c5, .slice none 0 0, .slice none 0 0] := Blk.new _ _ _
          have B5 : Below (w.heap.size + 2) W2 (wc.alloc (.cells #[.int .i64 1, .slice A5 1 c5, .slice none 0 0, .slice none 0 0] 24)) := HC5.out
          have NA5 : Nums .i64 (wc.alloc (.cells #[.int .i64 1, .slice A5 1 c5, .slice none 0 0, .slice none 0 0] 24)) A5 [2] := base.Nums.keep NA.out (made _ _)
          exact ⟨A5, c5, _, rfl, CB, B5, NA5, hA5.out, by omega⟩
        · go_simp
          refine hK.out _ _ (KS.out _ HA5.out) (fun hH6 => ?_)
          clear hK K hH2
          refine wpAnyH_ready (rs := [10]) (by kernel_rfl) (by simp) ?_
          refine AllReadyH.cons rfl (fun K hK => ?_) AllReadyH.nil
          go_simp
          go_wp2_with (go_at_call 27; refine (CN.out _).mono ?_; rintro e wx ⟨rfl, hwx⟩; subst wx)
          refine hK.out _ _ (KS.out _ HA5.out) (fun hH7 => ?_)
          clear hK K hH6
          refine wpAnyH_take (i := 11) (v := ?_) rfl (by kernel_rfl) (by kernel_rfl) (by kernel_rfl) (fun _ _ _ h => h) (Or.inl ⟨by rfl, ?_⟩) (by assumption) ?_
          rotate_left
          · (intro w hSw; (try dsimp only at hSw); first | (go_simp; done) | (go_simp; with_reducible rfl))
          simp only [Act.put, List.getElem_toArray, List.getElem_cons_zero, List.getElem_cons_succ, List.setIfInBounds_toArray, List.set_cons_zero, List.set_cons_succ]
          refine wpAnyH_ready (rs := [13]) (by kernel_rfl) (by simp) ?_
          refine AllReadyH.cons rfl (fun K hK => ?_) AllReadyH.nil
          go_simp
          refine hK.out _ _ (KS.out _ HC5.out) (fun hH8 => ?_)
          clear hK K hH7
          refine wpAnyH_done (by kernel_rfl) ?_ _
          clear hH8
          have CB : Blk (wc.alloc (.cells #[.int .i64 1, .slice A5 1 c5, .slice none 0 0, .slice none 0 0] 24)) wc.heap.size 24 #[.int .i64 1, .slice A5 1 c5, .slice none 0 0, .slice none 0 0] := Blk.new _ _ _
          have B5 : Below (w.heap.size + 2) W2 (wc.alloc (.cells #[.int .i64 1, .slice A5 1 c5, .slice none 0 0, .slice none 0 0] 24)) := HC5.out
          have NA5 : Nums .i64 (wc.alloc (.cells #[.int .i64 1, .slice A5 1 c5, .slice none 0 0, .slice none 0 0] 24)) A5 [2] := base.Nums.keep NA.out (made _ _)
          exact ⟨A5, c5, _, rfl, CB, B5, NA5, hA5.out, by omega⟩
      · go_simp
        refine hK.out _ _ (KS.out _ HA5.out) (fun hH9 => ?_)
        clear hK K hH1
        refine wpAnyH_ready (rs := [7]) (by kernel_rfl) (by simp) ?_
        refine AllReadyH.cons rfl (fun K hK => ?_) AllReadyH.nil
        go_simp
        go_wp2_with (go_at_call 27; refine (CN.out _).mono ?_; rintro e wx ⟨rfl, hwx⟩; subst wx)
        refine hK.out _ _ (KS.out _ HA5.out) (fun hH10 => ?_)
        clear hK K hH9
        refine wpAnyH_ready (rs := [10]) (by kernel_rfl) (by simp) ?_
        refine AllReadyH.cons rfl (fun K hK => ?_) AllReadyH.nil
        go_simp
        go_wp2_with (go_at_call 27; refine (CN.out _).mono ?_; rintro e wx ⟨rfl, hwx⟩; subst wx)
        refine hK.out _ _ (KS.out _ HA5.out) (fun hH11 => ?_)
        clear hK K hH10
        refine wpAnyH_take (i := 11) (v := ?_) rfl (by kernel_rfl) (by kernel_rfl) (by kernel_rfl) (fun _ _ _ h => h) (Or.inl ⟨by rfl, ?_⟩) (by assumption) ?_
        rotate_left
        · (intro w hSw; (try dsimp only at hSw); first | (go_simp; done) | (go_simp; with_reducible rfl))
        simp only [Act.put, List.getElem_toArray, List.getElem_cons_zero, List.getElem_cons_succ, List.setIfInBounds_toArray, List.set_cons_zero, List.set_cons_succ]
        refine wpAnyH_ready (rs := [13]) (by kernel_rfl) (by simp) ?_
        refine AllReadyH.cons rfl (fun K hK => ?_) AllReadyH.nil
        go_simp
        refine hK.out _ _ (KS.out _ HC5.out) (fun hH12 => ?_)
        clear hK K hH11
        refine wpAnyH_done (by kernel_rfl) ?_ _
        clear hH12
        have CB : Blk (wc.alloc (.cells #[.int .i64 1, .slice A5 1 c5, .slice none 0 0, .slice none 0 0] 24)) wc.heap.size 24 #[.int .i64 1, .slice A5 1 c5, .slice none 0 0, .slice none 0 0] := Blk.new _ _ _
        have B5 : Below (w.heap.size + 2) W2 (wc.alloc (.cells #[.int .i64 1, .slice A5 1 c5, .slice none 0 0, .slice none 0 0] 24)) := HC5.out
        have NA5 : Nums .i64 (wc.alloc (.cells #[.int .i64 1, .slice A5 1 c5, .slice none 0 0, .slice none 0 0] 24)) A5 [2] := base.Nums.keep NA.out (made _ _)
        exact ⟨A5, c5, _, rfl, CB, B5, NA5, hA5.out, by omega⟩
    · go_simp
      refine hK.out _ _ (KS.out _ HA.out) (fun hH13 => ?_)
      clear hK K hHeld
      refine wpAnyH_ready (rs := [4]) (by kernel_rfl) (by simp) ?_
      refine AllReadyH.cons rfl (fun K hK => ?_) AllReadyH.nil
      go_simp
      go_wp2_with (go_at_call 27; refine (CN3.out _ NHA.out).mono ?_; rintro e wc ⟨v5, rfl, own5, hb5⟩)
      obtain ⟨A5, c5, rfl, -, -, hn5, hlie5⟩ := own5.open_
      have CBz := Lib.hid (CBA.out.below hb5 CBA.out.lt)
      have HB5 := Lib.hid (up HA.out hb5 (by have := CBA.out.lt; omega))
      have NA := Lib.hid hn5
      have sz5 := hb5.size
      have hA50 : ∀ ad, A5 = some ad → ad.block ≠ w4.heap.size ∧ ad.block ≠ w.heap.size + 1 := fun ad e => by
        have hn := SA.out
        rcases hlie5 with ⟨e2, _⟩ | ⟨g, e2, hg, _⟩
        · rw [e2] at e; cases e
        · rw [e2] at e
          injection e with e
          subst e
          exact ⟨by show g ≠ _; omega, by show g ≠ _; omega⟩
      have hA5 := Lib.hid hA50
      clear own5 hb5 hn5 hlie5 hA50
      refine hK.out _ _ (KS.out _ HB5.out) (fun hH14 => ?_)
      clear hK K hH13
      refine wpAnyH_ready (rs := [7]) (by kernel_rfl) (by simp) ?_
      refine AllReadyH.cons rfl (fun K hK => ?_) AllReadyH.nil
      go_simp
      go_wp2_with (go_at_call 27; refine (CN.out _).mono ?_; rintro e wx ⟨rfl, hwx⟩; subst wx)
      refine hK.out _ _ (KS.out _ HB5.out) (fun hH15 => ?_)
      clear hK K hH14
      refine wpAnyH_ready (rs := [10]) (by kernel_rfl) (by simp) ?_
      refine AllReadyH.cons rfl (fun K hK => ?_) AllReadyH.nil
      go_simp
      go_wp2_with (go_at_call 27; refine (CN.out _).mono ?_; rintro e wx ⟨rfl, hwx⟩; subst wx)
      refine hK.out _ _ (KS.out _ HB5.out) (fun hH16 => ?_)
      clear hK K hH15
      refine wpAnyH_take (i := 11) (v := ?_) rfl (by kernel_rfl) (by kernel_rfl) (by kernel_rfl) (fun _ _ _ h => h) (Or.inl ⟨by rfl, ?_⟩) (by assumption) ?_
      rotate_left
      · (intro w hSw; (try dsimp only at hSw); first | (go_simp; done) | (go_simp; with_reducible rfl))
      simp only [Act.put, List.getElem_toArray, List.getElem_cons_zero, List.getElem_cons_succ, List.setIfInBounds_toArray, List.set_cons_zero, List.set_cons_succ]
      have z0 := CBz.out.cell 0
      have z1 := CBz.out.cell 1
      have z2 := CBz.out.cell 2
      have z3 := CBz.out.cell 3
      have y0 := CBz.out.free 0
      have y1 := CBz.out.free 1
      have y2 := CBz.out.free 2
      have y3 := CBz.out.free 3
      have CB : Blk ((((wc.setCell ⟨w4.heap.size, 0, none⟩ (.int .i64 1)).setCell ⟨w4.heap.size, 1, none⟩ (.slice A5 1 c5)).setCell ⟨w4.heap.size, 2, none⟩ (.slice none 0 0)).setCell ⟨w4.heap.size, 3, none⟩ (.slice none 0 0)) w4.heap.size 24 #[.int .i64 1, .slice A5 1 c5, .slice none 0 0, .slice none 0 0] := (((CBz.out.put 0 _).put 1 _).put 2 _).put 3 _
      have B5 : Below (w.heap.size + 2) W2 ((((wc.setCell ⟨w4.heap.size, 0, none⟩ (.int .i64 1)).setCell ⟨w4.heap.size, 1, none⟩ (.slice A5 1 c5)).setCell ⟨w4.heap.size, 2, none⟩ (.slice none 0 0)).setCell ⟨w4.heap.size, 3, none⟩ (.slice none 0 0)) := (((HB5.out.setCell (p := ⟨w4.heap.size, 0, none⟩) (by show _ ≤ w4.heap.size; omega) _).setCell (p := ⟨w4.heap.size, 1, none⟩) (by show _ ≤ w4.heap.size; omega) _).setCell (p := ⟨w4.heap.size, 2, none⟩) (by show _ ≤ w4.heap.size; omega) _).setCell (p := ⟨w4.heap.size, 3, none⟩) (by show _ ≤ w4.heap.size; omega) _
      have NA5 : Nums .i64 ((((wc.setCell ⟨w4.heap.size, 0, none⟩ (.int .i64 1)).setCell ⟨w4.heap.size, 1, none⟩ (.slice A5 1 c5)).setCell ⟨w4.heap.size, 2, none⟩ (.slice none 0 0)).setCell ⟨w4.heap.size, 3, none⟩ (.slice none 0 0)) A5 [2] := nums_four NA.out (fun ad e => (hA5.out ad e).1)
      have HS := Lib.hid B5
      refine wpAnyH_ready (rs := [13]) (by kernel_rfl) (by simp) ?_
      refine AllReadyH.cons rfl (fun K hK => ?_) AllReadyH.nil
      go_simp
      refine hK.out _ _ (KS.out _ HS.out) (fun hH17 => ?_)
      clear hK K hH16
      refine wpAnyH_done (by kernel_rfl) ?_ _
      clear hH17 z0 z1 z2 z3 y0 y1 y2 y3
      exact ⟨A5, c5, _, rfl, CB, B5, NA5, hA5.out, by omega⟩
end Go.Proofs.YtemkhblogmdleaaDoor.ac
