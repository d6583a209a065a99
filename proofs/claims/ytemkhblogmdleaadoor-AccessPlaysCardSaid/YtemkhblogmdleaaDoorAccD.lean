/-
  Contracts of package access: a first one is put on a list (the fixed answer's calls).
-/
import Derived.Test.YtemkhblogmdleaaDoorAccC
import Derived.StillTailTactics
import Derived.Deep.RegionHeld
namespace Go.Proofs.YtemkhblogmdleaaDoor.ac
open Go.RowKit
open base (ret_bool ret_int made up Blk Only Nums)
set_option linter.unusedVariables false
set_option linter.unusedSimpArgs false

theorem asz (w : World) (o : Obj) : (w.alloc o).heap.size = w.heap.size + 1 := by first | exact Array.size_push _ | simp
set_option maxHeartbeats 1000000 in
theorem clone_nil (w : World) :
    Calls Tryd.prog 27 #[.slice none 0 0] w fun e w' => e = .returned (.slice none 0 0) ∧ w' = w := by
  have Q := eql_nil w none 0 0
  go_enter Tryd.func27, Tryd.ntmps27
  go_wp2_with fail
  go_ret
  exact ⟨rfl, rfl⟩
set_option maxHeartbeats 1000000 in
theorem index_nil (p : Int) (w : World) :
    Calls Tryd.prog 31 #[.slice none 0 0, .int .i64 p] w fun e w' => e = .returned (.int .i64 (-1)) ∧ w' = w :=
  index_any none 0 [] p none w (fun h => absurd h (by simp)) (fun j h => absurd h (by simp)) (by simp)
set_option maxHeartbeats 1000000 in
theorem person_two (w : World) : Calls Tryd.prog 28 #[.int .i64 2] w fun e w' => e = .returned (.bool true) ∧ w' = w := by
  go_enter Tryd.func28, Tryd.ntmps28
  go_wp2_with fail
  go_ret
  exact ⟨rfl, rfl⟩
def NewHP (w : World) (e : Ending) (w' : World) : Prop := e = .returned (.agg #[.int .i64 1, .slice none 0 0, .slice none 0 0, .slice none 0 0]) ∧ Below w.heap.size w w'
set_option maxHeartbeats 1000000 in
theorem new_one (w : World) : Calls Tryd.prog 23 #[.int .i64 1] w (NewHP w) := by
  have bx : Blk (w.alloc (.cells #[.int .i64 1, .slice none 0 0, .slice none 0 0, .slice none 0 0] 24)) w.heap.size 24 #[.int .i64 1, .slice none 0 0, .slice none 0 0, .slice none 0 0] := Blk.new _ _ _
  have b0 := bx.cell 0
  have b1 := bx.cell 1
  have b2 := bx.cell 2
  have b3 := bx.cell 3
  have HB := Lib.hid (made w (.cells #[.int .i64 1, .slice none 0 0, .slice none 0 0, .slice none 0 0] 24))
  clear bx
  go_enter Tryd.func23, Tryd.ntmps23
  go_wp2_with fail
  refine bodyPost_ret (v := .agg #[.int .i64 1, .slice none 0 0, .slice none 0 0, .slice none 0 0]) (by simp [results, Tryd.results23, go_sem, b0, b1, b2, b3]) rfl ⟨rfl, HB.out⟩
def ListsP (b : Nat) (w : World) (e : Ending) (w' : World) : Prop := e = .returned (.agg #[.pointer (some ⟨b, 1, none⟩), .pointer (some ⟨b, 2, none⟩), .pointer (some ⟨b, 3, none⟩)]) ∧ Below w.heap.size w w'
set_option maxHeartbeats 1000000 in
theorem lists_any (b : Nat) (w : World) : Calls Tryd.prog 26 #[.pointer (some ⟨b, 0, none⟩)] w (ListsP b w) := by
  have bx : Blk ((w.alloc (.cells #[.pointer (some ⟨b, 1, none⟩), .pointer (some ⟨b, 2, none⟩), .pointer (some ⟨b, 3, none⟩)] 41)).drew) w.heap.size 41 #[.pointer (some ⟨b, 1, none⟩), .pointer (some ⟨b, 2, none⟩), .pointer (some ⟨b, 3, none⟩)] := (Blk.new _ _ _)
  have b0 := bx.cell 0
  have b1 := bx.cell 1
  have b2 := bx.cell 2
  have HB := Lib.hid ((made w (.cells #[.pointer (some ⟨b, 1, none⟩), .pointer (some ⟨b, 2, none⟩), .pointer (some ⟨b, 3, none⟩)] 41)).drew)
  clear bx
  go_enter Tryd.func26, Tryd.ntmps26
  go_wp2_with fail
  go_still_tail 10, (by kernel_rfl)
  repeat still_step
  change wpList _ _ _ _ _ (w.alloc (.cells #[.pointer none, .pointer none, .pointer none] 41)).drew
  go_wp2
  refine bodyPost_ret (v := .agg #[.pointer (some ⟨b, 1, none⟩), .pointer (some ⟨b, 2, none⟩), .pointer (some ⟨b, 3, none⟩)]) (by simp [results, Tryd.results26, go_sem, b0, b1, b2]) rfl ⟨rfl, HB.out⟩

theorem idx3_0 (p q r : Value) : ∀ w, (Instr.index 41 (.agg #[p, q, r]) (.int .i64 0)).run Tryd.prog w = .ok p w := fun _ => by kernel_rfl
def SetP (w : World) (A0 : Option Addr) (e : Ending) (w' : World) : Prop := ∃ A c, e = .returned (.tuple #[.agg #[.int .i64 1, .slice A 1 c, .slice none 0 0, .slice none 0 0], .int .i64 0]) ∧ Nums .i64 w' A [2] ∧ Below w.heap.size w w'
theorem set_fin (w W2 w9 : World) (cB : Nat) (A9 : Option Addr) (c9 : Nat) (HB2 : Below w.heap.size w W2) (B9 : Below (w.heap.size + 2) W2 w9) (hs : W2.heap.size = w.heap.size + 2) (CB : Blk w9 cB 24 #[.int .i64 1, .slice none 0 0, .slice none 0 0, .slice none 0 0]) (RB : Blk w9 (w.heap.size + 1) 24 #[.int .i64 0, .slice none 0 0, .slice none 0 0, .slice none 0 0])
    (NN : Nums .i64 w9 A9 [2]) (hA : ∀ ad, A9 = some ad → ad.block ≠ cB ∧ ad.block ≠ w.heap.size + 1) (hcB : w.heap.size + 2 ≤ cB) :
    Blk (((((w9.setCell ⟨cB, 1, none⟩ (.slice A9 1 c9)).setCell ⟨w.heap.size + 1, 0, none⟩ (.int .i64 1)).setCell ⟨w.heap.size + 1, 1, none⟩ (.slice A9 1 c9)).setCell ⟨w.heap.size + 1, 2, none⟩ (.slice none 0 0)).setCell ⟨w.heap.size + 1, 3, none⟩ (.slice none 0 0)) (w.heap.size + 1) 24 #[.int .i64 1, .slice A9 1 c9, .slice none 0 0, .slice none 0 0] ∧ Nums .i64 (((((w9.setCell ⟨cB, 1, none⟩ (.slice A9 1 c9)).setCell ⟨w.heap.size + 1, 0, none⟩ (.int .i64 1)).setCell ⟨w.heap.size + 1, 1, none⟩ (.slice A9 1 c9)).setCell ⟨w.heap.size + 1, 2, none⟩ (.slice none 0 0)).setCell ⟨w.heap.size + 1, 3, none⟩ (.slice none 0 0)) A9 [2] ∧ Below w.heap.size w (((((w9.setCell ⟨cB, 1, none⟩ (.slice A9 1 c9)).setCell ⟨w.heap.size + 1, 0, none⟩ (.int .i64 1)).setCell ⟨w.heap.size + 1, 1, none⟩ (.slice A9 1 c9)).setCell ⟨w.heap.size + 1, 2, none⟩ (.slice none 0 0)).setCell ⟨w.heap.size + 1, 3, none⟩ (.slice none 0 0)) := by
  refine ⟨?_, ?_, ?_⟩
  · exact ((((RB.far (p := ⟨cB, 1, none⟩) (show w.heap.size + 1 ≠ cB by omega) _).put 0 _).put 1 _).put 2 _).put 3 _
  · intro h0
    obtain ⟨b, off, rfl, hb, hc⟩ := NN h0
    obtain ⟨h1, h2⟩ := hA _ rfl
    have key : ∀ {wa : World} {p : Addr} (u : Value), b ≠ p.block → wa.heap[b]? = w9.heap[b]? → (wa.setCell p u).heap[b]? = w9.heap[b]? := fun u hp e => (Below.heap_setCell _ _ u b hp).trans e
    have e := key (p := ⟨w.heap.size + 1, 3, none⟩) (.slice none 0 0) h2 (key (p := ⟨w.heap.size + 1, 2, none⟩) (.slice none 0 0) h2 (key (p := ⟨w.heap.size + 1, 1, none⟩) (.slice (some ⟨b, off, none⟩) 1 c9) h2 (key (p := ⟨w.heap.size + 1, 0, none⟩) (.int .i64 1) h2 (key (wa := w9) (p := ⟨cB, 1, none⟩) (.slice (some ⟨b, off, none⟩) 1 c9) h1 rfl))))
    refine ⟨b, off, rfl, ?_, fun j hj => ?_⟩
    · have : w9.heap[b]? ≠ none := by rw [Array.getElem?_eq_getElem hb]; simp
      rw [← e] at this
      rcases Nat.lt_or_ge b ((((((w9.setCell ⟨cB, 1, none⟩ (.slice (some ⟨b, off, none⟩) 1 c9)).setCell ⟨w.heap.size + 1, 0, none⟩ (.int .i64 1)).setCell ⟨w.heap.size + 1, 1, none⟩ (.slice (some ⟨b, off, none⟩) 1 c9)).setCell ⟨w.heap.size + 1, 2, none⟩ (.slice none 0 0)).setCell ⟨w.heap.size + 1, 3, none⟩ (.slice none 0 0))).heap.size with q | q
      · exact q
      · exact absurd (Array.getElem?_eq_none q) this
    · rw [← hc j hj]
      exact World.cell?_of_block (w := w9) (a := ⟨b, off + j, none⟩) e
  · refine Below.setCell (Below.setCell (Below.setCell (Below.setCell (Below.setCell (up HB2 B9 (by omega)) ?_ _) ?_ _) ?_ _) ?_ _) ?_ _ <;> simp <;> omega
set_option maxRecDepth 100000 in
set_option maxHeartbeats 4000000 in
theorem set_one (w : World) :
    Calls Tryd.prog 19 #[.agg #[.int .i64 1, .slice none 0 0, .slice none 0 0, .slice none 0 0], .int .i64 1, .int .i64 2, .bool true] w (SetP w none) := by
  have bx : Blk (w.alloc (.cells #[.int .i64 1, .slice none 0 0, .slice none 0 0, .slice none 0 0] 24)) w.heap.size 24 #[.int .i64 1, .slice none 0 0, .slice none 0 0, .slice none 0 0] := Blk.new _ _ _
  have by_ : Blk ((w.alloc (.cells #[.int .i64 1, .slice none 0 0, .slice none 0 0, .slice none 0 0] 24)).alloc (.cells #[.int .i64 0, .slice none 0 0, .slice none 0 0, .slice none 0 0] 24)) (w.heap.size + 1) 24 #[.int .i64 0, .slice none 0 0, .slice none 0 0, .slice none 0 0] := by
    have := Blk.new (w.alloc (.cells #[.int .i64 1, .slice none 0 0, .slice none 0 0, .slice none 0 0] 24)) 24 #[.int .i64 0, .slice none 0 0, .slice none 0 0, .slice none 0 0]
    rw [asz] at this
    exact this
  have bx2 := bx.alloc (.cells #[.int .i64 0, .slice none 0 0, .slice none 0 0, .slice none 0 0] 24)
  have hb2 : Below w.heap.size w ((w.alloc (.cells #[.int .i64 1, .slice none 0 0, .slice none 0 0, .slice none 0 0] 24)).alloc (.cells #[.int .i64 0, .slice none 0 0, .slice none 0 0, .slice none 0 0] 24)) := (made w _).alloc (by rw [asz]; omega) _
  have hs2 : ((w.alloc (.cells #[.int .i64 1, .slice none 0 0, .slice none 0 0, .slice none 0 0] 24)).alloc (.cells #[.int .i64 0, .slice none 0 0, .slice none 0 0, .slice none 0 0] 24)).heap.size = w.heap.size + 2 := by rw [asz, asz]
  have LI := Lib.hid (fun b ws => lists_any b ws)
  have CN := Lib.hid clone_nil
  have IX := Lib.hid (index_nil 2)
  have BS := Lib.hid (bsearch_nil 2)
  have KS0 : ∀ ws, Below (w.heap.size + 2) ((w.alloc (.cells #[.int .i64 1, .slice none 0 0, .slice none 0 0, .slice none 0 0] 24)).alloc (.cells #[.int .i64 0, .slice none 0 0, .slice none 0 0, .slice none 0 0] 24)) ws → ws.cell? ⟨w.heap.size, 0, none⟩ = some (.int .i64 1) ∧ ws.cell? ⟨w.heap.size, 1, none⟩ = some (.slice none 0 0) ∧ ws.cell? ⟨w.heap.size, 2, none⟩ = some (.slice none 0 0) ∧ ws.cell? ⟨w.heap.size, 3, none⟩ = some (.slice none 0 0) := fun ws hb => by
    have b := bx2.below hb (by omega)
    exact ⟨b.cell 0, b.cell 1, b.cell 2, b.cell 3⟩
  have KR0 : ∀ ws, Below (w.heap.size + 2) ((w.alloc (.cells #[.int .i64 1, .slice none 0 0, .slice none 0 0, .slice none 0 0] 24)).alloc (.cells #[.int .i64 0, .slice none 0 0, .slice none 0 0, .slice none 0 0] 24)) ws → Blk ws (w.heap.size + 1) 24 #[.int .i64 0, .slice none 0 0, .slice none 0 0, .slice none 0 0] := fun ws hb => by_.below hb (by omega)
  have KS := Lib.hid KS0
  have KR := Lib.hid KR0
  have HB2 := Lib.hid hb2
  clear KS0 KR0 bx bx2 by_ hb2
  go_enter Tryd.func19, Tryd.ntmps19
  go_wp2_with fail
  refine (LI.out _ _).mono ?_
  rintro e w3 ⟨rfl, hb3⟩
  rw [hs2] at hb3
  have B3 := Lib.hid hb3
  have PE := Lib.hid (person_two w3)
  have S3 := KS.out _ hb3
  obtain ⟨b0, b1, b2, b3⟩ := S3
  have hsz := hb3.size
  rw [hs2] at hsz
  clear hb3
  go_wp2_with fail
  refine PE.out.mono ?_
  rintro e w4 ⟨rfl, rfl⟩
  go_wp2_with fail
  have HB4 := Lib.hid B3.out.drew
  have HA := Lib.hid ((B3.out.drew).alloc (by simpa using hsz) (.cells #[.int .i64 0, .slice none 0 0, .slice none 0 0, .slice none 0 0] 24))
  have HC := Lib.hid ((B3.out.drew).alloc (by simpa using hsz) (.cells #[.int .i64 1, .slice none 0 0, .slice none 0 0, .slice none 0 0] 24))
  generalize hW2 : ((w.alloc (.cells #[.int .i64 1, .slice none 0 0, .slice none 0 0, .slice none 0 0] 24)).alloc (.cells #[.int .i64 0, .slice none 0 0, .slice none 0 0, .slice none 0 0] 24)) = W2 at *
  refine wp_region_held_drew (S := (fun ws => ws.cell? ⟨w.heap.size, 0, none⟩ = some (.int .i64 1) ∧ ws.cell? ⟨w.heap.size, 1, none⟩ = some (.slice none 0 0) ∧ ws.cell? ⟨w.heap.size, 2, none⟩ = some (.slice none 0 0) ∧ ws.cell? ⟨w.heap.size, 3, none⟩ = some (.slice none 0 0))) (by kernel_rfl) (KS.out _ HB4.out) (fun hHeld => ?_)
  refine wpAnyH_take (i := 0) (v := ?_) rfl (by kernel_rfl) (by kernel_rfl) (by kernel_rfl) (fun _ _ _ h => h) (Or.inl ⟨by rfl, ?_⟩) (by assumption) ?_
  rotate_left
  · (intro w hSw; (try dsimp only at hSw); first | (go_simp; done) | (go_simp; with_reducible rfl))
  simp only [Act.put, List.getElem_toArray, List.getElem_cons_zero, List.getElem_cons_succ, List.setIfInBounds_toArray, List.set_cons_zero, List.set_cons_succ]
  refine wpAnyH_take (i := 1) (v := ?_) rfl (by kernel_rfl) (by kernel_rfl) (by kernel_rfl) (fun _ _ _ h => h) (Or.inl ⟨by rfl, ?_⟩) (by assumption) ?_
  rotate_left
  · (intro w hSw; (try dsimp only at hSw); first | (go_simp; done) | (go_simp; with_reducible rfl))
  simp only [Act.put, List.getElem_toArray, List.getElem_cons_zero, List.getElem_cons_succ, List.setIfInBounds_toArray, List.set_cons_zero, List.set_cons_succ]
  refine wpAnyH_take (i := 2) (v := ?_) rfl (by kernel_rfl) (by kernel_rfl) (by kernel_rfl) (fun _ _ _ h => h) (Or.inl ⟨by rfl, ?_⟩) (by assumption) ?_
  rotate_left
  · (intro w hSw; (try dsimp only at hSw); first | (go_simp; done) | (go_simp; with_reducible rfl))
  simp only [Act.put, List.getElem_toArray, List.getElem_cons_zero, List.getElem_cons_succ, List.setIfInBounds_toArray, List.set_cons_zero, List.set_cons_succ]
  refine wpAnyH_take (i := 3) (v := ?_) rfl (by kernel_rfl) (by kernel_rfl) (by kernel_rfl) (fun _ _ _ h => h) (Or.inl ⟨by rfl, ?_⟩) (by assumption) ?_
  rotate_left
  · (intro w hSw; (try dsimp only at hSw); first | (go_simp; done) | (go_simp; with_reducible rfl))
  simp only [Act.put, List.getElem_toArray, List.getElem_cons_zero, List.getElem_cons_succ, List.setIfInBounds_toArray, List.set_cons_zero, List.set_cons_succ]
  refine wpAnyH_take (i := 5) (v := ?_) rfl (by kernel_rfl) (by kernel_rfl) (by kernel_rfl) (fun _ _ _ h => h) (Or.inl ⟨by rfl, ?_⟩) (by assumption) ?_
  rotate_left
  · (intro w hSw; (try dsimp only at hSw); first | (go_simp; done) | (go_simp; with_reducible rfl))
  simp only [Act.put, List.getElem_toArray, List.getElem_cons_zero, List.getElem_cons_succ, List.setIfInBounds_toArray, List.set_cons_zero, List.set_cons_succ]
  refine wpAnyH_take (i := 6) (v := ?_) rfl (by kernel_rfl) (by kernel_rfl) (by kernel_rfl) (fun _ _ _ h => h) (Or.inl ⟨by rfl, ?_⟩) (by assumption) ?_
  rotate_left
  · (intro w hSw; (try dsimp only at hSw); first | (go_simp; done) | (go_simp; with_reducible rfl))
  simp only [Act.put, List.getElem_toArray, List.getElem_cons_zero, List.getElem_cons_succ, List.setIfInBounds_toArray, List.set_cons_zero, List.set_cons_succ]
  refine wpAnyH_take (i := 8) (v := ?_) rfl (by kernel_rfl) (by kernel_rfl) (by kernel_rfl) (fun _ _ _ h => h) (Or.inl ⟨by rfl, ?_⟩) (by assumption) ?_
  rotate_left
  · (intro w hSw; (try dsimp only at hSw); first | (go_simp; done) | (go_simp; with_reducible rfl))
  simp only [Act.put, List.getElem_toArray, List.getElem_cons_zero, List.getElem_cons_succ, List.setIfInBounds_toArray, List.set_cons_zero, List.set_cons_succ]
  refine wpAnyH_take (i := 9) (v := ?_) rfl (by kernel_rfl) (by kernel_rfl) (by kernel_rfl) (fun _ _ _ h => h) (Or.inl ⟨by rfl, ?_⟩) (by assumption) ?_
  rotate_left
  · (intro w hSw; (try dsimp only at hSw); first | (go_simp; done) | (go_simp; with_reducible rfl))
  simp only [Act.put, List.getElem_toArray, List.getElem_cons_zero, List.getElem_cons_succ, List.setIfInBounds_toArray, List.set_cons_zero, List.set_cons_succ]
  refine wpAnyH_ready (rs := [4, 12]) (by kernel_rfl) (by simp) ?_
  refine AllReadyH.cons rfl (fun K hK => ?_) (AllReadyH.cons rfl (fun K hK => ?_) AllReadyH.nil)
  · go_simp
    go_wp2_with (go_at_call 27; refine (CN.out _).mono ?_; rintro e wx ⟨rfl, rfl⟩)
    refine hK.out _ _ (KS.out _ HB4.out) (fun hH1 => ?_)
    clear hK K hHeld
    refine wpAnyH_ready (rs := [7, 12]) (by kernel_rfl) (by simp) ?_
    refine AllReadyH.cons rfl (fun K hK => ?_) (AllReadyH.cons rfl (fun K hK => ?_) AllReadyH.nil)
    · go_simp
      go_wp2_with (go_at_call 27; refine (CN.out _).mono ?_; rintro e wx ⟨rfl, rfl⟩)
      refine hK.out _ _ (KS.out _ HB4.out) (fun hH2 => ?_)
      clear hK K hH1
      refine wpAnyH_ready (rs := [10, 12]) (by kernel_rfl) (by simp) ?_
      refine AllReadyH.cons rfl (fun K hK => ?_) (AllReadyH.cons rfl (fun K hK => ?_) AllReadyH.nil)
      · go_simp
        go_wp2_with (go_at_call 27; refine (CN.out _).mono ?_; rintro e wx ⟨rfl, rfl⟩)
        refine hK.out _ _ (KS.out _ HB4.out) (fun hH3 => ?_)
        clear hK K hH2
        refine wpAnyH_take (i := 11) (v := ?_) rfl (by kernel_rfl) (by kernel_rfl) (by kernel_rfl) (fun _ _ _ h => h) (Or.inl ⟨by rfl, ?_⟩) (by assumption) ?_
        rotate_left
        · (intro w hSw; (try dsimp only at hSw); first | (go_simp; done) | (go_simp; with_reducible rfl))
        simp only [Act.put, List.getElem_toArray, List.getElem_cons_zero, List.getElem_cons_succ, List.setIfInBounds_toArray, List.set_cons_zero, List.set_cons_succ]
        refine wpAnyH_ready (rs := [12]) (by kernel_rfl) (by simp) ?_
        refine AllReadyH.cons rfl (fun K hK => ?_) AllReadyH.nil
        go_simp
        refine hK.out _ _ (KS.out _ HA.out) (fun hH4 => ?_)
        clear hK K hH3
        refine wpAnyH_ready (rs := [13]) (by kernel_rfl) (by simp) ?_
        refine AllReadyH.cons rfl (fun K hK => ?_) AllReadyH.nil
        go_simp
        refine hK.out _ _ (KS.out _ HC.out) (fun hH5 => ?_)
        clear hK K hH4
        refine wpAnyH_done (by kernel_rfl) ?_ _
        clear hH5
        have CB : Blk ((w4.alloc (.cells #[.int .i64 1, .slice none 0 0, .slice none 0 0, .slice none 0 0] 24)).drew) w4.heap.size 24 #[.int .i64 1, .slice none 0 0, .slice none 0 0, .slice none 0 0] := Blk.new _ _ _
        have B5 : Below (w.heap.size + 2) W2 ((w4.alloc (.cells #[.int .i64 1, .slice none 0 0, .slice none 0 0, .slice none 0 0] 24)).drew) := HC.out
        have hs5 : ((w4.alloc (.cells #[.int .i64 1, .slice none 0 0, .slice none 0 0, .slice none 0 0] 24)).drew).heap.size = w4.heap.size + 1 := asz _ _
        generalize ((w4.alloc (.cells #[.int .i64 1, .slice none 0 0, .slice none 0 0, .slice none 0 0] 24)).drew) = w5 at *
        have CBH := Lib.hid CB
        have B5H := Lib.hid B5
        have S5 := Lib.hid hs5
        clear CB B5 hs5 HC HA HB4 KS B3 PE
        go_wp2_with fail
        refine (LI.out _ _).mono ?_
        rintro e w6 ⟨rfl, hb6⟩
        have CB6 := Lib.hid (CBH.out.below hb6 CBH.out.lt)
        have B6 := Lib.hid (up B5H.out hb6 (by have := S5.out; omega))
        have s6 := hb6.size
        rw [S5.out] at s6
        have c1 := CB6.out.cell 1
        have ix := idx3_0 (.pointer (some ⟨w4.heap.size, 1, none⟩)) (.pointer (some ⟨w4.heap.size, 2, none⟩)) (.pointer (some ⟨w4.heap.size, 3, none⟩))
        clear hb6
        go_wp2_with fail
        refine (IX.out _).mono ?_
        rintro e w7 ⟨rfl, rfl⟩
        go_wp2_with fail
        refine (BS.out _).mono ?_
        rintro e w8 ⟨rfl, rfl⟩
        have hbn := made w8 (.cells #[.int .i64 2] 3)
        have IN := Lib.hid (insert_nil w8.heap.size 2 (w8.alloc (.cells #[.int .i64 2] 3)) ((Blk.new w8 3 #[.int .i64 2]).cell 0) (by rw [asz]; omega))
        have CB8 := Lib.hid (CB6.out.below hbn (by omega))
        have B8 := Lib.hid (up B6.out hbn (by omega))
        have N8 := Lib.hid (asz w8 (.cells #[.int .i64 2] 3))
        clear hbn CB6 B6
        go_wp2_with fail
        refine IN.out.mono ?_
        rintro e w9 ⟨v, rfl, own9, hb9⟩
        obtain ⟨A9, c9, rfl, -, -, hn9, hlie⟩ := own9.open_
        have CB9 := Lib.hid (CB8.out.below hb9 (by have := N8.out; omega))
        have B9 := Lib.hid (up B8.out hb9 (by have := N8.out; omega))
        have NN := Lib.hid hn9
        have d0 := CB9.out.cell 0
        have d2 := CB9.out.cell 2
        have d3 := CB9.out.cell 3
        have d1 := CB9.out.cell 1
        have f1 := CB9.out.free 1
        have RB := KR.out _ B9.out
        have hA : ∀ ad, A9 = some ad → ad.block ≠ w4.heap.size ∧ ad.block ≠ w.heap.size + 1 := fun ad e => by
          have hn := N8.out
          rcases hlie with ⟨e2, _⟩ | ⟨g, e2, hg, _⟩
          · rw [e2] at e; cases e
          · rw [e2] at e
            injection e with e
            subst e
            exact ⟨by show g ≠ _; omega, by show g ≠ _; omega⟩
        obtain ⟨fb, fn, fl⟩ := set_fin w W2 w9 w4.heap.size A9 c9 HB2.out B9.out hs2 CB9.out RB NN.out hA (by omega)
        have g0 := fb.cell 0
        have g1 := fb.cell 1
        have g2 := fb.cell 2
        have g3 := fb.cell 3
        have FN := Lib.hid fn
        have FL := Lib.hid fl
        have e0 := RB.cell 0
        have e1 := RB.cell 1
        have e2 := RB.cell 2
        have e3 := RB.cell 3
        have r0 := RB.free 0
        have r1 := RB.free 1
        have r2 := RB.free 2
        have r3 := RB.free 3
        have ne1 : w4.heap.size ≠ w.heap.size + 1 := by omega
        have ne2 : w.heap.size + 1 ≠ w4.heap.size := by omega
        clear own9 hb9 hn9 CB8 B8 N8 IN RB c1 hlie hA fb fn fl
        go_wp2_with fail
        refine bodyPost_ret (v := .tuple #[.agg #[.int .i64 1, .slice A9 1 c9, .slice none 0 0, .slice none 0 0], .int .i64 0]) (by simp [results, Tryd.results19, go_sem, g0, g1, g2, g3]) rfl ⟨A9, c9, rfl, FN.out, FL.out⟩
      · go_simp
        refine hK.out _ _ (KS.out _ HA.out) (fun hH6 => ?_)
        clear hK K hH2
        refine wpAnyH_ready (rs := [10]) (by kernel_rfl) (by simp) ?_
        refine AllReadyH.cons rfl (fun K hK => ?_) AllReadyH.nil
        go_simp
        go_wp2_with (go_at_call 27; refine (CN.out _).mono ?_; rintro e wx ⟨rfl, rfl⟩)
        refine hK.out _ _ (KS.out _ HA.out) (fun hH7 => ?_)
        clear hK K hH6
        refine wpAnyH_take (i := 11) (v := ?_) rfl (by kernel_rfl) (by kernel_rfl) (by kernel_rfl) (fun _ _ _ h => h) (Or.inl ⟨by rfl, ?_⟩) (by assumption) ?_
        rotate_left
        · (intro w hSw; (try dsimp only at hSw); first | (go_simp; done) | (go_simp; with_reducible rfl))
        simp only [Act.put, List.getElem_toArray, List.getElem_cons_zero, List.getElem_cons_succ, List.setIfInBounds_toArray, List.set_cons_zero, List.set_cons_succ]
        refine wpAnyH_ready (rs := [13]) (by kernel_rfl) (by simp) ?_
        refine AllReadyH.cons rfl (fun K hK => ?_) AllReadyH.nil
        go_simp
        refine hK.out _ _ (KS.out _ HC.out) (fun hH8 => ?_)
        clear hK K hH7
        refine wpAnyH_done (by kernel_rfl) ?_ _
        clear hH8
        have CB : Blk ((w4.alloc (.cells #[.int .i64 1, .slice none 0 0, .slice none 0 0, .slice none 0 0] 24)).drew) w4.heap.size 24 #[.int .i64 1, .slice none 0 0, .slice none 0 0, .slice none 0 0] := Blk.new _ _ _
        have B5 : Below (w.heap.size + 2) W2 ((w4.alloc (.cells #[.int .i64 1, .slice none 0 0, .slice none 0 0, .slice none 0 0] 24)).drew) := HC.out
        have hs5 : ((w4.alloc (.cells #[.int .i64 1, .slice none 0 0, .slice none 0 0, .slice none 0 0] 24)).drew).heap.size = w4.heap.size + 1 := asz _ _
        generalize ((w4.alloc (.cells #[.int .i64 1, .slice none 0 0, .slice none 0 0, .slice none 0 0] 24)).drew) = w5 at *
        have CBH := Lib.hid CB
        have B5H := Lib.hid B5
        have S5 := Lib.hid hs5
        clear CB B5 hs5 HC HA HB4 KS B3 PE
        go_wp2_with fail
        refine (LI.out _ _).mono ?_
        rintro e w6 ⟨rfl, hb6⟩
        have CB6 := Lib.hid (CBH.out.below hb6 CBH.out.lt)
        have B6 := Lib.hid (up B5H.out hb6 (by have := S5.out; omega))
        have s6 := hb6.size
        rw [S5.out] at s6
        have c1 := CB6.out.cell 1
        have ix := idx3_0 (.pointer (some ⟨w4.heap.size, 1, none⟩)) (.pointer (some ⟨w4.heap.size, 2, none⟩)) (.pointer (some ⟨w4.heap.size, 3, none⟩))
        clear hb6
        go_wp2_with fail
        refine (IX.out _).mono ?_
        rintro e w7 ⟨rfl, rfl⟩
        go_wp2_with fail
        refine (BS.out _).mono ?_
        rintro e w8 ⟨rfl, rfl⟩
        have hbn := made w8 (.cells #[.int .i64 2] 3)
        have IN := Lib.hid (insert_nil w8.heap.size 2 (w8.alloc (.cells #[.int .i64 2] 3)) ((Blk.new w8 3 #[.int .i64 2]).cell 0) (by rw [asz]; omega))
        have CB8 := Lib.hid (CB6.out.below hbn (by omega))
        have B8 := Lib.hid (up B6.out hbn (by omega))
        have N8 := Lib.hid (asz w8 (.cells #[.int .i64 2] 3))
        clear hbn CB6 B6
        go_wp2_with fail
        refine IN.out.mono ?_
        rintro e w9 ⟨v, rfl, own9, hb9⟩
        obtain ⟨A9, c9, rfl, -, -, hn9, hlie⟩ := own9.open_
        have CB9 := Lib.hid (CB8.out.below hb9 (by have := N8.out; omega))
        have B9 := Lib.hid (up B8.out hb9 (by have := N8.out; omega))
        have NN := Lib.hid hn9
        have d0 := CB9.out.cell 0
        have d2 := CB9.out.cell 2
        have d3 := CB9.out.cell 3
        have d1 := CB9.out.cell 1
        have f1 := CB9.out.free 1
        have RB := KR.out _ B9.out
        have hA : ∀ ad, A9 = some ad → ad.block ≠ w4.heap.size ∧ ad.block ≠ w.heap.size + 1 := fun ad e => by
          have hn := N8.out
          rcases hlie with ⟨e2, _⟩ | ⟨g, e2, hg, _⟩
          · rw [e2] at e; cases e
          · rw [e2] at e
            injection e with e
            subst e
            exact ⟨by show g ≠ _; omega, by show g ≠ _; omega⟩
        obtain ⟨fb, fn, fl⟩ := set_fin w W2 w9 w4.heap.size A9 c9 HB2.out B9.out hs2 CB9.out RB NN.out hA (by omega)
        have g0 := fb.cell 0
        have g1 := fb.cell 1
        have g2 := fb.cell 2
        have g3 := fb.cell 3
        have FN := Lib.hid fn
        have FL := Lib.hid fl
        have e0 := RB.cell 0
        have e1 := RB.cell 1
        have e2 := RB.cell 2
        have e3 := RB.cell 3
        have r0 := RB.free 0
        have r1 := RB.free 1
        have r2 := RB.free 2
        have r3 := RB.free 3
        have ne1 : w4.heap.size ≠ w.heap.size + 1 := by omega
        have ne2 : w.heap.size + 1 ≠ w4.heap.size := by omega
        clear own9 hb9 hn9 CB8 B8 N8 IN RB c1 hlie hA fb fn fl
        go_wp2_with fail
        refine bodyPost_ret (v := .tuple #[.agg #[.int .i64 1, .slice A9 1 c9, .slice none 0 0, .slice none 0 0], .int .i64 0]) (by simp [results, Tryd.results19, go_sem, g0, g1, g2, g3]) rfl ⟨A9, c9, rfl, FN.out, FL.out⟩
    · go_simp
      refine hK.out _ _ (KS.out _ HA.out) (fun hH9 => ?_)
      clear hK K hH1
      refine wpAnyH_ready (rs := [7]) (by kernel_rfl) (by simp) ?_
      refine AllReadyH.cons rfl (fun K hK => ?_) AllReadyH.nil
      go_simp
      go_wp2_with (go_at_call 27; refine (CN.out _).mono ?_; rintro e wx ⟨rfl, rfl⟩)
      refine hK.out _ _ (KS.out _ HA.out) (fun hH10 => ?_)
      clear hK K hH9
      refine wpAnyH_ready (rs := [10]) (by kernel_rfl) (by simp) ?_
      refine AllReadyH.cons rfl (fun K hK => ?_) AllReadyH.nil
      go_simp
      go_wp2_with (go_at_call 27; refine (CN.out _).mono ?_; rintro e wx ⟨rfl, rfl⟩)
      refine hK.out _ _ (KS.out _ HA.out) (fun hH11 => ?_)
      clear hK K hH10
      refine wpAnyH_take (i := 11) (v := ?_) rfl (by kernel_rfl) (by kernel_rfl) (by kernel_rfl) (fun _ _ _ h => h) (Or.inl ⟨by rfl, ?_⟩) (by assumption) ?_
      rotate_left
      · (intro w hSw; (try dsimp only at hSw); first | (go_simp; done) | (go_simp; with_reducible rfl))
      simp only [Act.put, List.getElem_toArray, List.getElem_cons_zero, List.getElem_cons_succ, List.setIfInBounds_toArray, List.set_cons_zero, List.set_cons_succ]
      refine wpAnyH_ready (rs := [13]) (by kernel_rfl) (by simp) ?_
      refine AllReadyH.cons rfl (fun K hK => ?_) AllReadyH.nil
      go_simp
      refine hK.out _ _ (KS.out _ HC.out) (fun hH12 => ?_)
      clear hK K hH11
      refine wpAnyH_done (by kernel_rfl) ?_ _
      clear hH12
      have CB : Blk ((w4.alloc (.cells #[.int .i64 1, .slice none 0 0, .slice none 0 0, .slice none 0 0] 24)).drew) w4.heap.size 24 #[.int .i64 1, .slice none 0 0, .slice none 0 0, .slice none 0 0] := Blk.new _ _ _
      have B5 : Below (w.heap.size + 2) W2 ((w4.alloc (.cells #[.int .i64 1, .slice none 0 0, .slice none 0 0, .slice none 0 0] 24)).drew) := HC.out
      have hs5 : ((w4.alloc (.cells #[.int .i64 1, .slice none 0 0, .slice none 0 0, .slice none 0 0] 24)).drew).heap.size = w4.heap.size + 1 := asz _ _
      generalize ((w4.alloc (.cells #[.int .i64 1, .slice none 0 0, .slice none 0 0, .slice none 0 0] 24)).drew) = w5 at *
      have CBH := Lib.hid CB
      have B5H := Lib.hid B5
      have S5 := Lib.hid hs5
      clear CB B5 hs5 HC HA HB4 KS B3 PE
      go_wp2_with fail
      refine (LI.out _ _).mono ?_
      rintro e w6 ⟨rfl, hb6⟩
      have CB6 := Lib.hid (CBH.out.below hb6 CBH.out.lt)
      have B6 := Lib.hid (up B5H.out hb6 (by have := S5.out; omega))
      have s6 := hb6.size
      rw [S5.out] at s6
      have c1 := CB6.out.cell 1
      have ix := idx3_0 (.pointer (some ⟨w4.heap.size, 1, none⟩)) (.pointer (some ⟨w4.heap.size, 2, none⟩)) (.pointer (some ⟨w4.heap.size, 3, none⟩))
      clear hb6
      go_wp2_with fail
      refine (IX.out _).mono ?_
      rintro e w7 ⟨rfl, rfl⟩
      go_wp2_with fail
      refine (BS.out _).mono ?_
      rintro e w8 ⟨rfl, rfl⟩
      have hbn := made w8 (.cells #[.int .i64 2] 3)
      have IN := Lib.hid (insert_nil w8.heap.size 2 (w8.alloc (.cells #[.int .i64 2] 3)) ((Blk.new w8 3 #[.int .i64 2]).cell 0) (by rw [asz]; omega))
      have CB8 := Lib.hid (CB6.out.below hbn (by omega))
      have B8 := Lib.hid (up B6.out hbn (by omega))
      have N8 := Lib.hid (asz w8 (.cells #[.int .i64 2] 3))
      clear hbn CB6 B6
      go_wp2_with fail
      refine IN.out.mono ?_
      rintro e w9 ⟨v, rfl, own9, hb9⟩
      obtain ⟨A9, c9, rfl, -, -, hn9, hlie⟩ := own9.open_
      have CB9 := Lib.hid (CB8.out.below hb9 (by have := N8.out; omega))
      have B9 := Lib.hid (up B8.out hb9 (by have := N8.out; omega))
      have NN := Lib.hid hn9
      have d0 := CB9.out.cell 0
      have d2 := CB9.out.cell 2
      have d3 := CB9.out.cell 3
      have d1 := CB9.out.cell 1
      have f1 := CB9.out.free 1
      have RB := KR.out _ B9.out
      have hA : ∀ ad, A9 = some ad → ad.block ≠ w4.heap.size ∧ ad.block ≠ w.heap.size + 1 := fun ad e => by
        have hn := N8.out
        rcases hlie with ⟨e2, _⟩ | ⟨g, e2, hg, _⟩
        · rw [e2] at e; cases e
        · rw [e2] at e
          injection e with e
          subst e
          exact ⟨by show g ≠ _; omega, by show g ≠ _; omega⟩
      obtain ⟨fb, fn, fl⟩ := set_fin w W2 w9 w4.heap.size A9 c9 HB2.out B9.out hs2 CB9.out RB NN.out hA (by omega)
      have g0 := fb.cell 0
      have g1 := fb.cell 1
      have g2 := fb.cell 2
      have g3 := fb.cell 3
      have FN := Lib.hid fn
      have FL := Lib.hid fl
      have e0 := RB.cell 0
      have e1 := RB.cell 1
      have e2 := RB.cell 2
      have e3 := RB.cell 3
      have r0 := RB.free 0
      have r1 := RB.free 1
      have r2 := RB.free 2
      have r3 := RB.free 3
      have ne1 : w4.heap.size ≠ w.heap.size + 1 := by omega
      have ne2 : w.heap.size + 1 ≠ w4.heap.size := by omega
      clear own9 hb9 hn9 CB8 B8 N8 IN RB c1 hlie hA fb fn fl
      go_wp2_with fail
      refine bodyPost_ret (v := .tuple #[.agg #[.int .i64 1, .slice A9 1 c9, .slice none 0 0, .slice none 0 0], .int .i64 0]) (by simp [results, Tryd.results19, go_sem, g0, g1, g2, g3]) rfl ⟨A9, c9, rfl, FN.out, FL.out⟩
  · go_simp
    refine hK.out _ _ (KS.out _ HA.out) (fun hH13 => ?_)
    clear hK K hHeld
    refine wpAnyH_ready (rs := [4]) (by kernel_rfl) (by simp) ?_
    refine AllReadyH.cons rfl (fun K hK => ?_) AllReadyH.nil
    go_simp
    go_wp2_with (go_at_call 27; refine (CN.out _).mono ?_; rintro e wx ⟨rfl, rfl⟩)
    refine hK.out _ _ (KS.out _ HA.out) (fun hH14 => ?_)
    clear hK K hH13
    refine wpAnyH_ready (rs := [7]) (by kernel_rfl) (by simp) ?_
    refine AllReadyH.cons rfl (fun K hK => ?_) AllReadyH.nil
    go_simp
    go_wp2_with (go_at_call 27; refine (CN.out _).mono ?_; rintro e wx ⟨rfl, rfl⟩)
    refine hK.out _ _ (KS.out _ HA.out) (fun hH15 => ?_)
    clear hK K hH14
    refine wpAnyH_ready (rs := [10]) (by kernel_rfl) (by simp) ?_
    refine AllReadyH.cons rfl (fun K hK => ?_) AllReadyH.nil
    go_simp
    go_wp2_with (go_at_call 27; refine (CN.out _).mono ?_; rintro e wx ⟨rfl, rfl⟩)
    refine hK.out _ _ (KS.out _ HA.out) (fun hH16 => ?_)
    clear hK K hH15
    refine wpAnyH_take (i := 11) (v := ?_) rfl (by kernel_rfl) (by kernel_rfl) (by kernel_rfl) (fun _ _ _ h => h) (Or.inl ⟨by rfl, ?_⟩) (by assumption) ?_
    rotate_left
    · (intro w hSw; (try dsimp only at hSw); first | (go_simp; done) | (go_simp; with_reducible rfl))
    simp only [Act.put, List.getElem_toArray, List.getElem_cons_zero, List.getElem_cons_succ, List.setIfInBounds_toArray, List.set_cons_zero, List.set_cons_succ]
    refine wpAnyH_ready (rs := [13]) (by kernel_rfl) (by simp) ?_
    refine AllReadyH.cons rfl (fun K hK => ?_) AllReadyH.nil
    go_simp
    refine hK.out _ _ (KS.out _ HC.out) (fun hH17 => ?_)
    clear hK K hH16
    refine wpAnyH_done (by kernel_rfl) ?_ _
    clear hH17
    have CB : Blk ((w4.alloc (.cells #[.int .i64 1, .slice none 0 0, .slice none 0 0, .slice none 0 0] 24)).drew) w4.heap.size 24 #[.int .i64 1, .slice none 0 0, .slice none 0 0, .slice none 0 0] := Blk.new _ _ _
    have B5 : Below (w.heap.size + 2) W2 ((w4.alloc (.cells #[.int .i64 1, .slice none 0 0, .slice none 0 0, .slice none 0 0] 24)).drew) := HC.out
    have hs5 : ((w4.alloc (.cells #[.int .i64 1, .slice none 0 0, .slice none 0 0, .slice none 0 0] 24)).drew).heap.size = w4.heap.size + 1 := asz _ _
    generalize ((w4.alloc (.cells #[.int .i64 1, .slice none 0 0, .slice none 0 0, .slice none 0 0] 24)).drew) = w5 at *
    have CBH := Lib.hid CB
    have B5H := Lib.hid B5
    have S5 := Lib.hid hs5
    clear CB B5 hs5 HC HA HB4 KS B3 PE
    go_wp2_with fail
    refine (LI.out _ _).mono ?_
    rintro e w6 ⟨rfl, hb6⟩
    have CB6 := Lib.hid (CBH.out.below hb6 CBH.out.lt)
    have B6 := Lib.hid (up B5H.out hb6 (by have := S5.out; omega))
    have s6 := hb6.size
    rw [S5.out] at s6
    have c1 := CB6.out.cell 1
    have ix := idx3_0 (.pointer (some ⟨w4.heap.size, 1, none⟩)) (.pointer (some ⟨w4.heap.size, 2, none⟩)) (.pointer (some ⟨w4.heap.size, 3, none⟩))
    clear hb6
    go_wp2_with fail
    refine (IX.out _).mono ?_
    rintro e w7 ⟨rfl, rfl⟩
    go_wp2_with fail
    refine (BS.out _).mono ?_
    rintro e w8 ⟨rfl, rfl⟩
    have hbn := made w8 (.cells #[.int .i64 2] 3)
    have IN := Lib.hid (insert_nil w8.heap.size 2 (w8.alloc (.cells #[.int .i64 2] 3)) ((Blk.new w8 3 #[.int .i64 2]).cell 0) (by rw [asz]; omega))
    have CB8 := Lib.hid (CB6.out.below hbn (by omega))
    have B8 := Lib.hid (up B6.out hbn (by omega))
    have N8 := Lib.hid (asz w8 (.cells #[.int .i64 2] 3))
    clear hbn CB6 B6
    go_wp2_with fail
    refine IN.out.mono ?_
    rintro e w9 ⟨v, rfl, own9, hb9⟩
    obtain ⟨A9, c9, rfl, -, -, hn9, hlie⟩ := own9.open_
    have CB9 := Lib.hid (CB8.out.below hb9 (by have := N8.out; omega))
    have B9 := Lib.hid (up B8.out hb9 (by have := N8.out; omega))
    have NN := Lib.hid hn9
    have d0 := CB9.out.cell 0
    have d2 := CB9.out.cell 2
    have d3 := CB9.out.cell 3
    have d1 := CB9.out.cell 1
    have f1 := CB9.out.free 1
    have RB := KR.out _ B9.out
    have hA : ∀ ad, A9 = some ad → ad.block ≠ w4.heap.size ∧ ad.block ≠ w.heap.size + 1 := fun ad e => by
      have hn := N8.out
      rcases hlie with ⟨e2, _⟩ | ⟨g, e2, hg, _⟩
      · rw [e2] at e; cases e
      · rw [e2] at e
        injection e with e
        subst e
        exact ⟨by show g ≠ _; omega, by show g ≠ _; omega⟩
    obtain ⟨fb, fn, fl⟩ := set_fin w W2 w9 w4.heap.size A9 c9 HB2.out B9.out hs2 CB9.out RB NN.out hA (by omega)
    have g0 := fb.cell 0
    have g1 := fb.cell 1
    have g2 := fb.cell 2
    have g3 := fb.cell 3
    have FN := Lib.hid fn
    have FL := Lib.hid fl
    have e0 := RB.cell 0
    have e1 := RB.cell 1
    have e2 := RB.cell 2
    have e3 := RB.cell 3
    have r0 := RB.free 0
    have r1 := RB.free 1
    have r2 := RB.free 2
    have r3 := RB.free 3
    have ne1 : w4.heap.size ≠ w.heap.size + 1 := by omega
    have ne2 : w.heap.size + 1 ≠ w4.heap.size := by omega
    clear own9 hb9 hn9 CB8 B8 N8 IN RB c1 hlie hA fb fn fl
    go_wp2_with fail
    refine bodyPost_ret (v := .tuple #[.agg #[.int .i64 1, .slice A9 1 c9, .slice none 0 0, .slice none 0 0], .int .i64 0]) (by simp [results, Tryd.results19, go_sem, g0, g1, g2, g3]) rfl ⟨A9, c9, rfl, FN.out, FL.out⟩
end Go.Proofs.YtemkhblogmdleaaDoor.ac
