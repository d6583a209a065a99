/-
  The queue and the document's list: Get, and all.
-/
import Derived.Test.YtmfhellpdpfoaaaQuQ
import Derived.Test.YtmfhellpdpfoaaaQuR
import Derived.LoopTactic
namespace Go.Proofs.Ytmfhellpdpfoaaa.qu
open Go.RowKit
open base (ret_bool ret_int made up Blk Only)
open rk mk
set_option linter.unusedVariables false
set_option linter.unusedSimpArgs false
variable {w w' : World} {q sb B : Nat} {vl : Value} {L M : List It} {ad : Int} {F F' : Nat → Prop}

set_option maxRecDepth 100000 in
set_option maxHeartbeats 8000000 in
theorem step_5 {A : Option Addr} {c : Nat} (P : Pair F w q sb (.slice A M.length c) M ad B) (had : ad ≤ 98000) (n t : Int) (s : ByteArray) (hn : (Lit.int .i64 n).wf = true) :
    Calls Try.prog 10 #[.pointer (some ⟨sb, 0, none⟩), .pointer (some ⟨q, 0, none⟩), .agg #[.int .i64 5, .int .i64 n, .int .i64 t, .string s]] w (StepQ q sb B ad w) := by
  have OB := Lib.hid (Blk.new w 31 #[.int .i64 5, .int .i64 n, .int .i64 t, .string s])
  have M1 := Lib.hid (made w (.cells #[.int .i64 5, .int .i64 n, .int .i64 t, .string s] 31))
  have P1 := Lib.hid (P.below M1.out)
  have BW := Lib.hid P.size
  have hml : M.length ≤ 99000 := by have := P.len; omega
  have PL := Lib.hid P.len
  clear P
  go_enter Try.func10, Try.ntmps10
  go_upto_region 1 with fail
  generalize w.alloc (.cells #[.int .i64 5, .int .i64 n, .int .i64 t, .string s] 31) = w1 at *
  have P2 := Lib.hid (show Pair F w1.drew q sb _ M ad B from P1.out.below (Below.refl _ _).drew)
  have OB2 := Lib.hid (show Blk w1.drew w.heap.size _ _ from OB.out.drewN 1)
  have M2 := Lib.hid (show Below w.heap.size w w1.drew from M1.out.drew)
  clear P1 OB M1
  refine wp_region_held_drew (S := fun ws => ws.cell? ⟨sb, 0, none⟩ = some (.slice A M.length c) ∧ ws.cell? ⟨w.heap.size, 1, none⟩ = some (.int .i64 n)) (by kernel_rfl) ⟨P2.out.st.blk.cell 0, OB2.out.cell 1⟩ (fun hHeld => ?_)
  generalize w1.drew = W at *
  have LA := Lib.hid (layO P2.out.st.row)
  have FD := Lib.hid (find_any A c M n W LA.out (by omega))
  have BM := Lib.hid (show Bf B w W from Bf.new M2.out BW.out)
  refine wpAnyH_take (i := 0) (v := ?_) rfl (by kernel_rfl) (by kernel_rfl) (by kernel_rfl) (fun _ _ _ h => h) (Or.inl ⟨by rfl, ?_⟩) (by assumption) ?_
  rotate_left
  · (intro w hSw; (try dsimp only at hSw); first | (go_simp; done) | (go_simp; with_reducible rfl))
  simp only [Act.put, List.getElem_toArray, List.getElem_cons_zero, List.getElem_cons_succ, List.setIfInBounds_toArray, List.set_cons_zero, List.set_cons_succ]
  refine wpAnyH_take (i := 1) (v := ?_) rfl (by kernel_rfl) (by kernel_rfl) (by kernel_rfl) (fun _ _ _ h => h) (Or.inl ⟨by rfl, ?_⟩) (by assumption) ?_
  rotate_left
  · (intro w hSw; (try dsimp only at hSw); first | (go_simp; done) | (go_simp; with_reducible rfl))
  simp only [Act.put, List.getElem_toArray, List.getElem_cons_zero, List.getElem_cons_succ, List.setIfInBounds_toArray, List.set_cons_zero, List.set_cons_succ]
  refine wpAnyH_take (i := 2) (v := ?_) rfl (by kernel_rfl) (by kernel_rfl) (by kernel_rfl) (fun _ _ _ h => h) (Or.inl ⟨by rfl, ?_⟩) (by assumption) ?_
  rotate_left
  · (intro w hSw; (try dsimp only at hSw); first | (go_simp; done) | (go_simp; with_reducible rfl))
  simp only [Act.put, List.getElem_toArray, List.getElem_cons_zero, List.getElem_cons_succ, List.setIfInBounds_toArray, List.set_cons_zero, List.set_cons_succ]
  refine wpAnyH_take (i := 3) (v := ?_) rfl (by kernel_rfl) (by kernel_rfl) (by kernel_rfl) (fun _ _ _ h => h) (Or.inl ⟨by rfl, ?_⟩) (by assumption) ?_
  rotate_left
  · (intro w hSw; (try dsimp only at hSw); first | (go_simp; done) | (go_simp; with_reducible rfl))
  simp only [Act.put, List.getElem_toArray, List.getElem_cons_zero, List.getElem_cons_succ, List.setIfInBounds_toArray, List.set_cons_zero, List.set_cons_succ]
  refine wpAnyH_take (i := 4) (v := ?_) rfl (by kernel_rfl) (by kernel_rfl) (by kernel_rfl) (fun _ _ _ h => h) (Or.inl ⟨by rfl, ?_⟩) (by assumption) ?_
  rotate_left
  · (intro w hSw; (try dsimp only at hSw); first | (go_simp; done) | (go_simp; with_reducible rfl))
  simp only [Act.put, List.getElem_toArray, List.getElem_cons_zero, List.getElem_cons_succ, List.setIfInBounds_toArray, List.set_cons_zero, List.set_cons_succ]
  refine wpAnyH_take (i := 5) (v := ?_) rfl (by kernel_rfl) (by kernel_rfl) (by kernel_rfl) (fun _ _ _ h => h) (Or.inl ⟨by rfl, ?_⟩) (by assumption) ?_
  rotate_left
  · (intro w hSw; (try dsimp only at hSw); first | (go_simp; done) | (go_simp; with_reducible rfl))
  simp only [Act.put, List.getElem_toArray, List.getElem_cons_zero, List.getElem_cons_succ, List.setIfInBounds_toArray, List.set_cons_zero, List.set_cons_succ]
  refine wpAnyH_ready (rs := [6]) (by kernel_rfl) (by simp) ?_
  refine AllReadyH.cons rfl (fun K hK => ?_) AllReadyH.nil
  go_simp
  refine FD.out.mono ?_
  rintro e w2 ⟨v, rfl, r, rfl, hr, rfl⟩
  have FI := Lib.hid hr
  refine hK.out _ _ ⟨P2.out.st.blk.cell 0, OB2.out.cell 1⟩ (fun hHeld2 => ?_)
  clear hK K hHeld hr FD
  refine wpAnyH_take (i := 7) (v := ?_) rfl (by kernel_rfl) (by kernel_rfl) (by kernel_rfl) (fun _ _ _ h => h) (Or.inl ⟨by rfl, ?_⟩) (by assumption) ?_
  rotate_left
  · (intro w hSw; (try dsimp only at hSw); first | (go_simp; done) | (go_simp; with_reducible rfl))
  simp only [Act.put, List.getElem_toArray, List.getElem_cons_zero, List.getElem_cons_succ, List.setIfInBounds_toArray, List.set_cons_zero, List.set_cons_succ]
  refine wpAnyH_done (by kernel_rfl) ?_ _
  clear hHeld2
  have o0 := OB2.out.cell 0
  have o1 := OB2.out.cell 1
  have o2 := OB2.out.cell 2
  have o3 := OB2.out.cell 3
  have s0 := P2.out.st.blk.cell 0
  have s1 := P2.out.st.blk.cell 1
  have f0 := P2.out.st.blk.free 0
  have f1 := P2.out.st.blk.free 1
  rcases FI.out with ⟨rfl, hno⟩ | ⟨k, hk, rfl, hkn⟩
  · have CA := Lib.hid (get_no P2.out.qs hn (by omega) hno)
    have FIN := Lib.hid (show ∃ F' vl' M' ad', Pair F' W q sb vl' M' ad' B ∧ Bf B w W ∧ ad' ≤ ad + 1 from ⟨F, _, M, ad, P2.out, BM.out, by omega⟩)
    clear FI hno
    go_wp2_with fail
    refine CA.out.mono ?_
    rintro e w3 ⟨rfl, rfl⟩
    go_wp2_with fail
    go_ret
    exact ⟨rfl, FIN.out⟩
  · have tk : decide ((k : Int) < 0) = false := decide_eq_false (by omega)
    have tl : decide (k < M.length) = true := decide_eq_true hk
    have CA := Lib.hid (get_yes P2.out.qs hk (by rw [hkn]; exact hn) (by omega))
    rw [hkn] at CA
    clear FI
    go_wp2_with fail
    refine CA.out.mono ?_
    rintro e w3 ⟨rfl, hb3⟩
    have P3 := Lib.hid (P2.out.below hb3)
    have B3 := Lib.hid (Bf.up BM.out hb3 (Nat.le_trans BW.out BM.out.size))
    obtain ⟨bb, off, rfl, e0, e1, e2⟩ := layQ (LA.out.below hb3) hk
    generalize at_ M k = dd at *
    obtain ⟨d0, d1, d2⟩ := dd
    dsimp only at *
    clear s0 s1 f0 f1 o0 o1 o2 o3 hb3 CA
    have s0 := P3.out.st.blk.cell 0
    have q1 : (d1 == d1) = true := by simp
    go_wp2_with fail
    go_ret
    exact ⟨ret_bool (by simp), F, _, M, ad, P3.out, B3.out, by omega⟩
set_option maxRecDepth 100000 in
set_option maxHeartbeats 8000000 in
theorem step_0 {A : Option Addr} {c : Nat} (P : Pair F w q sb (.slice A M.length c) M ad B) (had : ad ≤ 98000) (kd : Int) (h1 : kd ≠ 1) (h2 : kd ≠ 2) (h3 : kd ≠ 3) (h4 : kd ≠ 4) (h5 : kd ≠ 5) (n t : Int) (s : ByteArray) (hn : (Lit.int .i64 n).wf = true) :
    Calls Try.prog 10 #[.pointer (some ⟨sb, 0, none⟩), .pointer (some ⟨q, 0, none⟩), .agg #[.int .i64 kd, .int .i64 n, .int .i64 t, .string s]] w (StepQ q sb B ad w) := by
  have OB := Lib.hid (Blk.new w 31 #[.int .i64 kd, .int .i64 n, .int .i64 t, .string s])
  have M1 := Lib.hid (made w (.cells #[.int .i64 kd, .int .i64 n, .int .i64 t, .string s] 31))
  have P1 := Lib.hid (P.below M1.out)
  have BW := Lib.hid P.size
  have hml : M.length ≤ 99000 := by have := P.len; omega
  have PL := Lib.hid P.len
  clear P
  go_enter Try.func10, Try.ntmps10
  go_upto_region 1 with fail
  generalize w.alloc (.cells #[.int .i64 kd, .int .i64 n, .int .i64 t, .string s] 31) = w1 at *
  have P2 := Lib.hid (show Pair F w1.drew q sb _ M ad B from P1.out.below (Below.refl _ _).drew)
  have OB2 := Lib.hid (show Blk w1.drew w.heap.size _ _ from OB.out.drewN 1)
  have M2 := Lib.hid (show Below w.heap.size w w1.drew from M1.out.drew)
  clear P1 OB M1
  refine wp_region_held_drew (S := fun ws => ws.cell? ⟨sb, 0, none⟩ = some (.slice A M.length c) ∧ ws.cell? ⟨w.heap.size, 1, none⟩ = some (.int .i64 n)) (by kernel_rfl) ⟨P2.out.st.blk.cell 0, OB2.out.cell 1⟩ (fun hHeld => ?_)
  generalize w1.drew = W at *
  have LA := Lib.hid (layO P2.out.st.row)
  have FD := Lib.hid (find_any A c M n W LA.out (by omega))
  have BM := Lib.hid (show Bf B w W from Bf.new M2.out BW.out)
  refine wpAnyH_take (i := 0) (v := ?_) rfl (by kernel_rfl) (by kernel_rfl) (by kernel_rfl) (fun _ _ _ h => h) (Or.inl ⟨by rfl, ?_⟩) (by assumption) ?_
  rotate_left
  · (intro w hSw; (try dsimp only at hSw); first | (go_simp; done) | (go_simp; with_reducible rfl))
  simp only [Act.put, List.getElem_toArray, List.getElem_cons_zero, List.getElem_cons_succ, List.setIfInBounds_toArray, List.set_cons_zero, List.set_cons_succ]
  refine wpAnyH_take (i := 1) (v := ?_) rfl (by kernel_rfl) (by kernel_rfl) (by kernel_rfl) (fun _ _ _ h => h) (Or.inl ⟨by rfl, ?_⟩) (by assumption) ?_
  rotate_left
  · (intro w hSw; (try dsimp only at hSw); first | (go_simp; done) | (go_simp; with_reducible rfl))
  simp only [Act.put, List.getElem_toArray, List.getElem_cons_zero, List.getElem_cons_succ, List.setIfInBounds_toArray, List.set_cons_zero, List.set_cons_succ]
  refine wpAnyH_take (i := 2) (v := ?_) rfl (by kernel_rfl) (by kernel_rfl) (by kernel_rfl) (fun _ _ _ h => h) (Or.inl ⟨by rfl, ?_⟩) (by assumption) ?_
  rotate_left
  · (intro w hSw; (try dsimp only at hSw); first | (go_simp; done) | (go_simp; with_reducible rfl))
  simp only [Act.put, List.getElem_toArray, List.getElem_cons_zero, List.getElem_cons_succ, List.setIfInBounds_toArray, List.set_cons_zero, List.set_cons_succ]
  refine wpAnyH_take (i := 3) (v := ?_) rfl (by kernel_rfl) (by kernel_rfl) (by kernel_rfl) (fun _ _ _ h => h) (Or.inl ⟨by rfl, ?_⟩) (by assumption) ?_
  rotate_left
  · (intro w hSw; (try dsimp only at hSw); first | (go_simp; done) | (go_simp; with_reducible rfl))
  simp only [Act.put, List.getElem_toArray, List.getElem_cons_zero, List.getElem_cons_succ, List.setIfInBounds_toArray, List.set_cons_zero, List.set_cons_succ]
  refine wpAnyH_take (i := 4) (v := ?_) rfl (by kernel_rfl) (by kernel_rfl) (by kernel_rfl) (fun _ _ _ h => h) (Or.inl ⟨by rfl, ?_⟩) (by assumption) ?_
  rotate_left
  · (intro w hSw; (try dsimp only at hSw); first | (go_simp; done) | (go_simp; with_reducible rfl))
  simp only [Act.put, List.getElem_toArray, List.getElem_cons_zero, List.getElem_cons_succ, List.setIfInBounds_toArray, List.set_cons_zero, List.set_cons_succ]
  refine wpAnyH_take (i := 5) (v := ?_) rfl (by kernel_rfl) (by kernel_rfl) (by kernel_rfl) (fun _ _ _ h => h) (Or.inl ⟨by rfl, ?_⟩) (by assumption) ?_
  rotate_left
  · (intro w hSw; (try dsimp only at hSw); first | (go_simp; done) | (go_simp; with_reducible rfl))
  simp only [Act.put, List.getElem_toArray, List.getElem_cons_zero, List.getElem_cons_succ, List.setIfInBounds_toArray, List.set_cons_zero, List.set_cons_succ]
  refine wpAnyH_ready (rs := [6]) (by kernel_rfl) (by simp) ?_
  refine AllReadyH.cons rfl (fun K hK => ?_) AllReadyH.nil
  go_simp
  refine FD.out.mono ?_
  rintro e w2 ⟨v, rfl, r, rfl, hr, rfl⟩
  have FI := Lib.hid hr
  refine hK.out _ _ ⟨P2.out.st.blk.cell 0, OB2.out.cell 1⟩ (fun hHeld2 => ?_)
  clear hK K hHeld hr FD
  refine wpAnyH_take (i := 7) (v := ?_) rfl (by kernel_rfl) (by kernel_rfl) (by kernel_rfl) (fun _ _ _ h => h) (Or.inl ⟨by rfl, ?_⟩) (by assumption) ?_
  rotate_left
  · (intro w hSw; (try dsimp only at hSw); first | (go_simp; done) | (go_simp; with_reducible rfl))
  simp only [Act.put, List.getElem_toArray, List.getElem_cons_zero, List.getElem_cons_succ, List.setIfInBounds_toArray, List.set_cons_zero, List.set_cons_succ]
  refine wpAnyH_done (by kernel_rfl) ?_ _
  clear hHeld2
  have o0 := OB2.out.cell 0
  have o1 := OB2.out.cell 1
  have o2 := OB2.out.cell 2
  have o3 := OB2.out.cell 3
  have s0 := P2.out.st.blk.cell 0
  have s1 := P2.out.st.blk.cell 1
  have f0 := P2.out.st.blk.free 0
  have f1 := P2.out.st.blk.free 1
  have q1 : (kd == 1) = false := by simpa using h1
  have q2 : (kd == 2) = false := by simpa using h2
  have q3 : (kd == 3) = false := by simpa using h3
  have q4 : (kd == 4) = false := by simpa using h4
  have q5 : (kd == 5) = false := by simpa using h5
  have FIN := Lib.hid (show ∃ F' vl' M' ad', Pair F' W q sb vl' M' ad' B ∧ Bf B w W ∧ ad' ≤ ad + 1 from ⟨F, _, M, ad, P2.out, BM.out, by omega⟩)
  clear FI h1 h2 h3 h4 h5
  go_wp2_with fail
  go_ret
  exact ⟨rfl, FIN.out⟩
theorem step_any (P : Pair F w q sb vl M ad B) (had : ad ≤ 98000) (kd n t : Int) (s : ByteArray) (hn : (Lit.int .i64 n).wf = true) :
    Calls Try.prog 10 #[.pointer (some ⟨sb, 0, none⟩), .pointer (some ⟨q, 0, none⟩), .agg #[.int .i64 kd, .int .i64 n, .int .i64 t, .string s]] w (StepQ q sb B ad w) := by
  obtain ⟨A, c, rfl, -⟩ := P.open_
  by_cases h1 : kd = 1
  · subst h1; exact step_1 P had n t s hn
  by_cases h2 : kd = 2
  · subst h2; exact step_2 P had n t s hn
  by_cases h3 : kd = 3
  · subst h3; exact step_3 P had n t s hn
  by_cases h4 : kd = 4
  · subst h4; exact step_4 P had n t s hn
  by_cases h5 : kd = 5
  · subst h5; exact step_5 P had n t s hn
  exact step_0 P had kd h1 h2 h3 h4 h5 n t s hn
end Go.Proofs.Ytmfhellpdpfoaaa.qu
