/-
  Contracts of package stall: New, Has, Till, Total, Price.
-/
import Derived.Test.YthnjacfpnbhfpaaStA
import Derived.Test.YthnjacfpnbhfpaaStG
import Derived.Laws.Cover3
namespace Go.Proofs.Ythnjacfpnbhfpaa.st
open Go.RowKit
open base (ret_bool ret_int made up Blk Only)
open rk mk
set_option linter.unusedVariables false
set_option linter.unusedSimpArgs false
variable {B g bs bw : Nat} {w w1 w2 w' : World} {s : S3} {tot : Int} {nT nG : Nat} {P M : Int → Nat}

def S0 : S3 := ⟨fun _ => none, fun _ => none, fun _ => 0⟩
theorem Gd.nil : Gd S0 := ⟨fun n t h => (by cases h), fun t h p e => (by cases e), fun n => Nat.zero_le _⟩
set_option maxHeartbeats 1000000 in
theorem new_any (w : World) : Calls Try.prog 7 #[] w fun e w' => e = .returned (.pointer (some ⟨w.heap.size + 1 + 1, 0, none⟩)) ∧ SAt w' w.heap.size (w.heap.size + 1 + 1) w.heap.size (w.heap.size + 1) S0 0 0 0 (fun _ => 0) (fun _ => 0) ∧ Below w.heap.size w w' := by
  have hmm := @run_makeMap Try.prog
  have h1 := made w (.map #[] 0)
  have h2 := h1.alloc (o := .map #[] 0) (by rw [asz]; omega)
  have h3 := Lib.hid (h2.alloc (o := .cells #[.map (some w.heap.size), .map (some (w.heap.size + 1)), .int .i64 0] 67) (by rw [asz, asz]; omega))
  have bx := Blk.new ((w.alloc (.map #[] 0)).alloc (.map #[] 0)) 67 #[.map (some w.heap.size), .map (some (w.heap.size + 1)), .int .i64 0]
  rw [asz, asz] at bx
  have m1 := (MapIs.alloc (IMap.made (P := Try.prog) (k := 3) w) (.map #[] 0))
  have m2 := IMap.made (P := Try.prog) (k := 3) (w.alloc (.map #[] 0))
  rw [asz] at m2
  have RA := Lib.hid (show SAt (((w.alloc (.map #[] 0)).alloc (.map #[] 0)).alloc (.cells #[.map (some w.heap.size), .map (some (w.heap.size + 1)), .int .i64 0] 67)) w.heap.size (w.heap.size + 1 + 1) w.heap.size (w.heap.size + 1) S0 0 0 0 (fun _ => 0) (fun _ => 0) from
    ⟨bx, MapIs.alloc m1 _, MapIs.alloc m2 _, fun n t h => (by cases h), fun n k t u _ h => (by cases h), fun n t h => (by cases h), by omega, by omega, by omega, by omega, Gd.nil⟩)
  clear h1 h2 bx m1 m2
  go_enter Try.func7, Try.ntmps7
  go_wp2_with fail
  go_ret
  exact ⟨rfl, RA.out, h3.out⟩
set_option maxHeartbeats 1000000 in
theorem has_any (n : Int) (H : SAt w B g bs bw s tot nT nG P M) (hw : (Lit.int .i64 n).wf = true) :
    Calls Try.prog 13 #[.pointer (some ⟨g, 0, none⟩), .int .i64 n] w fun e w' => e = .returned (.bool (s.T n).isSome) ∧ w = w' := by
  have c0 := H.blk.cell 0
  have lk := H.s_ok hw
  clear H
  generalize (s.T n).isSome = q at *
  go_enter Try.func13, Try.ntmps13
  go_wp2_with fail
  go_ret
  exact ⟨rfl, rfl⟩
set_option maxHeartbeats 1000000 in
theorem total_any (H : SAt w B g bs bw s tot nT nG P M) :
    Calls Try.prog 21 #[.pointer (some ⟨g, 0, none⟩)] w fun e w' => e = .returned (.int .i64 tot) ∧ w = w' := by
  have c0 := H.blk.cell 2
  clear H
  go_enter Try.func21, Try.ntmps21
  go_wp2_with fail
  go_ret
  exact ⟨rfl, rfl⟩
set_option maxRecDepth 100000 in
set_option maxHeartbeats 1000000 in
theorem till_any (n : Int) (H : SAt w B g bs bw s tot nT nG P M) (hw : (Lit.int .i64 n).wf = true) :
    Calls Try.prog 29 #[.pointer (some ⟨g, 0, none⟩), .int .i64 n] w fun e w' => e = .returned (.tuple #[.int .i64 ((s.T n).getD 0), .int .i64 (if (s.T n).isSome then 0 else 14)]) ∧ w = w' := by
  have c0 := H.blk.cell 0
  have lk := H.s_ok hw
  cases q : s.T n with
  | none =>
    have e1 : ptr s.T P n = none := by unfold ptr; rw [q]; rfl
    rw [q, e1] at lk
    replace lk : (Instr.lookup 64 (.map (some bs)) (.int .i64 n) true).run Try.prog w = .ok (.tuple #[.pointer none, .bool false]) w := lk
    clear H q e1
    go_enter Try.func29, Try.ntmps29
    go_wp2_with fail
    go_ret2
    exact ⟨rfl, rfl⟩
  | some t =>
    have e1 : ptr s.T P n = some (.pointer (some ⟨P n, 0, none⟩)) := by unfold ptr; rw [q]; rfl
    rw [q, e1] at lk
    replace lk : (Instr.lookup 64 (.map (some bs)) (.int .i64 n) true).run Try.prog w = .ok (.tuple #[.pointer (some ⟨P n, 0, none⟩), .bool true]) w := lk
    have p0 := (H.one n t q).blk.cell 0
    clear H q e1
    go_enter Try.func29, Try.ntmps29
    go_wp2_with fail
    go_ret2
    exact ⟨rfl, rfl⟩
def prA (s : S3) (t : Int) : Int := match s.G t with | some (h, _) => h | none => 0
def prB (s : S3) (t : Int) : Int := match s.G t with | some (_, p) => p | none => 0
def prE (s : S3) (t : Int) : Int := match s.G t with | some _ => 0 | none => 14
set_option maxRecDepth 100000 in
set_option maxHeartbeats 1000000 in
theorem price_any (n : Int) (H : SAt w B g bs bw s tot nT nG P M) (hw : (Lit.int .i64 n).wf = true) :
    Calls Try.prog 11 #[.pointer (some ⟨g, 0, none⟩), .int .i64 n] w fun e w' => e = .returned (.tuple #[.int .i64 (prA s n), .int .i64 (prB s n), .int .i64 (prE s n)]) ∧ Below w.heap.size w w' := by
  have c0 := H.blk.cell 0
  have c1 := H.blk.cell 1
  have lk := H.w_ok hw
  cases q : s.G n with
  | none =>
    rw [q] at lk
    replace lk : (Instr.lookup 65 (.map (some bw)) (.int .i64 n) true).run Try.prog w = .ok (.tuple #[.int .i64 0, .bool false]) w := lk
    have e1 : prA s n = 0 ∧ prB s n = 0 ∧ prE s n = 14 := by unfold prA prB prE; rw [q]; exact ⟨rfl, rfl, rfl⟩
    rw [e1.1, e1.2.1, e1.2.2]
    clear H q e1
    go_enter Try.func11, Try.ntmps11
    go_wp2_with fail
    go_ret3
    exact ⟨rfl, Below.refl _ _⟩
  | some d =>
    obtain ⟨h, p⟩ := d
    rw [q] at lk
    replace lk : (Instr.lookup 65 (.map (some bw)) (.int .i64 n) true).run Try.prog w = .ok (.tuple #[.int .i64 h, .bool true]) w := lk
    have e1 : prA s n = h ∧ prB s n = p ∧ prE s n = 0 := by unfold prA prB prE; rw [q]; exact ⟨rfl, rfl, rfl⟩
    rw [e1.1, e1.2.1, e1.2.2]
    obtain ⟨gT, _⟩ := H.gd.good n h p q
    obtain ⟨t, ht⟩ := Option.isSome_iff_exists.1 gT
    have H2 := H.below ((Below.refl w.heap.size w).drew)
    have l2 := H2.s_at ht
    have on := H2.one h t ht
    have l3 := on.at_ q hw
    have p1 := on.blk.cell 1
    have d0 := H2.blk.cell 0
    have SS := Lib.hid (show w.drew.cell? ⟨g, 0, none⟩ = some (.map (some bs)) ∧ w.drew.cell? ⟨P h, 1, none⟩ = some (.map (some (M h))) from ⟨d0, p1⟩)
    have DD := Lib.hid ((Below.refl w.heap.size w).drew)
    clear H q e1 H2 on gT ht
    go_enter Try.func11, Try.ntmps11
    go_upto_region 4 with fail
    refine wp_region_held_drew (S := fun ws => ws.cell? ⟨g, 0, none⟩ = some (.map (some bs)) ∧ ws.cell? ⟨P h, 1, none⟩ = some (.map (some (M h)))) (by kernel_rfl) SS.out (fun hHeld => ?_)
    generalize w.drew = w2 at *
    refine wpAnyH_take (i := 0) (v := ?_) rfl (by kernel_rfl) (by kernel_rfl) (by kernel_rfl) (fun _ _ _ h => h) (Or.inl ⟨by rfl, ?_⟩) (by assumption) ?_
    rotate_left
    · (intro w hSw; (try dsimp only at hSw); first | (go_simp; done) | (go_simp; with_reducible rfl))
    simp only [Act.put, List.getElem_toArray, List.getElem_cons_zero, List.getElem_cons_succ, List.setIfInBounds_toArray, List.set_cons_zero, List.set_cons_succ]
    refine wpAnyH_take (i := 1) (v := ?_) rfl (by kernel_rfl) (by kernel_rfl) (by kernel_rfl) (fun _ _ _ h => h) (Or.inl ⟨by rfl, ?_⟩) (by assumption) ?_
    rotate_left
    · (intro w hSw; (try dsimp only at hSw); first | (go_simp; done) | (go_simp; with_reducible rfl))
    simp only [Act.put, List.getElem_toArray, List.getElem_cons_zero, List.getElem_cons_succ, List.setIfInBounds_toArray, List.set_cons_zero, List.set_cons_succ]
    refine wpAnyH_take (i := 2) (v := ?_) rfl (by kernel_rfl) (by kernel_rfl) (by kernel_rfl) (fun _ _ _ h => h) (Or.inl ⟨by rfl, ?_⟩) (by assumption) ?_
    rotate_left
    · (intro w hSw; (try dsimp only at hSw); first | (go_simp; done) | (go_simp; with_reducible rfl))
    simp only [Act.put, List.getElem_toArray, List.getElem_cons_zero, List.getElem_cons_succ, List.setIfInBounds_toArray, List.set_cons_zero, List.set_cons_succ]
    refine wpAnyH_take (i := 3) (v := ?_) rfl (by kernel_rfl) (by kernel_rfl) (by kernel_rfl) (fun _ _ _ h => h) (Or.inl ⟨by rfl, ?_⟩) (by assumption) ?_
    rotate_left
    · (intro w hSw; (try dsimp only at hSw); first | (go_simp; done) | (go_simp; with_reducible rfl))
    simp only [Act.put, List.getElem_toArray, List.getElem_cons_zero, List.getElem_cons_succ, List.setIfInBounds_toArray, List.set_cons_zero, List.set_cons_succ]
    refine wpAnyH_take (i := 4) (v := ?_) rfl (by kernel_rfl) (by kernel_rfl) (by kernel_rfl) (fun _ _ _ h => h) (Or.inl ⟨by rfl, ?_⟩) (by assumption) ?_
    rotate_left
    · (intro w hSw; (try dsimp only at hSw); first | (go_simp; done) | (go_simp; with_reducible rfl))
    simp only [Act.put, List.getElem_toArray, List.getElem_cons_zero, List.getElem_cons_succ, List.setIfInBounds_toArray, List.set_cons_zero, List.set_cons_succ]
    refine wpAnyH_take (i := 5) (v := ?_) rfl (by kernel_rfl) (by kernel_rfl) (by kernel_rfl) (fun _ _ _ h => h) (Or.inl ⟨by rfl, ?_⟩) (by assumption) ?_
    rotate_left
    · (intro w hSw; (try dsimp only at hSw); first | (go_simp; done) | (go_simp; with_reducible rfl))
    simp only [Act.put, List.getElem_toArray, List.getElem_cons_zero, List.getElem_cons_succ, List.setIfInBounds_toArray, List.set_cons_zero, List.set_cons_succ]
    refine wpAnyH_take (i := 10) (v := ?_) rfl (by kernel_rfl) (by kernel_rfl) (by kernel_rfl) (fun _ _ _ h => h) (Or.inl ⟨by rfl, ?_⟩) (by assumption) ?_
    rotate_left
    · (intro w hSw; (try dsimp only at hSw); first | (go_simp; done) | (go_simp; with_reducible rfl))
    simp only [Act.put, List.getElem_toArray, List.getElem_cons_zero, List.getElem_cons_succ, List.setIfInBounds_toArray, List.set_cons_zero, List.set_cons_succ]
    refine wpAnyH_take (i := 12) (v := ?_) rfl (by kernel_rfl) (by kernel_rfl) (by kernel_rfl) (fun _ _ _ h => h) (Or.inl ⟨by rfl, ?_⟩) (by assumption) ?_
    rotate_left
    · (intro w hSw; (try dsimp only at hSw); first | (go_simp; done) | (go_simp; with_reducible rfl))
    simp only [Act.put, List.getElem_toArray, List.getElem_cons_zero, List.getElem_cons_succ, List.setIfInBounds_toArray, List.set_cons_zero, List.set_cons_succ]
    refine wpAnyH_ready (rs := [6]) (by kernel_rfl) (by simp) ?_
    refine AllReadyH.cons rfl (fun K hK => ?_) AllReadyH.nil
    go_simp
    refine hK.out _ _ SS.out (fun hHeld2 => ?_)
    clear hK K hHeld
    refine wpAnyH_take (i := 7) (v := ?_) rfl (by kernel_rfl) (by kernel_rfl) (by kernel_rfl) (fun _ _ _ h => h) (Or.inl ⟨by rfl, ?_⟩) (by assumption) ?_
    rotate_left
    · (intro w hSw; (try dsimp only at hSw); first | (go_simp; done) | (go_simp; with_reducible rfl))
    simp only [Act.put, List.getElem_toArray, List.getElem_cons_zero, List.getElem_cons_succ, List.setIfInBounds_toArray, List.set_cons_zero, List.set_cons_succ]
    refine wpAnyH_take (i := 8) (v := ?_) rfl (by kernel_rfl) (by kernel_rfl) (by kernel_rfl) (fun _ _ _ h => h) (Or.inl ⟨by rfl, ?_⟩) (by assumption) ?_
    rotate_left
    · (intro w hSw; (try dsimp only at hSw); first | (go_simp; done) | (go_simp; with_reducible rfl))
    simp only [Act.put, List.getElem_toArray, List.getElem_cons_zero, List.getElem_cons_succ, List.setIfInBounds_toArray, List.set_cons_zero, List.set_cons_succ]
    refine wpAnyH_take (i := 9) (v := ?_) rfl (by kernel_rfl) (by kernel_rfl) (by kernel_rfl) (fun _ _ _ h => h) (Or.inl ⟨by rfl, ?_⟩) (by assumption) ?_
    rotate_left
    · (intro w hSw; (try dsimp only at hSw); first | (go_simp; done) | (go_simp; with_reducible rfl))
    simp only [Act.put, List.getElem_toArray, List.getElem_cons_zero, List.getElem_cons_succ, List.setIfInBounds_toArray, List.set_cons_zero, List.set_cons_succ]
    refine wpAnyH_ready (rs := [11]) (by kernel_rfl) (by simp) ?_
    refine AllReadyH.cons rfl (fun K hK => ?_) AllReadyH.nil
    go_simp
    refine hK.out _ _ SS.out (fun hHeld => ?_)
    clear hK K hHeld2
    refine wpAnyH_take (i := 13) (v := ?_) rfl (by kernel_rfl) (by kernel_rfl) (by kernel_rfl) (fun _ _ _ h => h) (Or.inl ⟨by rfl, ?_⟩) (by assumption) ?_
    rotate_left
    · (intro w hSw; (try dsimp only at hSw); first | (go_simp; done) | (go_simp; with_reducible rfl))
    simp only [Act.put, List.getElem_toArray, List.getElem_cons_zero, List.getElem_cons_succ, List.setIfInBounds_toArray, List.set_cons_zero, List.set_cons_succ]
    refine wpAnyH_take (i := 14) (v := ?_) rfl (by kernel_rfl) (by kernel_rfl) (by kernel_rfl) (fun _ _ _ h => h) (Or.inl ⟨by rfl, ?_⟩) (by assumption) ?_
    rotate_left
    · (intro w hSw; (try dsimp only at hSw); first | (go_simp; done) | (go_simp; with_reducible rfl))
    simp only [Act.put, List.getElem_toArray, List.getElem_cons_zero, List.getElem_cons_succ, List.setIfInBounds_toArray, List.set_cons_zero, List.set_cons_succ]
    refine wpAnyH_done (by kernel_rfl) ?_ _
    go_wp2_with fail
    go_ret3
    exact ⟨rfl, DD.out⟩
end Go.Proofs.Ythnjacfpnbhfpaa.st
