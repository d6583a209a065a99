/-
  R-trees: the iterators.
-/
import Derived.Test.YtndhdpjgnepfnaaTrAC
namespace Go.Proofs.Ytndhdpjgnepfnaa.tr
open Go.RowKit Go.Shelf
open base (ret_bool ret_int made up Blk Only)
open rk (Lay)
open rect rgm
set_option linter.unusedVariables false
set_option linter.unusedSimpArgs false
attribute [local go_sem] Oper.semAt_some

/-- the boxes of found$1, from block B on -/
structure FB (B t : Nat) (av : Value) (W : World) : Prop where
  qb : Blk W B 23 #[.pointer (some ⟨t, 0, none⟩)]
  rb : Blk W (B + 1) 45 #[av]
section
variable {B t : Nat} {av : Value} {W W' : World}
theorem FB.only {T : Nat → Prop} (h : FB B t av W) (ho : Only T W W') (h1 : ¬ T B) (h2 : ¬ T (B + 1)) : FB B t av W' := ⟨h.qb.only ho h1, h.rb.only ho h2⟩
theorem FB.below (h : FB B t av W) (hb : Below W.heap.size W W') : FB B t av W' := ⟨h.qb.below hb h.qb.lt, h.rb.below hb h.rb.lt⟩
end
def seqV (B : Nat) : Value := .func (.func 45) #[] #[.pointer (some ⟨B, 0, none⟩), .pointer (some ⟨B + 1, 0, none⟩)]
def avM (q : Bx) : Value := .func (.func 37) #[(.agg #[.int .i64 q.x, .int .i64 q.y, .int .i64 q.w, .int .i64 q.h])] #[]
def avR : Value := .func (.func 35) #[] #[]
set_option maxHeartbeats 2000000 in
theorem found_make (t : Nat) (f : Fn) (fs cp : Array Value) (w : World) : Calls Try.prog 34 #[.pointer (some ⟨t, 0, none⟩), .func f fs cp] w fun e w' => e = .returned (seqV w.heap.size) ∧ FB w.heap.size t (.func f fs cp) w' ∧ Below w.heap.size w w' := by
  have hm := Lib.hid (show Below w.heap.size w ((w.alloc (.cells #[.pointer (some ⟨t, 0, none⟩)] 23)).alloc (.cells #[.func f fs cp] 45)) from (made w _).alloc (by rw [asz]; omega) _)
  have bx := Lib.hid (show FB w.heap.size t (.func f fs cp) ((w.alloc (.cells #[.pointer (some ⟨t, 0, none⟩)] 23)).alloc (.cells #[.func f fs cp] 45)) from ⟨(Blk.new _ _ _).alloc _, by
    have := Blk.new (w.alloc (.cells #[.pointer (some ⟨t, 0, none⟩)] 23)) 45 #[.func f fs cp]
    rw [asz] at this
    exact this⟩)
  go_enter Try.func34, Try.ntmps34
  go_wp2_with fail
  go_ret
  exact ⟨rfl, bx.out, hm.out⟩
set_option maxHeartbeats 2000000 in
theorem meets_make (t : Nat) (q : Bx) (w : World) : Calls Try.prog 20 #[.pointer (some ⟨t, 0, none⟩), (.agg #[.int .i64 q.x, .int .i64 q.y, .int .i64 q.w, .int .i64 q.h])] w fun e w' => ∃ B, e = .returned (seqV B) ∧ w.heap.size ≤ B ∧ FB B t (avM q) w' ∧ Below w.heap.size w w' := by
  have hmf : ∀ (fn : Fn) (first cap : Array Value) (w : World), (Instr.makeFunc fn first cap).run Try.prog w = .ok (.func fn first cap) w := fun _ _ _ _ => rfl
  have MK := Lib.hid (fun W => found_make t (.func 37) #[(.agg #[.int .i64 q.x, .int .i64 q.y, .int .i64 q.w, .int .i64 q.h])] #[] W)
  have BW := Lib.hid (made w (.cells #[.int .i64 q.x, .int .i64 q.y, .int .i64 q.w, .int .i64 q.h] 28))
  go_enter Try.func20, Try.ntmps20
  go_wp2_with fail
  refine (MK.out _).mono ?_
  rintro e w1 ⟨rfl, hx, hb⟩
  have hb2 := up BW.out hb BW.out.size
  rw [asz] at hx
  have FI := Lib.hid (And.intro (Nat.le_succ w.heap.size) (And.intro hx hb2))
  clear hb2
  clear hx hb MK hmf
  unfold seqV
  go_wp2_with fail
  go_ret
  exact ⟨_, rfl, FI.out.1, FI.out.2.1, FI.out.2.2⟩
set_option maxHeartbeats 2000000 in
theorem at_make (t : Nat) (x y : Int) (w : World) : Calls Try.prog 22 #[.pointer (some ⟨t, 0, none⟩), .int .i64 x, .int .i64 y] w fun e w' => ∃ B, e = .returned (seqV B) ∧ w.heap.size ≤ B ∧ FB B t (avM ⟨x, y, 1, 1⟩) w' ∧ Below w.heap.size w w' := by
  have MK := Lib.hid (fun W => meets_make t ⟨x, y, 1, 1⟩ W)
  go_enter Try.func22, Try.ntmps22
  go_wp2_with fail
  refine (MK.out _).mono ?_
  rintro e w1 ⟨B, rfl, hB, hx, hb⟩
  have FI := Lib.hid (And.intro hB (And.intro hx hb))
  clear hx hb MK hB
  unfold seqV
  go_wp2_with fail
  go_ret
  exact ⟨_, rfl, FI.out.1, FI.out.2.1, FI.out.2.2⟩
set_option maxHeartbeats 2000000 in
theorem all_make (t : Nat) (w : World) : Calls Try.prog 15 #[.pointer (some ⟨t, 0, none⟩)] w fun e w' => ∃ B, e = .returned (seqV B) ∧ w.heap.size ≤ B ∧ FB B t avR w' ∧ Below w.heap.size w w' := by
  have hmf : ∀ (fn : Fn) (first cap : Array Value) (w : World), (Instr.makeFunc fn first cap).run Try.prog w = .ok (.func fn first cap) w := fun _ _ _ _ => rfl
  have MK := Lib.hid (fun W => found_make t (.func 35) #[] #[] W)
  go_enter Try.func15, Try.ntmps15
  go_wp2_with fail
  refine (MK.out _).mono ?_
  rintro e w1 ⟨rfl, hx, hb⟩
  have FI := Lib.hid (And.intro hx hb)
  clear hx hb MK hmf
  unfold seqV
  go_wp2_with fail
  go_ret
  exact ⟨_, rfl, Nat.le_refl _, FI.out.1, FI.out.2⟩
set_option maxRecDepth 100000 in
set_option maxHeartbeats 4000000 in
theorem found_it (ask : Bx → Bool) (fn : Fn) (fs cp : Array Value) (hso : ∀ h, SearchOK ask (.func fn fs cp) h) (B t h n root : Nat) (v : Value) (X : List Ex) (l B0 : Nat) (J : Nat → World → Prop) (XX : World → Prop) (S : Nat → Prop) (W : World)
    (hx : FB B t (.func fn fs cp) W) (ht : TAt W t h n root v X) (hS : ∀ j, S j → j < B0 ∧ j ≠ t ∧ ¬ foot root v X j ∧ j ≠ B ∧ j ≠ B + 1) (hB : B0 ≤ W.heap.size) (hj : J 0 W)
    (hJa : ∀ m W W', J m W → Below W.heap.size W W' → J m W')
    (hY : ∀ m W', m < (tl ask X).length → J m W' → YieldAt Fence.wide 0 Try.prog l (targs ((tl ask X).getD m dth)) W' (WalkR J XX S (m + 1) W')) :
    Calls Try.prog 45 #[.func (.yield l) #[] #[], .pointer (some ⟨B, 0, none⟩), .pointer (some ⟨B + 1, 0, none⟩)] W fun e W' => (∃ v, e = .returned v) ∧ (J (tl ask X).length W' ∨ XX W') := by
  have SR := Lib.hid (hso h root v X l B0 0 J XX S W.drew (ht.nd.below (Below.refl _ W).drew) ht.most (fun j hj => ⟨(hS j hj).1, (hS j hj).2.2.1⟩) (Nat.le_trans hB (Below.refl W.heap.size W).drew.size) (hJa _ _ _ hj (Below.refl _ W).drew) hJa (fun m W' h1 h2 => by
    rw [Nat.zero_add] at h2 ⊢
    exact hY m W' h1 h2))
  have hd1 : Below W.heap.size W W.drew := (Below.refl W.heap.size W).drew
  have TD := Lib.hid (ht.below hd1)
  have XD := Lib.hid (hx.below hd1)
  have SS := Lib.hid hS
  clear hx ht hS hB hj hJa hY hd1 hso
  go_enter Try.func45, Try.ntmps45
  go_upto_region 0 with fail
  refine wp_region_held_drew (S := fun ws => ws.cell? ⟨B, 0, none⟩ = some (.pointer (some ⟨t, 0, none⟩)) ∧ ws.cell? ⟨B + 1, 0, none⟩ = some (.func fn fs cp) ∧ ws.cell? ⟨t, 0, none⟩ = some (.pointer (some ⟨root, 0, none⟩))) (by kernel_rfl) ⟨XD.out.qb.cell 0, XD.out.rb.cell 0, TD.out.blk.cell 0⟩ (fun hHeld => ?_)
  generalize W.drew = wd at *
  refine wpAnyH_take (i := 0) (v := ?_) rfl (by kernel_rfl) (by kernel_rfl) (by kernel_rfl) (fun _ _ _ h => h) (Or.inl ⟨by rfl, ?_⟩) (by assumption) ?_
  rotate_left
  · (intro w hSw; (try dsimp only at hSw); first | (go_simp; done) | (go_simp; with_reducible rfl))
  simp only [Act.put, List.getElem_toArray, List.getElem_cons_zero, List.getElem_cons_succ, List.setIfInBounds_toArray, List.set_cons_zero, List.set_cons_succ]
  refine wpAnyH_take (i := 1) (v := ?_) rfl (by kernel_rfl) (by kernel_rfl) (by kernel_rfl) (fun _ _ _ h => h) (Or.inl ⟨by rfl, ?_⟩) (by assumption) ?_
  rotate_left
  · (intro w hSw; (try dsimp only at hSw); first | (go_simp; done) | (go_simp; with_reducible rfl))
  simp only [Act.put, List.getElem_toArray, List.getElem_cons_zero, List.getElem_cons_succ, List.setIfInBounds_toArray, List.set_cons_zero, List.set_cons_succ]
  refine wpAnyH_take (i := 2) (v := ?_) rfl (by kernel_rfl) (by kernel_rfl) (by kernel_rfl) (fun _ _ _ h => h) (Or.inl ⟨by rfl, ?_⟩) (by assumption) ?_
  rotate_left
  · (intro w hSw; (try dsimp only at hSw); first | (go_simp; done) | (go_simp; with_reducible rfl))
  simp only [Act.put, List.getElem_toArray, List.getElem_cons_zero, List.getElem_cons_succ, List.setIfInBounds_toArray, List.set_cons_zero, List.set_cons_succ]
  refine wpAnyH_take (i := 3) (v := ?_) rfl (by kernel_rfl) (by kernel_rfl) (by kernel_rfl) (fun _ _ _ h => h) (Or.inl ⟨by rfl, ?_⟩) (by assumption) ?_
  rotate_left
  · (intro w hSw; (try dsimp only at hSw); first | (go_simp; done) | (go_simp; with_reducible rfl))
  simp only [Act.put, List.getElem_toArray, List.getElem_cons_zero, List.getElem_cons_succ, List.setIfInBounds_toArray, List.set_cons_zero, List.set_cons_succ]
  refine wpAnyH_take (i := 4) (v := ?_) rfl (by kernel_rfl) (by kernel_rfl) (by kernel_rfl) (fun _ _ _ h => h) (Or.inl ⟨by rfl, ?_⟩) (by assumption) ?_
  rotate_left
  · (intro w hSw; (try dsimp only at hSw); first | (go_simp; done) | (go_simp; with_reducible rfl))
  simp only [Act.put, List.getElem_toArray, List.getElem_cons_zero, List.getElem_cons_succ, List.setIfInBounds_toArray, List.set_cons_zero, List.set_cons_succ]
  refine wpAnyH_take (i := 5) (v := ?_) rfl (by kernel_rfl) (by kernel_rfl) (by kernel_rfl) (fun _ _ _ h => h) (Or.inl ⟨by rfl, ?_⟩) (by assumption) ?_
  rotate_left
  · (intro w hSw; (try dsimp only at hSw); first | (go_simp; done) | (go_simp; with_reducible rfl))
  simp only [Act.put, List.getElem_toArray, List.getElem_cons_zero, List.getElem_cons_succ, List.setIfInBounds_toArray, List.set_cons_zero, List.set_cons_succ]
  refine wpAnyH_ready (rs := [6]) (by kernel_rfl) (by simp) ?_
  refine AllReadyH.cons rfl (fun K hK => ?_) AllReadyH.nil
  go_simp
  refine SR.out.mono ?_
  rintro e w7 (⟨rfl, hj7, ho7⟩ | ⟨rfl, hx7, ho7⟩)
  · have X7 := XD.out.only ho7 (fun e => (SS.out _ e).2.2.2.1 rfl) (fun e => (SS.out _ e).2.2.2.2 rfl)
    have T7 := TD.out.blk.only ho7 (fun e => (SS.out _ e).2.1 rfl)
    rw [Nat.zero_add] at hj7
    have J7 := Lib.hid hj7
    refine hK.out _ _ ⟨X7.qb.cell 0, X7.rb.cell 0, T7.cell 0⟩ (fun hHeld2 => ?_)
    clear hK K hHeld hj7 ho7 X7 T7
    refine wpAnyH_done (by kernel_rfl) ?_ _
    clear hHeld2
    go_wp2_with fail
    go_end0
    exact ⟨⟨_, rfl⟩, .inl J7.out⟩
  · have X7 := XD.out.only ho7 (fun e => (SS.out _ e).2.2.2.1 rfl) (fun e => (SS.out _ e).2.2.2.2 rfl)
    have T7 := TD.out.blk.only ho7 (fun e => (SS.out _ e).2.1 rfl)
    have J7 := Lib.hid hx7
    refine hK.out _ _ ⟨X7.qb.cell 0, X7.rb.cell 0, T7.cell 0⟩ (fun hHeld2 => ?_)
    clear hK K hHeld hx7 ho7 X7 T7
    refine wpAnyH_done (by kernel_rfl) ?_ _
    clear hHeld2
    go_wp2_with fail
    go_end0
    exact ⟨⟨_, rfl⟩, .inr J7.out⟩
end Go.Proofs.Ytndhdpjgnepfnaa.tr
