/-
  The queue and the document's list: Add, Cancel.
-/
import Derived.Test.YtmfhellpdpfoaaaQuO
import Derived.LoopTactic
namespace Go.Proofs.Ytmfhellpdpfoaaa.qu
open Go.RowKit
open base (ret_bool ret_int made up Blk Only)
open rk mk
set_option linter.unusedVariables false
set_option linter.unusedSimpArgs false
variable {w w' : World} {q sb B : Nat} {vl : Value} {L M : List It} {ad : Int} {F F' : Nat → Prop}

/-- one is added to both -/
def StepA (q sb B : Nat) (M : List It) (ad t : Int) (s : ByteArray) (w : World) (e : Ending) (w' : World) : Prop := e = .returned (.bool true) ∧ ∃ F' vl', Pair F' w' q sb vl' (ins (ad + 1, t, s) M) (ad + 1) B ∧ Bf B w w'
theorem layO {b c : Nat} {t : TypeId} {A : Option Addr} {L : List It} (h : Own EQ w b t (.slice A L.length c) L) : Lay EQ w A L := by
  obtain ⟨A', c', e, h2, _⟩ := h.open_
  injection e with e1 e2 e3
  subst e1
  exact h2
theorem QS.mid {w1 w2 : World} (H : QS F w1 q M ad) {ad0 : Int} {N : List It} (S0 : St w1 sb vl N ad0 B) (ho : Only (fun k => k = sb ∨ w1.heap.size ≤ k) w1 w2) : QS F w2 q M ad :=
  H.keep (fun k hk => ho.block k (H.lt hk) (fun h => by
    rcases h with h | h
    · exact S0.apart H (.inl h) hk
    · have := H.lt hk; omega))
/-- the list's row is another one, laid since -/
theorem only_row {w1 w2 w3 : World} (h1 : Below w1.heap.size w1 w2) (h2 : Only (fun k => k = sb) w2 w3) : Only (fun k => k = sb ∨ w1.heap.size ≤ k) w1 w3 :=
  Only.trans ((Only.refl _ _).below h1 (fun i hi h => .inr h)) h2 (fun i hi h => .inl h)
set_option maxRecDepth 100000 in
set_option maxHeartbeats 8000000 in
theorem step_add {A : Option Addr} {c : Nat} (P : Pair F w q sb (.slice A M.length c) M ad B) (had : ad ≤ 98000) (n t : Int) (s : ByteArray) (hn : (Lit.int .i64 n).wf = true) :
    Calls Try.prog 10 #[.pointer (some ⟨sb, 0, none⟩), .pointer (some ⟨q, 0, none⟩), .agg #[.int .i64 1, .int .i64 n, .int .i64 t, .string s]] w (StepA q sb B M ad t s w) := by
  have OB := Lib.hid (Blk.new w 31 #[.int .i64 1, .int .i64 n, .int .i64 t, .string s])
  have M1 := Lib.hid (made w (.cells #[.int .i64 1, .int .i64 n, .int .i64 t, .string s] 31))
  have P1 := Lib.hid (P.below M1.out)
  have BW := Lib.hid P.size
  have hml : M.length ≤ 99000 := by have := P.len; omega
  have PL := Lib.hid P.len
  clear P
  go_enter Try.func10, Try.ntmps10
  go_upto_region 1 with fail
  generalize w.alloc (.cells #[.int .i64 1, .int .i64 n, .int .i64 t, .string s] 31) = w1 at *
  have P2 := Lib.hid (show Pair F w1.drew q sb _ M ad B from P1.out.below (Below.refl _ _).drew)
  have OB2 := Lib.hid (show Blk w1.drew w.heap.size _ _ from OB.out.drewN 1)
  have M2 := Lib.hid (show Below w.heap.size w w1.drew from M1.out.drew)
  clear P1 OB M1
  refine wp_region_held_drew (S := fun ws => ws.cell? ⟨sb, 0, none⟩ = some (.slice A M.length c) ∧ ws.cell? ⟨w.heap.size, 1, none⟩ = some (.int .i64 n)) (by kernel_rfl) ⟨P2.out.st.blk.cell 0, OB2.out.cell 1⟩ (fun hHeld => ?_)
  generalize w1.drew = W at *
  have LA := Lib.hid (layO P2.out.st.row)
  have FD := Lib.hid (find_any A c M n W LA.out (by omega))
  have BM := Lib.hid (show Bf B w W from Bf.new M2.out BW.out)
  refine wpAnyH_take (i := 0) (v := ?_) rfl (by kernel_rfl) (by kernel_rfl) (by kernel_rfl) (fun _ _ _ h => h) (Or.inl ⟨by rfl, ?_⟩) (by assumption) ?_
  rotate_left
  · (intro w hSw; (try dsimp only at hSw); first | (go_simp; done) | (go_simp; with_reducible rfl))
  simp only [Act.put, List.getElem_toArray, List.getElem_cons_zero, List.getElem_cons_succ, List.setIfInBounds_toArray, List.set_cons_zero, List.set_cons_succ]
  refine wpAnyH_take (i := 1) (v := ?_) rfl (by kernel_rfl) (by kernel_rfl) (by kernel_rfl) (fun _ _ _ h => h) (Or.inl ⟨by rfl, ?_⟩) (by assumption) ?_
  rotate_left
  · (intro w hSw; (try dsimp only at hSw); first | (go_simp; done) | (go_simp; with_reducible rfl))
  simp only [Act.put, List.getElem_toArray, List.getElem_cons_zero, List.getElem_cons_succ, List.setIfInBounds_toArray, List.set_cons_zero, List.set_cons_succ]
  refine wpAnyH_take (i := 2) (v := ?_) rfl (by kernel_rfl) (by kernel_rfl) (by kernel_rfl) (fun _ _ _ h => h) (Or.inl ⟨by rfl, ?_⟩) (by assumption) ?_
  rotate_left
  · (intro w hSw; (try dsimp only at hSw); first | (go_simp; done) | (go_simp; with_reducible rfl))
  simp only [Act.put, List.getElem_toArray, List.getElem_cons_zero, List.getElem_cons_succ, List.setIfInBounds_toArray, List.set_cons_zero, List.set_cons_succ]
  refine wpAnyH_take (i := 3) (v := ?_) rfl (by kernel_rfl) (by kernel_rfl) (by kernel_rfl) (fun _ _ _ h => h) (Or.inl ⟨by rfl, ?_⟩) (by assumption) ?_
  rotate_left
  · (intro w hSw; (try dsimp only at hSw); first | (go_simp; done) | (go_simp; with_reducible rfl))
  simp only [Act.put, List.getElem_toArray, List.getElem_cons_zero, List.getElem_cons_succ, List.setIfInBounds_toArray, List.set_cons_zero, List.set_cons_succ]
  refine wpAnyH_take (i := 4) (v := ?_) rfl (by kernel_rfl) (by kernel_rfl) (by kernel_rfl) (fun _ _ _ h => h) (Or.inl ⟨by rfl, ?_⟩) (by assumption) ?_
  rotate_left
  · (intro w hSw; (try dsimp only at hSw); first | (go_simp; done) | (go_simp; with_reducible rfl))
  simp only [Act.put, List.getElem_toArray, List.getElem_cons_zero, List.getElem_cons_succ, List.setIfInBounds_toArray, List.set_cons_zero, List.set_cons_succ]
  refine wpAnyH_take (i := 5) (v := ?_) rfl (by kernel_rfl) (by kernel_rfl) (by kernel_rfl) (fun _ _ _ h => h) (Or.inl ⟨by rfl, ?_⟩) (by assumption) ?_
  rotate_left
  · (intro w hSw; (try dsimp only at hSw); first | (go_simp; done) | (go_simp; with_reducible rfl))
  simp only [Act.put, List.getElem_toArray, List.getElem_cons_zero, List.getElem_cons_succ, List.setIfInBounds_toArray, List.set_cons_zero, List.set_cons_succ]
  refine wpAnyH_ready (rs := [6]) (by kernel_rfl) (by simp) ?_
  refine AllReadyH.cons rfl (fun K hK => ?_) AllReadyH.nil
  go_simp
  refine FD.out.mono ?_
  rintro e w2 ⟨v, rfl, r, rfl, hr, rfl⟩
  have FI := Lib.hid hr
  refine hK.out _ _ ⟨P2.out.st.blk.cell 0, OB2.out.cell 1⟩ (fun hHeld2 => ?_)
  clear hK K hHeld hr FD
  refine wpAnyH_take (i := 7) (v := ?_) rfl (by kernel_rfl) (by kernel_rfl) (by kernel_rfl) (fun _ _ _ h => h) (Or.inl ⟨by rfl, ?_⟩) (by assumption) ?_
  rotate_left
  · (intro w hSw; (try dsimp only at hSw); first | (go_simp; done) | (go_simp; with_reducible rfl))
  simp only [Act.put, List.getElem_toArray, List.getElem_cons_zero, List.getElem_cons_succ, List.setIfInBounds_toArray, List.set_cons_zero, List.set_cons_succ]
  refine wpAnyH_done (by kernel_rfl) ?_ _
  clear hHeld2
  have o0 := OB2.out.cell 0
  have o1 := OB2.out.cell 1
  have o2 := OB2.out.cell 2
  have o3 := OB2.out.cell 3
  have s0 := P2.out.st.blk.cell 0
  have s1 := P2.out.st.blk.cell 1
  have f0 := P2.out.st.blk.free 0
  have f1 := P2.out.st.blk.free 1
  obtain ⟨num, ON⟩ := P2.out.st.num (ad + 1)
  have A0 := P2.out.qs.ad0
  have wa : IntKind.i64.wrap (ad + 1) = ad + 1 := IntWalk.i64_in _ (by omega)
  have NU := Lib.hid num
  have ON := Lib.hid ON
  clear num FI
  go_upto_region 5 with fail
  generalize W.setCell ⟨sb, 1, none⟩ (.int .i64 (ad + 1)) = W3 at *
  clear s0 s1 f0 f1 o0 o1 o2 o3
  have OB3 := Lib.hid (show Blk W3.drew w.heap.size _ _ from (OB2.out.only ON.out (fun e => ty_ne OB2.out P2.out.st.blk (by decide) e)).drewN 1)
  have S3 := Lib.hid (show St W3.drew sb _ M (ad + 1) B from NU.out.keep (fun _ _ => rfl))
  have ON2 := Lib.hid (show Only (fun k => k = sb) W W3.drew from ON.out.drewN 1)
  clear NU ON
  refine wp_region_held_drew (S := fun ws => ws.cell? ⟨sb, 1, none⟩ = some (.int .i64 (ad + 1)) ∧ ws.cell? ⟨w.heap.size, 2, none⟩ = some (.int .i64 t) ∧ ws.cell? ⟨w.heap.size, 3, none⟩ = some (.string s)) (by kernel_rfl) ⟨S3.out.blk.cell 1, OB3.out.cell 2, OB3.out.cell 3⟩ (fun hHeld => ?_)
  generalize W3.drew = W4 at *
  have PU := Lib.hid (put_any A c M (ad + 1) t s W4 (layO S3.out.row) (by omega))
  have s0 := S3.out.blk.cell 0
  refine wpAnyH_take (i := 0) (v := ?_) rfl (by kernel_rfl) (by kernel_rfl) (by kernel_rfl) (fun _ _ _ h => h) (Or.inl ⟨by rfl, ?_⟩) (by assumption) ?_
  rotate_left
  · (intro w hSw; (try dsimp only at hSw); first | (go_simp; done) | (go_simp; with_reducible rfl))
  simp only [Act.put, List.getElem_toArray, List.getElem_cons_zero, List.getElem_cons_succ, List.setIfInBounds_toArray, List.set_cons_zero, List.set_cons_succ]
  refine wpAnyH_take (i := 1) (v := ?_) rfl (by kernel_rfl) (by kernel_rfl) (by kernel_rfl) (fun _ _ _ h => h) (Or.inl ⟨by rfl, ?_⟩) (by assumption) ?_
  rotate_left
  · (intro w hSw; (try dsimp only at hSw); first | (go_simp; done) | (go_simp; with_reducible rfl))
  simp only [Act.put, List.getElem_toArray, List.getElem_cons_zero, List.getElem_cons_succ, List.setIfInBounds_toArray, List.set_cons_zero, List.set_cons_succ]
  refine wpAnyH_take (i := 2) (v := ?_) rfl (by kernel_rfl) (by kernel_rfl) (by kernel_rfl) (fun _ _ _ h => h) (Or.inl ⟨by rfl, ?_⟩) (by assumption) ?_
  rotate_left
  · (intro w hSw; (try dsimp only at hSw); first | (go_simp; done) | (go_simp; with_reducible rfl))
  simp only [Act.put, List.getElem_toArray, List.getElem_cons_zero, List.getElem_cons_succ, List.setIfInBounds_toArray, List.set_cons_zero, List.set_cons_succ]
  refine wpAnyH_take (i := 3) (v := ?_) rfl (by kernel_rfl) (by kernel_rfl) (by kernel_rfl) (fun _ _ _ h => h) (Or.inl ⟨by rfl, ?_⟩) (by assumption) ?_
  rotate_left
  · (intro w hSw; (try dsimp only at hSw); first | (go_simp; done) | (go_simp; with_reducible rfl))
  simp only [Act.put, List.getElem_toArray, List.getElem_cons_zero, List.getElem_cons_succ, List.setIfInBounds_toArray, List.set_cons_zero, List.set_cons_succ]
  refine wpAnyH_take (i := 5) (v := ?_) rfl (by kernel_rfl) (by kernel_rfl) (by kernel_rfl) (fun _ _ _ h => h) (Or.inl ⟨by rfl, ?_⟩) (by assumption) ?_
  rotate_left
  · (intro w hSw; (try dsimp only at hSw); first | (go_simp; done) | (go_simp; with_reducible rfl))
  simp only [Act.put, List.getElem_toArray, List.getElem_cons_zero, List.getElem_cons_succ, List.setIfInBounds_toArray, List.set_cons_zero, List.set_cons_succ]
  refine wpAnyH_take (i := 6) (v := ?_) rfl (by kernel_rfl) (by kernel_rfl) (by kernel_rfl) (fun _ _ _ h => h) (Or.inl ⟨by rfl, ?_⟩) (by assumption) ?_
  rotate_left
  · (intro w hSw; (try dsimp only at hSw); first | (go_simp; done) | (go_simp; with_reducible rfl))
  simp only [Act.put, List.getElem_toArray, List.getElem_cons_zero, List.getElem_cons_succ, List.setIfInBounds_toArray, List.set_cons_zero, List.set_cons_succ]
  refine wpAnyH_take (i := 7) (v := ?_) rfl (by kernel_rfl) (by kernel_rfl) (by kernel_rfl) (fun _ _ _ h => h) (Or.inl ⟨by rfl, ?_⟩) (by assumption) ?_
  rotate_left
  · (intro w hSw; (try dsimp only at hSw); first | (go_simp; done) | (go_simp; with_reducible rfl))
  simp only [Act.put, List.getElem_toArray, List.getElem_cons_zero, List.getElem_cons_succ, List.setIfInBounds_toArray, List.set_cons_zero, List.set_cons_succ]
  refine wpAnyH_take (i := 8) (v := ?_) rfl (by kernel_rfl) (by kernel_rfl) (by kernel_rfl) (fun _ _ _ h => h) (Or.inl ⟨by rfl, ?_⟩) (by assumption) ?_
  rotate_left
  · (intro w hSw; (try dsimp only at hSw); first | (go_simp; done) | (go_simp; with_reducible rfl))
  simp only [Act.put, List.getElem_toArray, List.getElem_cons_zero, List.getElem_cons_succ, List.setIfInBounds_toArray, List.set_cons_zero, List.set_cons_succ]
  refine wpAnyH_take (i := 9) (v := ?_) rfl (by kernel_rfl) (by kernel_rfl) (by kernel_rfl) (fun _ _ _ h => h) (Or.inl ⟨by rfl, ?_⟩) (by assumption) ?_
  rotate_left
  · (intro w hSw; (try dsimp only at hSw); first | (go_simp; done) | (go_simp; with_reducible rfl))
  simp only [Act.put, List.getElem_toArray, List.getElem_cons_zero, List.getElem_cons_succ, List.setIfInBounds_toArray, List.set_cons_zero, List.set_cons_succ]
  refine wpAnyH_take (i := 10) (v := ?_) rfl (by kernel_rfl) (by kernel_rfl) (by kernel_rfl) (fun _ _ _ h => h) (Or.inl ⟨by rfl, ?_⟩) (by assumption) ?_
  rotate_left
  · (intro w hSw; (try dsimp only at hSw); first | (go_simp; done) | (go_simp; with_reducible rfl))
  simp only [Act.put, List.getElem_toArray, List.getElem_cons_zero, List.getElem_cons_succ, List.setIfInBounds_toArray, List.set_cons_zero, List.set_cons_succ]
  refine wpAnyH_take (i := 11) (v := ?_) rfl (by kernel_rfl) (by kernel_rfl) (by kernel_rfl) (fun _ _ _ h => h) (Or.inl ⟨by rfl, ?_⟩) (by assumption) ?_
  rotate_left
  · (intro w hSw; (try dsimp only at hSw); first | (go_simp; done) | (go_simp; with_reducible rfl))
  simp only [Act.put, List.getElem_toArray, List.getElem_cons_zero, List.getElem_cons_succ, List.setIfInBounds_toArray, List.set_cons_zero, List.set_cons_succ]
  refine wpAnyH_take (i := 12) (v := ?_) rfl (by kernel_rfl) (by kernel_rfl) (by kernel_rfl) (fun _ _ _ h => h) (Or.inl ⟨by rfl, ?_⟩) (by assumption) ?_
  rotate_left
  · (intro w hSw; (try dsimp only at hSw); first | (go_simp; done) | (go_simp; with_reducible rfl))
  simp only [Act.put, List.getElem_toArray, List.getElem_cons_zero, List.getElem_cons_succ, List.setIfInBounds_toArray, List.set_cons_zero, List.set_cons_succ]
  refine wpAnyH_take (i := 13) (v := ?_) rfl (by kernel_rfl) (by kernel_rfl) (by kernel_rfl) (fun _ _ _ h => h) (Or.inl ⟨by rfl, ?_⟩) (by assumption) ?_
  rotate_left
  · (intro w hSw; (try dsimp only at hSw); first | (go_simp; done) | (go_simp; with_reducible rfl))
  simp only [Act.put, List.getElem_toArray, List.getElem_cons_zero, List.getElem_cons_succ, List.setIfInBounds_toArray, List.set_cons_zero, List.set_cons_succ]
  refine wpAnyH_ready (rs := [4]) (by kernel_rfl) (by simp) ?_
  refine AllReadyH.cons rfl (fun K hK => ?_) AllReadyH.nil
  go_simp
  refine hK.out _ _ ⟨S3.out.blk.cell 1, OB3.out.cell 2, OB3.out.cell 3⟩ (fun hHeld2 => ?_)
  clear hK K hHeld s0
  refine wpAnyH_ready (rs := [14]) (by kernel_rfl) (by simp) ?_
  refine AllReadyH.cons rfl (fun K hK => ?_) AllReadyH.nil
  go_simp
  refine PU.out.mono ?_
  rintro e w5 ⟨v', rfl, ho, hb5⟩
  obtain ⟨nn, A', c', rfl⟩ : ∃ n A c, v' = .slice A n c := by obtain ⟨A, c, e, -⟩ := ho.open_; exact ⟨_, A, c, e⟩
  have S5 := Lib.hid (S3.out.below hb5)
  have OB5 := Lib.hid (OB3.out.below hb5 OB3.out.lt)
  obtain ⟨s6, o6⟩ := S5.out.put (ho.mono (Nat.le_trans P2.out.size ON2.out.size))
  have S6 := Lib.hid s6
  have O6 := Lib.hid (show Only (fun k => k = sb ∨ W.heap.size ≤ k) W _ from Only.trans (Only.mono ON2.out (S' := fun k => k = sb ∨ W.heap.size ≤ k) (fun i _ h => .inl h)) (Only.trans ((Only.refl (fun k => k = sb ∨ W4.heap.size ≤ k) W4).below hb5 (fun i _ h => .inr h)) o6 (fun i _ h => .inl h)) (fun i _ h => h.imp id (fun h => Nat.le_trans ON2.out.size h)))
  have OB6 := Lib.hid (show Blk (w5.setCell ⟨sb, 0, none⟩ (.slice A' nn c')) w.heap.size _ _ from OB5.out.far (p := ⟨sb, 0, none⟩) (fun e => ty_ne OB5.out S5.out.blk (by decide) e) _)
  have s0 := S5.out.blk.cell 0
  have f0 := S5.out.blk.free 0
  refine hK.out _ _ ⟨S5.out.blk.cell 1, OB5.out.cell 2, OB5.out.cell 3⟩ (fun hHeld3 => ?_)
  clear hK K hHeld2 ho hb5 s6 o6 PU
  refine wpAnyH_take (i := 15) (v := ?_) rfl (by kernel_rfl) (by kernel_rfl) (by kernel_rfl) (fun _ _ _ h => h) (Or.inl ⟨by rfl, ?_⟩) (by assumption) ?_
  rotate_left
  · (intro w hSw; (try dsimp only at hSw); first | (go_simp; done) | (go_simp; with_reducible rfl))
  simp only [Act.put, List.getElem_toArray, List.getElem_cons_zero, List.getElem_cons_succ, List.setIfInBounds_toArray, List.set_cons_zero, List.set_cons_succ]
  refine wpAnyH_take (i := 16) (v := ?_) rfl (by kernel_rfl) (by kernel_rfl) (by kernel_rfl) (fun _ _ _ h => h) (Or.inl ⟨by rfl, ?_⟩) (by assumption) ?_
  rotate_left
  · (intro w hSw; (try dsimp only at hSw); first | (go_simp; done) | (go_simp; with_reducible rfl))
  simp only [Act.put, List.getElem_toArray, List.getElem_cons_zero, List.getElem_cons_succ, List.setIfInBounds_toArray, List.set_cons_zero, List.set_cons_succ]
  refine wpAnyH_ready (rs := [17]) (by kernel_rfl) (by simp) ?_
  refine AllReadyH.cons rfl (fun K hK => ?_) AllReadyH.nil
  go_simp
  generalize w5.setCell ⟨sb, 0, none⟩ (.slice A' nn c') = W6 at *
  refine hK.out _ _ ⟨S6.out.blk.cell 1, OB6.out.cell 2, OB6.out.cell 3⟩ (fun hHeld4 => ?_)
  clear hK K hHeld3 s0 f0
  refine wpAnyH_done (by kernel_rfl) ?_ _
  clear hHeld4
  go_upto_region 6 with fail
  have S7 := Lib.hid (show St W6.drew sb _ _ (ad + 1) B from S6.out.keep (fun _ _ => rfl))
  have O7 := Lib.hid (show Only (fun k => k = sb ∨ W.heap.size ≤ k) W W6.drew from O6.out.drewN 1)
  have OB7 := Lib.hid (show Blk W6.drew w.heap.size _ _ from OB6.out.drewN 1)
  clear S6 O6 OB6 OB5 S5 OB3 S3
  refine wp_region_held_drew (S := fun ws => ws.cell? ⟨sb, 1, none⟩ = some (.int .i64 (ad + 1)) ∧ ws.cell? ⟨w.heap.size, 2, none⟩ = some (.int .i64 t) ∧ ws.cell? ⟨w.heap.size, 3, none⟩ = some (.string s)) (by kernel_rfl) ⟨S7.out.blk.cell 1, OB7.out.cell 2, OB7.out.cell 3⟩ (fun hHeld => ?_)
  generalize W6.drew = W7 at *
  have Q7 := Lib.hid (P2.out.qs.mid P2.out.st O7.out)
  have AD := Lib.hid (qadd Q7.out (by omega) (by omega) t s)
  refine wpAnyH_take (i := 0) (v := ?_) rfl (by kernel_rfl) (by kernel_rfl) (by kernel_rfl) (fun _ _ _ h => h) (Or.inl ⟨by rfl, ?_⟩) (by assumption) ?_
  rotate_left
  · (intro w hSw; (try dsimp only at hSw); first | (go_simp; done) | (go_simp; with_reducible rfl))
  simp only [Act.put, List.getElem_toArray, List.getElem_cons_zero, List.getElem_cons_succ, List.setIfInBounds_toArray, List.set_cons_zero, List.set_cons_succ]
  refine wpAnyH_take (i := 1) (v := ?_) rfl (by kernel_rfl) (by kernel_rfl) (by kernel_rfl) (fun _ _ _ h => h) (Or.inl ⟨by rfl, ?_⟩) (by assumption) ?_
  rotate_left
  · (intro w hSw; (try dsimp only at hSw); first | (go_simp; done) | (go_simp; with_reducible rfl))
  simp only [Act.put, List.getElem_toArray, List.getElem_cons_zero, List.getElem_cons_succ, List.setIfInBounds_toArray, List.set_cons_zero, List.set_cons_succ]
  refine wpAnyH_take (i := 2) (v := ?_) rfl (by kernel_rfl) (by kernel_rfl) (by kernel_rfl) (fun _ _ _ h => h) (Or.inl ⟨by rfl, ?_⟩) (by assumption) ?_
  rotate_left
  · (intro w hSw; (try dsimp only at hSw); first | (go_simp; done) | (go_simp; with_reducible rfl))
  simp only [Act.put, List.getElem_toArray, List.getElem_cons_zero, List.getElem_cons_succ, List.setIfInBounds_toArray, List.set_cons_zero, List.set_cons_succ]
  refine wpAnyH_take (i := 3) (v := ?_) rfl (by kernel_rfl) (by kernel_rfl) (by kernel_rfl) (fun _ _ _ h => h) (Or.inl ⟨by rfl, ?_⟩) (by assumption) ?_
  rotate_left
  · (intro w hSw; (try dsimp only at hSw); first | (go_simp; done) | (go_simp; with_reducible rfl))
  simp only [Act.put, List.getElem_toArray, List.getElem_cons_zero, List.getElem_cons_succ, List.setIfInBounds_toArray, List.set_cons_zero, List.set_cons_succ]
  refine wpAnyH_take (i := 4) (v := ?_) rfl (by kernel_rfl) (by kernel_rfl) (by kernel_rfl) (fun _ _ _ h => h) (Or.inl ⟨by rfl, ?_⟩) (by assumption) ?_
  rotate_left
  · (intro w hSw; (try dsimp only at hSw); first | (go_simp; done) | (go_simp; with_reducible rfl))
  simp only [Act.put, List.getElem_toArray, List.getElem_cons_zero, List.getElem_cons_succ, List.setIfInBounds_toArray, List.set_cons_zero, List.set_cons_succ]
  refine wpAnyH_take (i := 6) (v := ?_) rfl (by kernel_rfl) (by kernel_rfl) (by kernel_rfl) (fun _ _ _ h => h) (Or.inl ⟨by rfl, ?_⟩) (by assumption) ?_
  rotate_left
  · (intro w hSw; (try dsimp only at hSw); first | (go_simp; done) | (go_simp; with_reducible rfl))
  simp only [Act.put, List.getElem_toArray, List.getElem_cons_zero, List.getElem_cons_succ, List.setIfInBounds_toArray, List.set_cons_zero, List.set_cons_succ]
  refine wpAnyH_take (i := 7) (v := ?_) rfl (by kernel_rfl) (by kernel_rfl) (by kernel_rfl) (fun _ _ _ h => h) (Or.inl ⟨by rfl, ?_⟩) (by assumption) ?_
  rotate_left
  · (intro w hSw; (try dsimp only at hSw); first | (go_simp; done) | (go_simp; with_reducible rfl))
  simp only [Act.put, List.getElem_toArray, List.getElem_cons_zero, List.getElem_cons_succ, List.setIfInBounds_toArray, List.set_cons_zero, List.set_cons_succ]
  refine wpAnyH_take (i := 8) (v := ?_) rfl (by kernel_rfl) (by kernel_rfl) (by kernel_rfl) (fun _ _ _ h => h) (Or.inl ⟨by rfl, ?_⟩) (by assumption) ?_
  rotate_left
  · (intro w hSw; (try dsimp only at hSw); first | (go_simp; done) | (go_simp; with_reducible rfl))
  simp only [Act.put, List.getElem_toArray, List.getElem_cons_zero, List.getElem_cons_succ, List.setIfInBounds_toArray, List.set_cons_zero, List.set_cons_succ]
  refine wpAnyH_take (i := 9) (v := ?_) rfl (by kernel_rfl) (by kernel_rfl) (by kernel_rfl) (fun _ _ _ h => h) (Or.inl ⟨by rfl, ?_⟩) (by assumption) ?_
  rotate_left
  · (intro w hSw; (try dsimp only at hSw); first | (go_simp; done) | (go_simp; with_reducible rfl))
  simp only [Act.put, List.getElem_toArray, List.getElem_cons_zero, List.getElem_cons_succ, List.setIfInBounds_toArray, List.set_cons_zero, List.set_cons_succ]
  refine wpAnyH_ready (rs := [5]) (by kernel_rfl) (by simp) ?_
  refine AllReadyH.cons rfl (fun K hK => ?_) AllReadyH.nil
  go_simp
  refine AD.out.mono ?_
  rintro e w8 ⟨rfl, F8, h8, m8⟩
  have S8 := Lib.hid (S7.out.mv Q7.out m8)
  have OB8 := Lib.hid (OB7.out.only m8.1 (fun h => by
    rcases Q7.out.ty h OB7.out with q | q <;> exact absurd q (by decide)))
  have FIN := Lib.hid (Pair.done1 BM.out BW.out P2.out.qs P2.out.lo S7.out O7.out P2.out.st h8 m8 (by rw [(ins_perm _ _).length_eq, List.length_cons]; have := PL.out; omega))
  refine hK.out _ _ ⟨S8.out.blk.cell 1, OB8.out.cell 2, OB8.out.cell 3⟩ (fun hHeld2 => ?_)
  clear hK K hHeld h8 m8 AD
  refine wpAnyH_take (i := 10) (v := ?_) rfl (by kernel_rfl) (by kernel_rfl) (by kernel_rfl) (fun _ _ _ h => h) (Or.inl ⟨by rfl, ?_⟩) (by assumption) ?_
  rotate_left
  · (intro w hSw; (try dsimp only at hSw); first | (go_simp; done) | (go_simp; with_reducible rfl))
  simp only [Act.put, List.getElem_toArray, List.getElem_cons_zero, List.getElem_cons_succ, List.setIfInBounds_toArray, List.set_cons_zero, List.set_cons_succ]
  refine wpAnyH_take (i := 11) (v := ?_) rfl (by kernel_rfl) (by kernel_rfl) (by kernel_rfl) (fun _ _ _ h => h) (Or.inl ⟨by rfl, ?_⟩) (by assumption) ?_
  rotate_left
  · (intro w hSw; (try dsimp only at hSw); first | (go_simp; done) | (go_simp; with_reducible rfl))
  simp only [Act.put, List.getElem_toArray, List.getElem_cons_zero, List.getElem_cons_succ, List.setIfInBounds_toArray, List.set_cons_zero, List.set_cons_succ]
  refine wpAnyH_done (by kernel_rfl) ?_ _
  clear hHeld2
  have tq : ((ad + 1 : Int) == ad + 1) = true := by simp
  go_wp2_with fail
  go_ret
  exact ⟨ret_bool (by simp), _, _, FIN.out.1, FIN.out.2⟩
theorem step_1 {A : Option Addr} {c : Nat} (P : Pair F w q sb (.slice A M.length c) M ad B) (had : ad ≤ 98000) (n t : Int) (s : ByteArray) (hn : (Lit.int .i64 n).wf = true) :
    Calls Try.prog 10 #[.pointer (some ⟨sb, 0, none⟩), .pointer (some ⟨q, 0, none⟩), .agg #[.int .i64 1, .int .i64 n, .int .i64 t, .string s]] w (StepQ q sb B ad w) :=
  (step_add P had n t s hn).mono (fun e w' ⟨h1, F', v', h2, h3⟩ => ⟨h1, F', v', _, _, h2, h3, by omega⟩)
set_option maxRecDepth 100000 in
set_option maxHeartbeats 8000000 in
theorem step_2 {A : Option Addr} {c : Nat} (P : Pair F w q sb (.slice A M.length c) M ad B) (had : ad ≤ 98000) (n t : Int) (s : ByteArray) (hn : (Lit.int .i64 n).wf = true) :
    Calls Try.prog 10 #[.pointer (some ⟨sb, 0, none⟩), .pointer (some ⟨q, 0, none⟩), .agg #[.int .i64 2, .int .i64 n, .int .i64 t, .string s]] w (StepQ q sb B ad w) := by
  have OB := Lib.hid (Blk.new w 31 #[.int .i64 2, .int .i64 n, .int .i64 t, .string s])
  have M1 := Lib.hid (made w (.cells #[.int .i64 2, .int .i64 n, .int .i64 t, .string s] 31))
  have P1 := Lib.hid (P.below M1.out)
  have BW := Lib.hid P.size
  have hml : M.length ≤ 99000 := by have := P.len; omega
  have PL := Lib.hid P.len
  clear P
  go_enter Try.func10, Try.ntmps10
  go_upto_region 1 with fail
  generalize w.alloc (.cells #[.int .i64 2, .int .i64 n, .int .i64 t, .string s] 31) = w1 at *
  have P2 := Lib.hid (show Pair F w1.drew q sb _ M ad B from P1.out.below (Below.refl _ _).drew)
  have OB2 := Lib.hid (show Blk w1.drew w.heap.size _ _ from OB.out.drewN 1)
  have M2 := Lib.hid (show Below w.heap.size w w1.drew from M1.out.drew)
  clear P1 OB M1
  refine wp_region_held_drew (S := fun ws => ws.cell? ⟨sb, 0, none⟩ = some (.slice A M.length c) ∧ ws.cell? ⟨w.heap.size, 1, none⟩ = some (.int .i64 n)) (by kernel_rfl) ⟨P2.out.st.blk.cell 0, OB2.out.cell 1⟩ (fun hHeld => ?_)
  generalize w1.drew = W at *
  have LA := Lib.hid (layO P2.out.st.row)
  have FD := Lib.hid (find_any A c M n W LA.out (by omega))
  have BM := Lib.hid (show Bf B w W from Bf.new M2.out BW.out)
  refine wpAnyH_take (i := 0) (v := ?_) rfl (by kernel_rfl) (by kernel_rfl) (by kernel_rfl) (fun _ _ _ h => h) (Or.inl ⟨by rfl, ?_⟩) (by assumption) ?_
  rotate_left
  · (intro w hSw; (try dsimp only at hSw); first | (go_simp; done) | (go_simp; with_reducible rfl))
  simp only [Act.put, List.getElem_toArray, List.getElem_cons_zero, List.getElem_cons_succ, List.setIfInBounds_toArray, List.set_cons_zero, List.set_cons_succ]
  refine wpAnyH_take (i := 1) (v := ?_) rfl (by kernel_rfl) (by kernel_rfl) (by kernel_rfl) (fun _ _ _ h => h) (Or.inl ⟨by rfl, ?_⟩) (by assumption) ?_
  rotate_left
  · (intro w hSw; (try dsimp only at hSw); first | (go_simp; done) | (go_simp; with_reducible rfl))
  simp only [Act.put, List.getElem_toArray, List.getElem_cons_zero, List.getElem_cons_succ, List.setIfInBounds_toArray, List.set_cons_zero, List.set_cons_succ]
  refine wpAnyH_take (i := 2) (v := ?_) rfl (by kernel_rfl) (by kernel_rfl) (by kernel_rfl) (fun _ _ _ h => h) (Or.inl ⟨by rfl, ?_⟩) (by assumption) ?_
  rotate_left
  · (intro w hSw; (try dsimp only at hSw); first | (go_simp; done) | (go_simp; with_reducible rfl))
  simp only [Act.put, List.getElem_toArray, List.getElem_cons_zero, List.getElem_cons_succ, List.setIfInBounds_toArray, List.set_cons_zero, List.set_cons_succ]
  refine wpAnyH_take (i := 3) (v := ?_) rfl (by kernel_rfl) (by kernel_rfl) (by kernel_rfl) (fun _ _ _ h => h) (Or.inl ⟨by rfl, ?_⟩) (by assumption) ?_
  rotate_left
  · (intro w hSw; (try dsimp only at hSw); first | (go_simp; done) | (go_simp; with_reducible rfl))
  simp only [Act.put, List.getElem_toArray, List.getElem_cons_zero, List.getElem_cons_succ, List.setIfInBounds_toArray, List.set_cons_zero, List.set_cons_succ]
  refine wpAnyH_take (i := 4) (v := ?_) rfl (by kernel_rfl) (by kernel_rfl) (by kernel_rfl) (fun _ _ _ h => h) (Or.inl ⟨by rfl, ?_⟩) (by assumption) ?_
  rotate_left
  · (intro w hSw; (try dsimp only at hSw); first | (go_simp; done) | (go_simp; with_reducible rfl))
  simp only [Act.put, List.getElem_toArray, List.getElem_cons_zero, List.getElem_cons_succ, List.setIfInBounds_toArray, List.set_cons_zero, List.set_cons_succ]
  refine wpAnyH_take (i := 5) (v := ?_) rfl (by kernel_rfl) (by kernel_rfl) (by kernel_rfl) (fun _ _ _ h => h) (Or.inl ⟨by rfl, ?_⟩) (by assumption) ?_
  rotate_left
  · (intro w hSw; (try dsimp only at hSw); first | (go_simp; done) | (go_simp; with_reducible rfl))
  simp only [Act.put, List.getElem_toArray, List.getElem_cons_zero, List.getElem_cons_succ, List.setIfInBounds_toArray, List.set_cons_zero, List.set_cons_succ]
  refine wpAnyH_ready (rs := [6]) (by kernel_rfl) (by simp) ?_
  refine AllReadyH.cons rfl (fun K hK => ?_) AllReadyH.nil
  go_simp
  refine FD.out.mono ?_
  rintro e w2 ⟨v, rfl, r, rfl, hr, rfl⟩
  have FI := Lib.hid hr
  refine hK.out _ _ ⟨P2.out.st.blk.cell 0, OB2.out.cell 1⟩ (fun hHeld2 => ?_)
  clear hK K hHeld hr FD
  refine wpAnyH_take (i := 7) (v := ?_) rfl (by kernel_rfl) (by kernel_rfl) (by kernel_rfl) (fun _ _ _ h => h) (Or.inl ⟨by rfl, ?_⟩) (by assumption) ?_
  rotate_left
  · (intro w hSw; (try dsimp only at hSw); first | (go_simp; done) | (go_simp; with_reducible rfl))
  simp only [Act.put, List.getElem_toArray, List.getElem_cons_zero, List.getElem_cons_succ, List.setIfInBounds_toArray, List.set_cons_zero, List.set_cons_succ]
  refine wpAnyH_done (by kernel_rfl) ?_ _
  clear hHeld2
  have o0 := OB2.out.cell 0
  have o1 := OB2.out.cell 1
  have o2 := OB2.out.cell 2
  have o3 := OB2.out.cell 3
  have s0 := P2.out.st.blk.cell 0
  have s1 := P2.out.st.blk.cell 1
  have f0 := P2.out.st.blk.free 0
  have f1 := P2.out.st.blk.free 1
  rcases FI.out with ⟨rfl, hno⟩ | ⟨k, hk, rfl, hkn⟩
  · have CA := Lib.hid (cancel_no P2.out.qs hn (by omega) hno)
    have FIN := Lib.hid (show ∃ F' vl' M' ad', Pair F' W q sb vl' M' ad' B ∧ Bf B w W ∧ ad' ≤ ad + 1 from ⟨F, _, M, ad, P2.out, BM.out, by omega⟩)
    clear FI hno
    go_wp2_with fail
    refine CA.out.mono ?_
    rintro e w3 ⟨rfl, rfl⟩
    go_wp2_with fail
    go_ret
    exact ⟨rfl, FIN.out⟩
  · have tk : decide ((k : Int) < 0) = false := decide_eq_false (by omega)
    have WO := Lib.hid (without_any A c M k W LA.out (by omega) (by omega))
    clear FI o2 o3
    go_wp2_with fail
    refine WO.out.mono ?_
    rintro e w3 ⟨v', rfl, ho, hb3⟩
    obtain ⟨nn, A', c', rfl⟩ : ∃ n A c, v' = .slice A n c := by obtain ⟨A, c, e, -⟩ := ho.open_; exact ⟨_, A, c, e⟩
    have S3 := Lib.hid (P2.out.st.below hb3)
    obtain ⟨s4, o4⟩ := S3.out.put (ho.mono P2.out.size)
    have S4 := Lib.hid s4
    have O4 := Lib.hid (only_row hb3 o4)
    have OB4 := Lib.hid ((OB2.out.below hb3 OB2.out.lt).far (p := ⟨sb, 0, none⟩) (fun e => ty_ne OB2.out P2.out.st.blk (by decide) e) (.slice A' nn c'))
    clear s0 s1 f0 f1 o1 ho hb3 s4 o4 WO
    have s0 := S3.out.blk.cell 0
    have f0 := S3.out.blk.free 0
    go_upto_region 11 with fail
    generalize w3.setCell ⟨sb, 0, none⟩ (.slice A' nn c') = W4 at *
    have Q4 := Lib.hid (P2.out.qs.mid P2.out.st O4.out)
    have CA := Lib.hid (cancel_yes Q4.out hk (by rw [hkn]; exact hn) (by omega) (by omega))
    rw [hkn] at CA
    have o1 := OB4.out.cell 1
    clear s0 f0
    go_wp2_with fail
    refine CA.out.mono ?_
    rintro e w5 ⟨rfl, F5, h5, m5⟩
    have FIN := Lib.hid (Pair.done BM.out BW.out P2.out.qs P2.out.lo S4.out O4.out P2.out.st h5 m5 (by have := List.length_eraseIdx_le M k; have := PL.out; omega) (by omega))
    clear h5 m5 CA
    go_wp2_with fail
    go_ret
    exact ⟨rfl, FIN.out⟩
end Go.Proofs.Ytmfhellpdpfoaaa.qu
