/-
  R-trees: a node's entries in two parts.
-/
import Derived.Test.YtndhdpjgnepfnaaTrL
namespace Go.Proofs.Ytndhdpjgnepfnaa.tr
open Go.RowKit
open base (ret_bool ret_int made up Blk Only)
open rk (Lay)
open rect
set_option linter.unusedVariables false
set_option linter.unusedSimpArgs false
attribute [local go_sem] Oper.semAt_some

/-- what part leaves -/
def PartP (a : Nat) (L : List En) (w : World) (e : Ending) (w' : World) : Prop := ∃ g2 v1 v2 O T, e = .returned (.pointer (some ⟨g2, 0, none⟩)) ∧ Blk w' a 62 #[v1] ∧ Blk w' g2 62 #[v2] ∧
  rk.Own E6 w' w.heap.size 79 v1 O ∧ rk.Own E6 w' w.heap.size 79 v2 T ∧ 2 ≤ O.length ∧ 2 ≤ T.length ∧ (O ++ T).Perm L ∧ w.heap.size ≤ g2 ∧ (∀ k, v1.ownBlock = some k → v2.ownBlock ≠ some k) ∧ Only (fun k => k = a) w w'
theorem lay_drop {w : World} {b off : Nat} {L : List En} (h : Lay E6 w (some ⟨b, off, none⟩) L) (n : Nat) : Lay E6 w (some ⟨b, off + n * 6, none⟩) (L.drop n) := fun h0 => by
  rw [List.length_drop] at h0
  obtain ⟨b', o', e, hlt, hc⟩ := h (by omega)
  injection e with e
  injection e with e1 e2
  subst e1 e2
  refine ⟨b, _, rfl, hlt, fun i hi j hj => ?_⟩
  rw [List.length_drop] at hi
  rw [List.getElem_drop, ← hc (n + i) (by omega) j hj]
  have : E6.k = 6 := rfl
  rw [this, Nat.add_mul, Nat.add_assoc off]
theorem lay_take {w : World} {A : Option Addr} {L : List En} (h : Lay E6 w A L) (n : Nat) : Lay E6 w A (L.take n) := fun h0 => by
  rw [List.length_take] at h0
  obtain ⟨b', o', e, hlt, hc⟩ := h (by omega)
  refine ⟨b', o', e, hlt, fun i hi j hj => ?_⟩
  rw [List.length_take] at hi
  rw [List.getElem_take, ← hc i (by omega) j hj]
theorem PN.start {L : List En} {i j : Nat} (hl : L.length = 5) (hij : i < j) (hj : j < 5) : PN L [L.getD i en0] [L.getD j en0] (L.take i ++ (L.drop (i + 1)).take (j - (i + 1)) ++ L.drop (j + 1)) := by
  have hi : i < L.length := by omega
  have hj' : j < L.length := by omega
  have ei : L.getD i en0 = L[i] := by rw [List.getD_eq_getElem?_getD, List.getElem?_eq_getElem hi]; rfl
  have ej : L.getD j en0 = L[j] := by rw [List.getD_eq_getElem?_getD, List.getElem?_eq_getElem hj']; rfl
  refine ⟨by simp, by simp, by simp; omega, by simp; omega, by simp; omega, ?_⟩
  rw [ei, ej]
  have h1 : L = L.take i ++ L[i] :: L.drop (i + 1) := by rw [← List.drop_eq_getElem_cons hi, List.take_append_drop]
  have h2 : L.drop (i + 1) = (L.drop (i + 1)).take (j - (i + 1)) ++ L[j] :: L.drop (j + 1) := by
    rw [← List.drop_eq_getElem_cons hj']
    conv => lhs; rw [← List.take_append_drop (j - (i + 1)) (L.drop (i + 1)), List.drop_drop, show i + 1 + (j - (i + 1)) = j by omega]
  conv => rhs; rw [h1, h2]
  generalize L[i] = a
  generalize L[j] = b
  generalize L.take i = A
  generalize (L.drop (i + 1)).take (j - (i + 1)) = B
  generalize L.drop (j + 1) = C
  show (a :: b :: (A ++ B ++ C)).Perm (A ++ a :: (B ++ b :: C))
  rw [List.append_assoc A B C]
  refine List.Perm.trans ?_ List.perm_middle.symm
  refine List.Perm.cons a ?_
  rw [← List.append_assoc, ← List.append_assoc]
  exact List.perm_middle.symm
theorem PM.fin {a : Nat} {v : Value} {w wr : World} {p q : Nat} {v1 v2 vl : Value} {L O T R : List En} (h : PM w w.heap.size wr p q v1 v2 vl O T R) (n : PN L O T []) (hb : Blk w a 62 #[v]) : PartP a L w (.returned (.pointer (some ⟨q, 0, none⟩))) (wr.setCell ⟨a, 0, none⟩ v1) := by
  have alt := hb.lt
  have A1 := hb.below h.below hb.lt
  have n1 := n.ot
  have n2 := n.tt
  have hp := n.perm
  rw [List.append_nil] at hp
  have r1 := h.r1.own (by simpa using n1)
  have r2 := h.r2.own (by simpa using n2)
  have P1 := A1.put 0 v1
  simp only [List.setIfInBounds_toArray, List.set_cons_zero] at P1
  have e1 : ∀ k, k ≠ a → (wr.setCell ⟨a, 0, none⟩ v1).heap[k]? = wr.heap[k]? := fun k hk => Below.heap_setCell wr ⟨a, 0, none⟩ v1 k (fun e => hk e)
  exact ⟨q, v1, v2, O, T, rfl, P1, h.n2.far (p := ⟨a, 0, none⟩) (by show q ≠ a; have := h.bq; omega) v1, r1.keep (fun k e => e1 k (by have := (r1.lt' k e).1; omega)), r2.keep (fun k e => e1 k (by have := (r2.lt' k e).1; omega)), by simpa using n1, by simpa using n2, hp, h.bq, fun k e => h.a12 k (r1.lt' k e).1 e,
    ((Only.refl (fun k => k = a) w).below h.below (fun k hk hk2 => absurd hk (by omega))).setCell (p := ⟨a, 0, none⟩) (.inl rfl) v1⟩
theorem op_app {P : Program} {ts : TypeId} {o : Oper} {a : Act} {w w' : World} {K : Act → World → Prop} {Q : Exit → Act → World → Prop} (s x : Operand)
    (ho : o.op = .call { callee := .builtin .append, args := #[s, x], argTypes := #[ts, ts] }) (hty : o.type = ts) {v X v' : Value} (h1 : a.eval s = v) (h2 : a.eval x = X)
    (hr : (Builtin.append_ #[ts, ts] ts #[v, X]).run P w = .ok v' w') (k : K (a.put o.dst v') w') : Oper.wp P o a w K Q := by
  unfold Oper.wp execOp
  simp only [ho, resolve, invoke, builtin, Sem.run_bind, Sem.run_pure, Result.andThen_ok, List.map_toArray, List.map_cons, List.map_nil, h1, h2, hty, hr]
  exact k
def lenV : Value → Nat
  | .slice _ n _ => n
  | _ => 0
set_option maxRecDepth 100000 in
set_option maxHeartbeats 8000000 in
theorem part_any (a : Nat) (v : Value) (L : List En) (w : World) (hb : Blk w a 62 #[v]) (ho : rk.Own E6 w 0 79 v L) (hl : L.length = 5) (hL : ∀ e ∈ L, e.b.right = true) :
    Calls Try.prog 56 #[.pointer (some ⟨a, 0, none⟩)] w (PartP a L w) := by
  obtain ⟨bl, c, cs, rfl, -, hbl, hc5, hcm, hcs, htk⟩ := ho.full (by omega)
  have NA : NAt w a (some ⟨bl, 0, none⟩) L c := ⟨hb, by
    obtain ⟨A, c', e, h1, -⟩ := ho.open_
    injection e with e1 e2 e3
    rw [e1]
    exact h1, hc5, hcm⟩
  have SE := Lib.hid (seeds_any a c (some ⟨bl, 0, none⟩) L w NA (by omega) (by omega) hL)
  have HL := Lib.hid hl
  have HR := Lib.hid hL
  have HB := Lib.hid hb
  have HO := Lib.hid ho
  have HC := Lib.hid hc5
  have HM := Lib.hid hcm
  have HBL := Lib.hid (show bl < w.heap.size from hbl.lt)
  have LAY := Lib.hid NA.lay
  rw [hl] at hb
  have HB5 := Lib.hid hb
  clear hb ho hbl hc5 hcm hcs htk hL NA hl
  go_enter Try.func56, Try.ntmps56
  go_wp2_with fail
  refine SE.out.mono ?_
  rintro e1 w1 ⟨⟨i, j, rfl, hij, hj5⟩, hb1⟩
  rw [HL.out] at hj5
  have B1 := Lib.hid hb1
  have H1 := Lib.hid (HB5.out.below hb1 HB5.out.lt)
  have SS := Lib.hid (fun ws (h : Below w.heap.size w ws) => ((HB5.out.below h HB5.out.lt).cell 0 : ws.cell? ⟨a, 0, none⟩ = some (.slice (some ⟨bl, 0, none⟩) 5 c)))
  have c5 : 5 ≤ c := by have := HC.out; rw [HL.out] at this; exact this
  have wi : IntKind.i64.wrap ((i : Int) + 1) = (i : Int) + 1 := IntWalk.i64_in _ (by omega)
  have wj : IntKind.i64.wrap ((j : Int) + 1) = (j : Int) + 1 := IntWalk.i64_in _ (by omega)
  have p1 : (0 : Int) ≤ (i : Int) := by omega
  have p2 : (0 : Int) ≤ (j : Int) := by omega
  have p3 : (0 : Int) ≤ (i : Int) + 1 := by omega
  have p4 : (0 : Int) ≤ (j : Int) + 1 := by omega
  have p5 : ((i : Int) + 1).toNat = i + 1 := by omega
  have p6 : ((j : Int) + 1).toNat = j + 1 := by omega
  have p7 : i + 1 ≤ c := by omega
  have p8 : j + 1 ≤ c := by omega
  have p9 : (i : Int) + 1 ≤ (c : Int) := by omega
  have p10 : (j : Int) + 1 ≤ (c : Int) := by omega
  clear hb1 SE
  go_wp2_with fail
  refine wp_region_held_drew (S := (fun ws => ws.cell? ⟨a, 0, none⟩ = some (.slice (some ⟨bl, 0, none⟩) 5 c))) (by kernel_rfl) (SS.out _ (base.below_drewN B1.out 1)) (fun hHeld => ?_)
  refine wpAnyH_take (i := 0) (v := ?_) rfl (by kernel_rfl) (by kernel_rfl) (by kernel_rfl) (fun _ _ _ h => h) (Or.inl ⟨by rfl, ?_⟩) (by assumption) ?_
  rotate_left
  · (intro w hSw; (try dsimp only at hSw); first | (go_simp; done) | (go_simp; with_reducible rfl))
  simp only [Act.put, List.getElem_toArray, List.getElem_cons_zero, List.getElem_cons_succ, List.setIfInBounds_toArray, List.set_cons_zero, List.set_cons_succ]
  refine wpAnyH_take (i := 1) (v := ?_) rfl (by kernel_rfl) (by kernel_rfl) (by kernel_rfl) (fun _ _ _ h => h) (Or.inl ⟨by rfl, ?_⟩) (by assumption) ?_
  rotate_left
  · (intro w hSw; (try dsimp only at hSw); first | (go_simp; done) | (go_simp; with_reducible rfl))
  simp only [Act.put, List.getElem_toArray, List.getElem_cons_zero, List.getElem_cons_succ, List.setIfInBounds_toArray, List.set_cons_zero, List.set_cons_succ]
  refine wpAnyH_take (i := 2) (v := ?_) rfl (by kernel_rfl) (by kernel_rfl) (by kernel_rfl) (fun _ _ _ h => h) (Or.inl ⟨by rfl, ?_⟩) (by assumption) ?_
  rotate_left
  · (intro w hSw; (try dsimp only at hSw); first | (go_simp; done) | (go_simp; with_reducible rfl))
  simp only [Act.put, List.getElem_toArray, List.getElem_cons_zero, List.getElem_cons_succ, List.setIfInBounds_toArray, List.set_cons_zero, List.set_cons_succ]
  refine wpAnyH_take (i := 3) (v := ?_) rfl (by kernel_rfl) (by kernel_rfl) (by kernel_rfl) (fun _ _ _ h => h) (Or.inl ⟨by rfl, ?_⟩) (by assumption) ?_
  rotate_left
  · (intro w hSw; (try dsimp only at hSw); first | (go_simp; done) | (go_simp; with_reducible rfl))
  simp only [Act.put, List.getElem_toArray, List.getElem_cons_zero, List.getElem_cons_succ, List.setIfInBounds_toArray, List.set_cons_zero, List.set_cons_succ]
  refine wpAnyH_take (i := 4) (v := ?_) rfl (by kernel_rfl) (by kernel_rfl) (by kernel_rfl) (fun _ _ _ h => h) (Or.inl ⟨by rfl, ?_⟩) (by assumption) ?_
  rotate_left
  · (intro w hSw; (try dsimp only at hSw); first | (go_simp; done) | (go_simp; with_reducible rfl))
  simp only [Act.put, List.getElem_toArray, List.getElem_cons_zero, List.getElem_cons_succ, List.setIfInBounds_toArray, List.set_cons_zero, List.set_cons_succ]
  refine wpAnyH_take (i := 5) (v := ?_) rfl (by kernel_rfl) (by kernel_rfl) (by kernel_rfl) (fun _ _ _ h => h) (Or.inl ⟨by rfl, ?_⟩) (by assumption) ?_
  rotate_left
  · (intro w hSw; (try dsimp only at hSw); first | (go_simp; done) | (go_simp; with_reducible rfl))
  simp only [Act.put, List.getElem_toArray, List.getElem_cons_zero, List.getElem_cons_succ, List.setIfInBounds_toArray, List.set_cons_zero, List.set_cons_succ]
  refine wpAnyH_take (i := 6) (v := ?_) rfl (by kernel_rfl) (by kernel_rfl) (by kernel_rfl) (fun _ _ _ h => h) (Or.inl ⟨by rfl, ?_⟩) (by assumption) ?_
  rotate_left
  · (intro w hSw; (try dsimp only at hSw); first | (go_simp; done) | (go_simp; with_reducible rfl))
  simp only [Act.put, List.getElem_toArray, List.getElem_cons_zero, List.getElem_cons_succ, List.setIfInBounds_toArray, List.set_cons_zero, List.set_cons_succ]
  refine wpAnyH_take (i := 7) (v := ?_) rfl (by kernel_rfl) (by kernel_rfl) (by kernel_rfl) (fun _ _ _ h => h) (Or.inl ⟨by rfl, ?_⟩) (by assumption) ?_
  rotate_left
  · (intro w hSw; (try dsimp only at hSw); first | (go_simp; done) | (go_simp; with_reducible rfl))
  simp only [Act.put, List.getElem_toArray, List.getElem_cons_zero, List.getElem_cons_succ, List.setIfInBounds_toArray, List.set_cons_zero, List.set_cons_succ]
  refine wpAnyH_take (i := 8) (v := ?_) rfl (by kernel_rfl) (by kernel_rfl) (by kernel_rfl) (fun _ _ _ h => h) (Or.inl ⟨by rfl, ?_⟩) (by assumption) ?_
  rotate_left
  · (intro w hSw; (try dsimp only at hSw); first | (go_simp; done) | (go_simp; with_reducible rfl))
  simp only [Act.put, List.getElem_toArray, List.getElem_cons_zero, List.getElem_cons_succ, List.setIfInBounds_toArray, List.set_cons_zero, List.set_cons_succ]
  refine wpAnyH_take (i := 9) (v := ?_) rfl (by kernel_rfl) (by kernel_rfl) (by kernel_rfl) (fun _ _ _ h => h) (Or.inl ⟨by rfl, ?_⟩) (by assumption) ?_
  rotate_left
  · (intro w hSw; (try dsimp only at hSw); first | (go_simp; done) | (go_simp; with_reducible rfl))
  simp only [Act.put, List.getElem_toArray, List.getElem_cons_zero, List.getElem_cons_succ, List.setIfInBounds_toArray, List.set_cons_zero, List.set_cons_succ]
  refine wpAnyH_take (i := 10) (v := ?_) rfl (by kernel_rfl) (by kernel_rfl) (by kernel_rfl) (fun _ _ _ h => h) (Or.inl ⟨by rfl, ?_⟩) (by assumption) ?_
  rotate_left
  · (intro w hSw; (try dsimp only at hSw); first | (go_simp; done) | (go_simp; with_reducible rfl))
  simp only [Act.put, List.getElem_toArray, List.getElem_cons_zero, List.getElem_cons_succ, List.setIfInBounds_toArray, List.set_cons_zero, List.set_cons_succ]
  refine wpAnyH_take (i := 12) (v := ?_) rfl (by kernel_rfl) (by kernel_rfl) (by kernel_rfl) (fun _ _ _ h => h) (Or.inl ⟨by rfl, ?_⟩) (by assumption) ?_
  rotate_left
  · (intro w hSw; (try dsimp only at hSw); first | (go_simp; done) | (go_simp; with_reducible rfl))
  simp only [Act.put, List.getElem_toArray, List.getElem_cons_zero, List.getElem_cons_succ, List.setIfInBounds_toArray, List.set_cons_zero, List.set_cons_succ]
  refine wpAnyH_take (i := 13) (v := ?_) rfl (by kernel_rfl) (by kernel_rfl) (by kernel_rfl) (fun _ _ _ h => h) (Or.inl ⟨by rfl, ?_⟩) (by assumption) ?_
  rotate_left
  · (intro w hSw; (try dsimp only at hSw); first | (go_simp; done) | (go_simp; with_reducible rfl))
  simp only [Act.put, List.getElem_toArray, List.getElem_cons_zero, List.getElem_cons_succ, List.setIfInBounds_toArray, List.set_cons_zero, List.set_cons_succ]
  refine wpAnyH_take (i := 14) (v := ?_) rfl (by kernel_rfl) (by kernel_rfl) (by kernel_rfl) (fun _ _ _ h => h) (Or.inl ⟨by rfl, ?_⟩) (by assumption) ?_
  rotate_left
  · (intro w hSw; (try dsimp only at hSw); first | (go_simp; done) | (go_simp; with_reducible rfl))
  simp only [Act.put, List.getElem_toArray, List.getElem_cons_zero, List.getElem_cons_succ, List.setIfInBounds_toArray, List.set_cons_zero, List.set_cons_succ]
  refine wpAnyH_take (i := 15) (v := ?_) rfl (by kernel_rfl) (by kernel_rfl) (by kernel_rfl) (fun _ _ _ h => h) (Or.inl ⟨by rfl, ?_⟩) (by assumption) ?_
  rotate_left
  · (intro w hSw; (try dsimp only at hSw); first | (go_simp; done) | (go_simp; with_reducible rfl))
  simp only [Act.put, List.getElem_toArray, List.getElem_cons_zero, List.getElem_cons_succ, List.setIfInBounds_toArray, List.set_cons_zero, List.set_cons_succ]
  refine wpAnyH_take (i := 16) (v := ?_) rfl (by kernel_rfl) (by kernel_rfl) (by kernel_rfl) (fun _ _ _ h => h) (Or.inl ⟨by rfl, ?_⟩) (by assumption) ?_
  rotate_left
  · (intro w hSw; (try dsimp only at hSw); first | (go_simp; done) | (go_simp; with_reducible rfl))
  simp only [Act.put, List.getElem_toArray, List.getElem_cons_zero, List.getElem_cons_succ, List.setIfInBounds_toArray, List.set_cons_zero, List.set_cons_succ]
  refine wpAnyH_take (i := 17) (v := ?_) rfl (by kernel_rfl) (by kernel_rfl) (by kernel_rfl) (fun _ _ _ h => h) (Or.inl ⟨by rfl, ?_⟩) (by assumption) ?_
  rotate_left
  · (intro w hSw; (try dsimp only at hSw); first | (go_simp; done) | (go_simp; with_reducible rfl))
  simp only [Act.put, List.getElem_toArray, List.getElem_cons_zero, List.getElem_cons_succ, List.setIfInBounds_toArray, List.set_cons_zero, List.set_cons_succ]
  refine wpAnyH_take (i := 18) (v := ?_) rfl (by kernel_rfl) (by kernel_rfl) (by kernel_rfl) (fun _ _ _ h => h) (Or.inl ⟨by rfl, ?_⟩) (by assumption) ?_
  rotate_left
  · (intro w hSw; (try dsimp only at hSw); first | (go_simp; done) | (go_simp; with_reducible rfl))
  simp only [Act.put, List.getElem_toArray, List.getElem_cons_zero, List.getElem_cons_succ, List.setIfInBounds_toArray, List.set_cons_zero, List.set_cons_succ]
  refine wpAnyH_take (i := 19) (v := ?_) rfl (by kernel_rfl) (by kernel_rfl) (by kernel_rfl) (fun _ _ _ h => h) (Or.inl ⟨by rfl, ?_⟩) (by assumption) ?_
  rotate_left
  · (intro w hSw; (try dsimp only at hSw); first | (go_simp; done) | (go_simp; with_reducible rfl))
  simp only [Act.put, List.getElem_toArray, List.getElem_cons_zero, List.getElem_cons_succ, List.setIfInBounds_toArray, List.set_cons_zero, List.set_cons_succ]
  refine wpAnyH_take (i := 20) (v := ?_) rfl (by kernel_rfl) (by kernel_rfl) (by kernel_rfl) (fun _ _ _ h => h) (Or.inl ⟨by rfl, ?_⟩) (by assumption) ?_
  rotate_left
  · (intro w hSw; (try dsimp only at hSw); first | (go_simp; done) | (go_simp; with_reducible rfl))
  simp only [Act.put, List.getElem_toArray, List.getElem_cons_zero, List.getElem_cons_succ, List.setIfInBounds_toArray, List.set_cons_zero, List.set_cons_succ]
  refine wpAnyH_take (i := 21) (v := ?_) rfl (by kernel_rfl) (by kernel_rfl) (by kernel_rfl) (fun _ _ _ h => h) (Or.inl ⟨by rfl, ?_⟩) (by assumption) ?_
  rotate_left
  · (intro w hSw; (try dsimp only at hSw); first | (go_simp; done) | (go_simp; with_reducible rfl))
  simp only [Act.put, List.getElem_toArray, List.getElem_cons_zero, List.getElem_cons_succ, List.setIfInBounds_toArray, List.set_cons_zero, List.set_cons_succ]
  refine wpAnyH_take (i := 22) (v := ?_) rfl (by kernel_rfl) (by kernel_rfl) (by kernel_rfl) (fun _ _ _ h => h) (Or.inl ⟨by rfl, ?_⟩) (by assumption) ?_
  rotate_left
  · (intro w hSw; (try dsimp only at hSw); first | (go_simp; done) | (go_simp; with_reducible rfl))
  simp only [Act.put, List.getElem_toArray, List.getElem_cons_zero, List.getElem_cons_succ, List.setIfInBounds_toArray, List.set_cons_zero, List.set_cons_succ]
  refine wpAnyH_ready (rs := [11, 23]) (by kernel_rfl) (by simp) ?_
  refine AllReadyH.cons rfl (fun K hK => ?_) (AllReadyH.cons rfl (fun K hK => ?_) AllReadyH.nil)
  · go_simp
    obtain ⟨wa, hwa⟩ : ∃ wa, (w1.alloc (.cells #[.slice (some ⟨bl, i * 6, none⟩) 1 1] 62)).drew = wa := ⟨_, rfl⟩
    have XA : Blk wa w1.heap.size 62 #[.slice (some ⟨bl, i * 6, none⟩) 1 1] := by rw [← hwa]; exact (Blk.new w1 62 #[.slice (some ⟨bl, i * 6, none⟩) 1 1])
    have MA : Below w1.heap.size w1 wa := by rw [← hwa]; exact (made w1 _).drew
    have za : wa.heap.size = w1.heap.size + 1 := by rw [← hwa]; simp
    rw [hwa]
    clear hwa
    refine hK.out _ _ (SS.out _ (up B1.out MA B1.out.size)) (fun hHeld2 => ?_)
    clear hK K hHeld
    refine wpAnyH_take (i := 24) (v := ?_) rfl (by kernel_rfl) (by kernel_rfl) (by kernel_rfl) (fun _ _ _ h => h) (Or.inl ⟨by rfl, ?_⟩) (by assumption) ?_
    rotate_left
    · (intro w hSw; (try dsimp only at hSw); first | (go_simp; done) | (go_simp; with_reducible rfl))
    simp only [Act.put, List.getElem_toArray, List.getElem_cons_zero, List.getElem_cons_succ, List.setIfInBounds_toArray, List.set_cons_zero, List.set_cons_succ]
    refine wpAnyH_ready (rs := [23]) (by kernel_rfl) (by simp) ?_
    refine AllReadyH.cons rfl (fun K hK => ?_) AllReadyH.nil
    go_simp
    obtain ⟨wb, hwb⟩ : ∃ wb, (wa.alloc (.cells #[.slice (some ⟨bl, j * 6, none⟩) 1 1] 62)) = wb := ⟨_, rfl⟩
    have XB : Blk wb wa.heap.size 62 #[.slice (some ⟨bl, j * 6, none⟩) 1 1] := by rw [← hwb]; exact (Blk.new wa 62 #[.slice (some ⟨bl, j * 6, none⟩) 1 1])
    have MB : Below wa.heap.size wa wb := by rw [← hwb]; exact (made wa _)
    have zb : wb.heap.size = wa.heap.size + 1 := by rw [← hwb]; simp
    rw [hwb]
    clear hwb
    have Q1 := Lib.hid (XA.below MB XA.lt)
    have Q2 := Lib.hid XB
    have B2 := Lib.hid (up (up B1.out MA B1.out.size) MB (by have := B1.out.size; omega))
    have ge1 : w.heap.size ≤ w1.heap.size := B1.out.size
    have ge2 : w.heap.size ≤ wa.heap.size := by omega
    have ne : w1.heap.size ≠ wa.heap.size := by omega
    refine hK.out _ _ (SS.out _ B2.out) (fun hHeld => ?_)
    clear hK K hHeld2 XA XB MA MB zb
    refine wpAnyH_take (i := 25) (v := ?_) rfl (by kernel_rfl) (by kernel_rfl) (by kernel_rfl) (fun _ _ _ h => h) (Or.inl ⟨by rfl, ?_⟩) (by assumption) ?_
    rotate_left
    · (intro w hSw; (try dsimp only at hSw); first | (go_simp; done) | (go_simp; with_reducible rfl))
    simp only [Act.put, List.getElem_toArray, List.getElem_cons_zero, List.getElem_cons_succ, List.setIfInBounds_toArray, List.set_cons_zero, List.set_cons_succ]
    refine wpAnyH_done (by kernel_rfl) ?_ _
    clear hHeld
    generalize w1.heap.size = oa at *
    generalize wa.heap.size = ob at *
    have GE := Lib.hid (And.intro ge1 (And.intro ge2 ne))
    clear ge1 ge2 ne
    subst za
    have p11 : (i : Int) ≤ (c : Int) := by omega
    have p12 : (j : Int) ≤ (c : Int) := by omega
    have p13 : (i : Int) + 1 ≤ (j : Int) := by omega
    have p14 : ¬ c = i + 1 := by omega
    have p15 : (j : Int) + 1 ≤ 5 := by omega
    have p16 : j + 1 ≤ 5 := by omega
    have p17 : (5 : Int) ≤ (c : Int) := by omega
    obtain ⟨A3, hA3, LY3⟩ : ∃ A3, (if c = j + 1 then some (⟨bl, 0, none⟩ : Addr) else some ⟨bl, (j + 1) * 6, none⟩) = some A3 ∧ Hid (∀ W, Below w.heap.size w W → Lay E6 W (some A3) (L.drop (j + 1))) := by
      by_cases h : c = j + 1
      · exact ⟨⟨bl, 0, none⟩, by simp [h], fun W hW h0 => absurd h0 (by simp; have := HL.out; omega)⟩
      · exact ⟨⟨bl, (j + 1) * 6, none⟩, by simp [h], fun W hW => by
          have := lay_drop LAY.out (j + 1)
          rw [Nat.zero_add] at this
          exact this.below hW⟩
    have CC := Lib.hid (fun (W : World) (q : Nat) (hW : Below w.heap.size w W) (hq : Blk W q 60 #[.slice (some ⟨bl, 0, none⟩) i c, .slice (some ⟨bl, (i + 1) * 6, none⟩) (j - (i + 1)) (c - (i + 1)), .slice (some A3) (4 - j) (c - (j + 1))]) => (concat_any q (some ⟨bl, 0, none⟩) (some ⟨bl, (i + 1) * 6, none⟩) (some A3) c (c - (i + 1)) (c - (j + 1)) (L.take i) ((L.drop (i + 1)).take (j - (i + 1))) (L.drop (j + 1)) W (by
      have e1 : (L.take i).length = i := by rw [List.length_take, HL.out]; omega
      have e2 : ((L.drop (i + 1)).take (j - (i + 1))).length = j - (i + 1) := by rw [List.length_take, List.length_drop, HL.out]; omega
      have e3 : (L.drop (j + 1)).length = 4 - j := by rw [List.length_drop, HL.out]; omega
      rw [e1, e2, e3]
      exact hq) ((lay_take LAY.out i).below hW) (by
      have := (lay_take (lay_drop LAY.out (i + 1)) (j - (i + 1))).below hW
      rw [Nat.zero_add] at this
      exact this) (LY3.out W hW) (by simp; have := HL.out; omega) (by simp; have := HL.out; omega)))
    have PS := Lib.hid (PN.start HL.out hij hj5)
    have L1 := Lib.hid (show Lay E6 w (some ⟨bl, i * 6, none⟩) [L.getD i en0] from by
      have := lay_take (lay_drop LAY.out i) 1
      rw [Nat.zero_add, List.drop_eq_getElem_cons (by have := HL.out; omega)] at this
      rw [List.getD_eq_getElem?_getD, List.getElem?_eq_getElem (by have := HL.out; omega)]
      exact this)
    have L2 := Lib.hid (show Lay E6 w (some ⟨bl, j * 6, none⟩) [L.getD j en0] from by
      have := lay_take (lay_drop LAY.out j) 1
      rw [Nat.zero_add, List.drop_eq_getElem_cons (by have := HL.out; omega)] at this
      rw [List.getD_eq_getElem?_getD, List.getElem?_eq_getElem (by have := HL.out; omega)]
      exact this)
    generalize L.getD i en0 = ei at *
    generalize L.getD j en0 = ej at *
    generalize L.take i ++ (L.drop (i + 1)).take (j - (i + 1)) ++ L.drop (j + 1) = R0 at *
    go_wp2_with fail
    refine wp_region_held_drew (S := (fun ws => ws.cell? ⟨a, 0, none⟩ = some (.slice (some ⟨bl, 0, none⟩) 5 c))) (by kernel_rfl) (SS.out _ (base.below_drewN B2.out 1)) (fun hHeld => ?_)
    refine wpAnyH_take (i := 0) (v := ?_) rfl (by kernel_rfl) (by kernel_rfl) (by kernel_rfl) (fun _ _ _ h => h) (Or.inl ⟨by rfl, ?_⟩) (by assumption) ?_
    rotate_left
    · (intro w hSw; (try dsimp only at hSw); first | (go_simp; done) | (go_simp; with_reducible rfl))
    simp only [Act.put, List.getElem_toArray, List.getElem_cons_zero, List.getElem_cons_succ, List.setIfInBounds_toArray, List.set_cons_zero, List.set_cons_succ]
    refine wpAnyH_take (i := 1) (v := ?_) rfl (by kernel_rfl) (by kernel_rfl) (by kernel_rfl) (fun _ _ _ h => h) (Or.inl ⟨by rfl, ?_⟩) (by assumption) ?_
    rotate_left
    · (intro w hSw; (try dsimp only at hSw); first | (go_simp; done) | (go_simp; with_reducible rfl))
    simp only [Act.put, List.getElem_toArray, List.getElem_cons_zero, List.getElem_cons_succ, List.setIfInBounds_toArray, List.set_cons_zero, List.set_cons_succ]
    refine wpAnyH_take (i := 2) (v := ?_) rfl (by kernel_rfl) (by kernel_rfl) (by kernel_rfl) (fun _ _ _ h => h) (Or.inl ⟨by rfl, ?_⟩) (by assumption) ?_
    rotate_left
    · (intro w hSw; (try dsimp only at hSw); first | (go_simp; done) | (go_simp; with_reducible rfl))
    simp only [Act.put, List.getElem_toArray, List.getElem_cons_zero, List.getElem_cons_succ, List.setIfInBounds_toArray, List.set_cons_zero, List.set_cons_succ]
    refine wpAnyH_take (i := 3) (v := ?_) rfl (by kernel_rfl) (by kernel_rfl) (by kernel_rfl) (fun _ _ _ h => h) (Or.inl ⟨by rfl, ?_⟩) (by assumption) ?_
    rotate_left
    · (intro w hSw; (try dsimp only at hSw); first | (go_simp; done) | (go_simp; with_reducible rfl))
    simp only [Act.put, List.getElem_toArray, List.getElem_cons_zero, List.getElem_cons_succ, List.setIfInBounds_toArray, List.set_cons_zero, List.set_cons_succ]
    refine wpAnyH_take (i := 4) (v := ?_) rfl (by kernel_rfl) (by kernel_rfl) (by kernel_rfl) (fun _ _ _ h => h) (Or.inl ⟨by rfl, ?_⟩) (by assumption) ?_
    rotate_left
    · (intro w hSw; (try dsimp only at hSw); first | (go_simp; done) | (go_simp; with_reducible rfl))
    simp only [Act.put, List.getElem_toArray, List.getElem_cons_zero, List.getElem_cons_succ, List.setIfInBounds_toArray, List.set_cons_zero, List.set_cons_succ]
    refine wpAnyH_take (i := 5) (v := ?_) rfl (by kernel_rfl) (by kernel_rfl) (by kernel_rfl) (fun _ _ _ h => h) (Or.inl ⟨by rfl, ?_⟩) (by assumption) ?_
    rotate_left
    · (intro w hSw; (try dsimp only at hSw); first | (go_simp; done) | (go_simp; with_reducible rfl))
    simp only [Act.put, List.getElem_toArray, List.getElem_cons_zero, List.getElem_cons_succ, List.setIfInBounds_toArray, List.set_cons_zero, List.set_cons_succ]
    refine wpAnyH_take (i := 6) (v := ?_) rfl (by kernel_rfl) (by kernel_rfl) (by kernel_rfl) (fun _ _ _ h => h) (Or.inl ⟨by rfl, ?_⟩) (by assumption) ?_
    rotate_left
    · (intro w hSw; (try dsimp only at hSw); first | (go_simp; done) | (go_simp; with_reducible rfl))
    simp only [Act.put, List.getElem_toArray, List.getElem_cons_zero, List.getElem_cons_succ, List.setIfInBounds_toArray, List.set_cons_zero, List.set_cons_succ]
    refine wpAnyH_take (i := 7) (v := ?_) rfl (by kernel_rfl) (by kernel_rfl) (by kernel_rfl) (fun _ _ _ h => h) (Or.inl ⟨by rfl, ?_⟩) (by assumption) ?_
    rotate_left
    · (intro w hSw; (try dsimp only at hSw); first | (go_simp; done) | (go_simp; with_reducible rfl))
    simp only [Act.put, List.getElem_toArray, List.getElem_cons_zero, List.getElem_cons_succ, List.setIfInBounds_toArray, List.set_cons_zero, List.set_cons_succ]
    refine wpAnyH_take (i := 8) (v := ?_) rfl (by kernel_rfl) (by kernel_rfl) (by kernel_rfl) (fun _ _ _ h => h) (Or.inl ⟨by rfl, ?_⟩) (by assumption) ?_
    rotate_left
    · (intro w hSw; (try dsimp only at hSw); first | (go_simp; done) | (go_simp; with_reducible rfl))
    simp only [Act.put, List.getElem_toArray, List.getElem_cons_zero, List.getElem_cons_succ, List.setIfInBounds_toArray, List.set_cons_zero, List.set_cons_succ]
    refine wpAnyH_take (i := 9) (v := ?_) rfl (by kernel_rfl) (by kernel_rfl) (by kernel_rfl) (fun _ _ _ h => h) (Or.inl ⟨by rfl, ?_⟩) (by assumption) ?_
    rotate_left
    · (intro w hSw; (try dsimp only at hSw); first | (go_simp; done) | (go_simp; with_reducible rfl))
    simp only [Act.put, List.getElem_toArray, List.getElem_cons_zero, List.getElem_cons_succ, List.setIfInBounds_toArray, List.set_cons_zero, List.set_cons_succ]
    refine wpAnyH_take (i := 10) (v := ?_) rfl (by kernel_rfl) (by kernel_rfl) (by kernel_rfl) (fun _ _ _ h => h) (Or.inl ⟨by rfl, ?_⟩) (by assumption) ?_
    rotate_left
    · (intro w hSw; (try dsimp only at hSw); first | (go_simp; done) | (go_simp; with_reducible rfl))
    simp only [Act.put, List.getElem_toArray, List.getElem_cons_zero, List.getElem_cons_succ, List.setIfInBounds_toArray, List.set_cons_zero, List.set_cons_succ]
    refine wpAnyH_take (i := 11) (v := ?_) rfl (by kernel_rfl) (by kernel_rfl) (by kernel_rfl) (fun _ _ _ h => h) (Or.inl ⟨by rfl, ?_⟩) (by assumption) ?_
    rotate_left
    · (intro w hSw; (try dsimp only at hSw); first | (go_simp; done) | (go_simp; with_reducible rfl))
    simp only [Act.put, List.getElem_toArray, List.getElem_cons_zero, List.getElem_cons_succ, List.setIfInBounds_toArray, List.set_cons_zero, List.set_cons_succ]
    refine wpAnyH_take (i := 12) (v := ?_) rfl (by kernel_rfl) (by kernel_rfl) (by kernel_rfl) (fun _ _ _ h => h) (Or.inl ⟨by rfl, ?_⟩) (by assumption) ?_
    rotate_left
    · (intro w hSw; (try dsimp only at hSw); first | (go_simp; done) | (go_simp; with_reducible rfl))
    simp only [Act.put, List.getElem_toArray, List.getElem_cons_zero, List.getElem_cons_succ, List.setIfInBounds_toArray, List.set_cons_zero, List.set_cons_succ]
    refine wpAnyH_take (i := 13) (v := ?_) rfl (by kernel_rfl) (by kernel_rfl) (by kernel_rfl) (fun _ _ _ h => h) (Or.inl ⟨by rfl, ?_⟩) (by assumption) ?_
    rotate_left
    · (intro w hSw; (try dsimp only at hSw); first | (go_simp; done) | (go_simp; with_reducible rfl))
    simp only [Act.put, List.getElem_toArray, List.getElem_cons_zero, List.getElem_cons_succ, List.setIfInBounds_toArray, List.set_cons_zero, List.set_cons_succ]
    refine wpAnyH_take (i := 14) (v := ?_) rfl (by kernel_rfl) (by kernel_rfl) (by kernel_rfl) (fun _ _ _ h => h) (Or.inl ⟨by rfl, ?_⟩) (by assumption) ?_
    rotate_left
    · (intro w hSw; (try dsimp only at hSw); first | (go_simp; done) | (go_simp; with_reducible rfl))
    simp only [Act.put, List.getElem_toArray, List.getElem_cons_zero, List.getElem_cons_succ, List.setIfInBounds_toArray, List.set_cons_zero, List.set_cons_succ]
    refine wpAnyH_take (i := 15) (v := ?_) rfl (by kernel_rfl) (by kernel_rfl) (by kernel_rfl) (fun _ _ _ h => h) (Or.inl ⟨by rfl, ?_⟩) (by assumption) ?_
    rotate_left
    · (intro w hSw; (try dsimp only at hSw); first | (go_simp; done) | (go_simp; with_reducible rfl))
    simp only [Act.put, List.getElem_toArray, List.getElem_cons_zero, List.getElem_cons_succ, List.setIfInBounds_toArray, List.set_cons_zero, List.set_cons_succ]
    refine wpAnyH_take (i := 16) (v := ?_) rfl (by kernel_rfl) (by kernel_rfl) (by kernel_rfl) (fun _ _ _ h => h) (Or.inl ⟨by rfl, ?_⟩) (by assumption) ?_
    rotate_left
    · (intro w hSw; (try dsimp only at hSw); first | (go_simp; done) | (go_simp; with_reducible rfl))
    simp only [Act.put, List.getElem_toArray, List.getElem_cons_zero, List.getElem_cons_succ, List.setIfInBounds_toArray, List.set_cons_zero, List.set_cons_succ]
    refine wpAnyH_take (i := 17) (v := ?_) rfl (by kernel_rfl) (by kernel_rfl) (by kernel_rfl) (fun _ _ _ h => h) (Or.inl ⟨by rfl, ?_⟩) (by assumption) ?_
    rotate_left
    · (intro w hSw; (try dsimp only at hSw); first | (go_simp; done) | (go_simp; with_reducible rfl))
    simp only [Act.put, List.getElem_toArray, List.getElem_cons_zero, List.getElem_cons_succ, List.setIfInBounds_toArray, List.set_cons_zero, List.set_cons_succ]
    refine wpAnyH_take (i := 18) (v := ?_) rfl (by kernel_rfl) (by kernel_rfl) (by kernel_rfl) (fun _ _ _ h => h) (Or.inl ⟨by rfl, ?_⟩) (by assumption) ?_
    rotate_left
    · (intro w hSw; (try dsimp only at hSw); first | (go_simp; done) | (go_simp; with_reducible rfl))
    simp only [Act.put, List.getElem_toArray, List.getElem_cons_zero, List.getElem_cons_succ, List.setIfInBounds_toArray, List.set_cons_zero, List.set_cons_succ]
    refine wpAnyH_take (i := 19) (v := ?_) rfl (by kernel_rfl) (by kernel_rfl) (by kernel_rfl) (fun _ _ _ h => h) (Or.inl ⟨by rfl, ?_⟩) (by assumption) ?_
    rotate_left
    · (intro w hSw; (try dsimp only at hSw); first | (go_simp; done) | (go_simp; with_reducible rfl))
    simp only [Act.put, List.getElem_toArray, List.getElem_cons_zero, List.getElem_cons_succ, List.setIfInBounds_toArray, List.set_cons_zero, List.set_cons_succ]
    refine wpAnyH_take (i := 20) (v := ?_) rfl (by kernel_rfl) (by kernel_rfl) (by kernel_rfl) (fun _ _ _ h => h) (Or.inl ⟨by rfl, ?_⟩) (by assumption) ?_
    rotate_left
    · (intro w hSw; (try dsimp only at hSw); first | (go_simp; done) | (go_simp; with_reducible rfl))
    simp only [Act.put, List.getElem_toArray, List.getElem_cons_zero, List.getElem_cons_succ, List.setIfInBounds_toArray, List.set_cons_zero, List.set_cons_succ]
    refine wpAnyH_ready (rs := [21]) (by kernel_rfl) (by simp) ?_
    refine AllReadyH.cons rfl (fun K hK => ?_) AllReadyH.nil
    go_simp
    obtain ⟨wc, hwc⟩ : ∃ wc, (wb.alloc (.cells #[.slice (some ⟨bl, 0, none⟩) i c, .slice (some ⟨bl, (i + 1) * 6, none⟩) (j - (i + 1)) (c - (i + 1)), .slice (some A3) (4 - j) (c - (j + 1))] 60)).drew = wc := ⟨_, rfl⟩
    have XC := Lib.hid (show Blk wc wb.heap.size 60 #[.slice (some ⟨bl, 0, none⟩) i c, .slice (some ⟨bl, (i + 1) * 6, none⟩) (j - (i + 1)) (c - (i + 1)), .slice (some A3) (4 - j) (c - (j + 1))] from by rw [← hwc]; exact (Blk.new wb 60 _))
    have MC := Lib.hid (show Below wb.heap.size wb wc from by rw [← hwc]; exact (made wb _).drew)
    rw [hwc]
    have BC := Lib.hid (up B2.out MC.out B2.out.size)
    refine hK.out _ _ (SS.out _ BC.out) (fun hHeld2 => ?_)
    clear hK K hHeld hwc p3 p4 p5 p6 p7 p8 p9 p10 p11 p12 p13 p14 p15 p16 p17 hA3 p1 p2 wi wj
    refine wpAnyH_ready (rs := [22]) (by kernel_rfl) (by simp) ?_
    refine AllReadyH.cons rfl (fun K hK => ?_) AllReadyH.nil
    go_simp
    refine (CC.out wc _ BC.out XC.out).mono ?_
    rintro e2 wd ⟨vl, rfl, hol, hbd⟩
    have BD := Lib.hid (up BC.out hbd BC.out.size)
    refine hK.out _ _ (SS.out _ BD.out) (fun hHeld => ?_)
    clear hK K hHeld2 CC
    have PMS : PM w w.heap.size wd oa (oa + 1) (.slice (some ⟨bl, i * 6, none⟩) 1 1) (.slice (some ⟨bl, j * 6, none⟩) 1 1) vl [ei] [ej] R0 :=
      ⟨BD.out, BD.out.size, (Q1.out.below MC.out Q1.out.lt).below hbd (Q1.out.below MC.out Q1.out.lt).lt, (Q2.out.below MC.out Q2.out.lt).below hbd (Q2.out.below MC.out Q2.out.lt).lt,
        .inr ⟨bl, _, rfl, HBL.out, rfl, L1.out.keep (fun k hk _ => BD.out.block k hk)⟩, .inr ⟨bl, _, rfl, HBL.out, rfl, L2.out.keep (fun k hk _ => BD.out.block k hk)⟩, hol.mono BC.out.size,
        fun k hk e => by
          have : bl = k := by first | (injection e) | (simp [Value.ownBlock] at e; exact e)
          have := HBL.out
          omega, fun k e e' => by
          have : bl = k := by first | (injection e) | (simp [Value.ownBlock] at e; exact e)
          have := (hol.lt' k e').1
          have := HBL.out
          have := BC.out.size
          omega, fun k e e' => by
          have : bl = k := by first | (injection e) | (simp [Value.ownBlock] at e; exact e)
          have := (hol.lt' k e').1
          have := HBL.out
          have := BC.out.size
          omega, GE.out.2.2, GE.out.1, GE.out.2.1⟩
    have PMH := Lib.hid PMS
    clear PMS hol hbd XC MC BC L1 L2 LY3
    refine wpAnyH_take (i := 23) (v := ?_) rfl (by kernel_rfl) (by kernel_rfl) (by kernel_rfl) (fun _ _ _ h => h) (Or.inl ⟨by rfl, ?_⟩) (by assumption) ?_
    rotate_left
    · (intro w hSw; (try dsimp only at hSw); first | (go_simp; done) | (go_simp; with_reducible rfl))
    simp only [Act.put, List.getElem_toArray, List.getElem_cons_zero, List.getElem_cons_succ, List.setIfInBounds_toArray, List.set_cons_zero, List.set_cons_succ]
    refine wpAnyH_done (by kernel_rfl) ?_ _
    clear hHeld
    go_wp2_with fail
    go_loopw [7] (fun x wr => ∃ (W : World) (v1 v2 : Value) (O T R : List En), W = wr ∧ PM w w.heap.size wr oa (oa + 1) v1 v2 x O T R ∧ PN L O T R) (fun x _ => lenV x)
    case atStart => exact ⟨_, _, _, _, _, _, rfl, PMH.out, PS.out⟩
    case round =>
    obtain ⟨w6, v1, v2, O, T, R, rfl, hpm, hpn⟩ := hrel
    obtain ⟨A1, c1, rfl, n1⟩ := hpm.nat
    obtain ⟨A2, c2, rfl, n2⟩ := hpm.symm.nat
    obtain ⟨Al, cl, rfl, -⟩ := hpm.rl.open_
    have HP := Lib.hid hpm
    have HN := Lib.hid hpn
    have sm := hpn.sum
    have so := hpn.o1
    have st := hpn.t1
    have cO := hpn.ot
    have cT := hpn.tt
    have hls : O.length ≤ 1000 ∧ T.length ≤ 1000 ∧ R.length ≤ 1000 := by omega
    obtain ⟨rO, rT, rR⟩ := hpn.right HR.out
    by_cases h0 : R.length = 0
    · have h0' : R = [] := List.eq_nil_of_length_eq_zero h0
      subst h0'
      have a0 := (HB5.out.below hpm.below HB5.out.lt).cell 0
      have f0 := (HB5.out.below hpm.below HB5.out.lt).free 0
      have k0 := hpm.n1.cell 0
      have FIN := Lib.hid (hpm.fin hpn HB5.out)
      clear hpm hpn n1 n2 sm so st cO cT hls rO rT rR h0
      go_wp2_with fail
      go_ret
      exact FIN.out
    · have d0 : decide ((R.length : Int) > 0) = true := decide_eq_true (by omega)
      have d0' : decide (0 < (R.length : Int)) = true := decide_eq_true (by omega)
      have hpos : 0 < R.length := by omega
      have MU := Lib.hid (must_any oa (oa + 1) c1 c2 R.length A1 A2 O T w6 n1 n2 (by omega) (by omega))
      have N1 := Lib.hid n1
      have N2 := Lib.hid n2
      have HZ := Lib.hid h0
      have SM := Lib.hid (And.intro sm (And.intro so st))
      have RR := Lib.hid (And.intro rO (And.intro rT rR))
      have LS := Lib.hid hls
      by_cases m1 : O.length + R.length = 2
      · rw [if_pos m1] at MU
        have AL := Lib.hid (hpn.all1 m1)
        clear hpm hpn n1 n2 sm so st cO cT hls rO rT rR h0 m1
        have LR := Lib.hid (own_lay HP.out.rl).1
        have HX := Lib.hid HP.out
        clear HP
        go_wp2_with fail
        refine MU.out.mono ?_
        rintro e3 w7 ⟨rfl, rfl⟩
        have k0 := HX.out.n1.cell 0
        have N0 := Lib.hid (HX.out.n1.free 0)
        clear MU N1 N2
        go_wp2_with ((with_reducible show wpList _ _ _ (⟨some 79, _, _, _, _, _⟩ :: _) _ _); go_must (refine wp_app2 (M := R) (O := O) (c := cl) (n := R.length) rfl _ _ rfl rfl rfl rfl rfl HX.out.r1 LR.out (by have := HZ.out; omega) (by have := LS.out; omega) HX.out.hB ?_))
        intro v7 w8 own8 gr8
        have MID := HX.out.mid gr8
        have P9 := Lib.hid (HX.out.app1 own8 gr8)
        have k1 := MID.1.cell 0
        have f1 := MID.1.free 0
        have k2 := (HX.out.mid2 gr8).cell 0
        have HB8 := Lib.hid (HB5.out.below (HX.out.below.trans ((gr8.below HX.out.hB))) HB5.out.lt)
        have B9 := Lib.hid (gr8.below HX.out.hB)
        clear MID own8 gr8 k0 LR
        obtain ⟨A7, n7, c7, rfl⟩ : ∃ A n c, v7 = .slice A n c := by
          obtain ⟨A, c, e, -⟩ := P9.out.r1.open_
          exact ⟨A, _, c, e⟩
        have a0 := (HB8.out).cell 0
        have f0 := (HB8.out).free 0
        have q1 : ¬ a = oa := by have := HX.out.bp; have := HX.out.bq; have := HB5.out.lt; omega
        have q2 : ¬ oa = a := fun e => q1 e.symm
        have q3 : ¬ a = oa + 1 := by have := HX.out.bp; have := HX.out.bq; have := HB5.out.lt; omega
        have q4 : ¬ oa + 1 = a := fun e => q3 e.symm
        have FIN := Lib.hid (P9.out.fin AL.out.1 HB5.out)
        go_wp2_with fail
        go_ret
        exact FIN.out
  
      · by_cases m2 : T.length + R.length = 2
        · rw [if_neg m1, if_pos m2] at MU
          have AL := Lib.hid (hpn.symm.all1 m2)
          clear hpm hpn n1 n2 sm so st cO cT hls rO rT rR h0 m1 m2
          have LR := Lib.hid (own_lay HP.out.rl).1
          have HX := Lib.hid HP.out.symm
          clear HP
          go_wp2_with fail
          refine MU.out.mono ?_
          rintro e3 w7 ⟨rfl, rfl⟩
          have k0 := HX.out.n1.cell 0
          have N0 := Lib.hid (HX.out.n1.free 0)
          clear MU N1 N2
          go_wp2_with ((with_reducible show wpList _ _ _ (⟨some 79, _, _, _, _, _⟩ :: _) _ _); go_must (refine wp_app2 (M := R) (O := T) (c := cl) (n := R.length) rfl _ _ rfl rfl rfl rfl rfl HX.out.r1 LR.out (by have := HZ.out; omega) (by have := LS.out; omega) HX.out.hB ?_))
          intro v7 w8 own8 gr8
          have MID := HX.out.mid gr8
          have P9 := Lib.hid (HX.out.app1 own8 gr8)
          have k1 := MID.1.cell 0
          have f1 := MID.1.free 0
          have k2 := (HX.out.mid2 gr8).cell 0
          have HB8 := Lib.hid (HB5.out.below (HX.out.below.trans ((gr8.below HX.out.hB))) HB5.out.lt)
          have B9 := Lib.hid (gr8.below HX.out.hB)
          clear MID own8 gr8 k0 LR
          obtain ⟨A7, n7, c7, rfl⟩ : ∃ A n c, v7 = .slice A n c := by
            obtain ⟨A, c, e, -⟩ := P9.out.r1.open_
            exact ⟨A, _, c, e⟩
          have a0 := (HB8.out).cell 0
          have f0 := (HB8.out).free 0
          have q1 : ¬ a = oa := by have := HX.out.bp; have := HX.out.bq; have := HB5.out.lt; omega
          have q2 : ¬ oa = a := fun e => q1 e.symm
          have q3 : ¬ a = oa + 1 := by have := HX.out.bp; have := HX.out.bq; have := HB5.out.lt; omega
          have q4 : ¬ oa + 1 = a := fun e => q3 e.symm
          have FIN := Lib.hid (P9.out.symm.fin AL.out.1.symm HB5.out)
          go_wp2_with fail
          go_ret
          exact FIN.out
  
        · rw [if_neg m1, if_neg m2] at MU
          have M2 := Lib.hid (And.intro m1 m2)
          clear hpm hpn n1 n2 sm so st cO cT hls rO rT rR h0 m1 m2
          have b1 := bb_right (boxes_right RR.out.1) (boxes_ne (by have := SM.out; omega))
          have b2 := bb_right (boxes_right RR.out.2.1) (boxes_ne (by have := SM.out; omega))
          have X1 := Lib.hid (nbox_any oa c1 A1 O w6 N1.out LS.out.1)
          have X2 := Lib.hid (fun W (hW : Below w6.heap.size w6 W) => nbox_any (oa + 1) c2 A2 T W (N2.out.below hW) LS.out.2.1)
          generalize bb (boxes O) = B1 at *
          generalize bb (boxes T) = B2 at *
          have FA := Lib.hid (fun W (hW : Below w6.heap.size w6 W) => farthest_any cl Al R B1 B2 W ((own_lay HP.out.rl).1.below hW) hpos LS.out.2.2 RR.out.2.2 b1 b2)
          clear b1 b2
          go_wp2_with fail
          refine MU.out.mono ?_
          rintro e3 w7 ⟨rfl, rfl⟩
          clear MU
          go_wp2_with fail
          refine X1.out.mono ?_
          rintro e4 w8 ⟨rfl, hb8⟩
          have B8 := Lib.hid hb8
          clear hb8 X1
          go_wp2_with fail
          refine (X2.out w8 B8.out).mono ?_
          rintro e5 w9 ⟨rfl, hb9⟩
          have B9 := Lib.hid (up B8.out hb9 B8.out.size)
          clear hb9 X2 B8
          go_wp2_with fail
          refine (FA.out w9 B9.out).mono ?_
          rintro e6 wa ⟨⟨k, rfl, hk⟩, hba⟩
          have BA := Lib.hid (up B9.out hba B9.out.size)
          have HK := Lib.hid hk
          have PA := Lib.hid (HP.out.next BA.out)
          clear hba FA B9 N1 N2 HP
          have er := RR.out.2.2 (R.getD k en0) (by
            rw [List.getD_eq_getElem?_getD, List.getElem?_eq_getElem hk]
            exact List.getElem_mem hk)
          have PU1 := fun h => HN.out.put1 (k := k) hk h
          have PU2 := fun h => HN.out.symm.put1 (k := k) hk h
          obtain ⟨gl, cl0, cs0, z0, -⟩ := PA.out.rl.full hpos
          injection z0 with z0 z1 z2
          subst z0
          clear z1 z2
          obtain ⟨bl2, off2, z3, e0, e1, e2, e3, e4, e5⟩ := lay6 (own_lay PA.out.rl).1 hk
          injection z3 with z3
          injection z3 with z3 z4
          subst z3 z4
          simp only [Nat.zero_add] at e0 e1 e2 e3 e4 e5
          have ROW := Lib.hid (fun (W : World) (h : Lay E6 W (some ⟨gl, 0, none⟩) R) => (show W.cell? ⟨gl, k * 6, none⟩ = some (.int .i64 (R.getD k en0).b.x) ∧ W.cell? ⟨gl, k * 6 + 1, none⟩ = some (.int .i64 (R.getD k en0).b.y) ∧ W.cell? ⟨gl, k * 6 + 2, none⟩ = some (.int .i64 (R.getD k en0).b.w) ∧ W.cell? ⟨gl, k * 6 + 3, none⟩ = some (.int .i64 (R.getD k en0).b.h) ∧ W.cell? ⟨gl, k * 6 + 4, none⟩ = some (R.getD k en0).ptr ∧ W.cell? ⟨gl, k * 6 + 5, none⟩ = some (.int .i64 (R.getD k en0).v) from by
            obtain ⟨b, o, z3, f0, f1, f2, f3, f4, f5⟩ := lay6 h HK.out
            injection z3 with z3
            injection z3 with z3 z4
            subst z3 z4
            simp only [Nat.zero_add] at f0 f1 f2 f3 f4 f5
            exact ⟨f0, f1, f2, f3, f4, f5⟩))
          generalize R.getD k en0 = e at *
          have PV1 := Lib.hid PU1
          have PV2 := Lib.hid PU2
          obtain ⟨A1', c1', q1, n1⟩ := PA.out.nat
          injection q1 with q1 q1' q1''
          subst q1 q1''
          obtain ⟨A2', c2', q2, n2⟩ := PA.out.symm.nat
          injection q2 with q2 q2' q2''
          subst q2 q2''
          have BT := Lib.hid (better_any oa (oa + 1) c1 c2 A1 A2 O T e.b wa n1 n2 (by have := SM.out; omega) (by have := SM.out; omega) LS.out.1 LS.out.2.1 RR.out.1 RR.out.2.1 er)
          have k0 : (0 : Int) ≤ (k : Int) := Int.natCast_nonneg _
          obtain ⟨P, hP⟩ : ∃ P, e.ptr = .pointer P := ⟨_, rfl⟩
          rw [hP] at e4
          rw [hP] at ROW
          have EP := Lib.hid hP
          clear er PU1 PU2 hP q1' q2' n1 n2
          go_wp2_with fail
          refine BT.out.mono ?_
          rintro e7 wb ⟨hor, hbb⟩
          have PB := Lib.hid (PA.out.next hbb)
          clear hbb BT PA BA
          clear e0 e1 e2 e3 e4 e5
          rcases hor with rfl | rfl
          · have HX := Lib.hid (PB.out)
            clear PB
            go_wp2_with fail
            refine wp_region_held_drew (S := (fun ws => ws.cell? ⟨gl, k * 6, none⟩ = some (.int .i64 e.b.x) ∧ ws.cell? ⟨gl, k * 6 + 1, none⟩ = some (.int .i64 e.b.y) ∧ ws.cell? ⟨gl, k * 6 + 2, none⟩ = some (.int .i64 e.b.w) ∧ ws.cell? ⟨gl, k * 6 + 3, none⟩ = some (.int .i64 e.b.h) ∧ ws.cell? ⟨gl, k * 6 + 4, none⟩ = some (.pointer P) ∧ ws.cell? ⟨gl, k * 6 + 5, none⟩ = some (.int .i64 e.v))) (by kernel_rfl) (ROW.out _ (own_lay HX.out.rl).1) (fun hHeld => ?_)
            refine wpAnyH_take (i := 0) (v := ?_) rfl (by kernel_rfl) (by kernel_rfl) (by kernel_rfl) (fun _ _ _ h => h) (Or.inl ⟨by rfl, ?_⟩) (by assumption) ?_
            rotate_left
            · (intro w hSw; (try dsimp only at hSw); first | (go_simp; done) | (go_simp; with_reducible rfl))
            simp only [Act.put, List.getElem_toArray, List.getElem_cons_zero, List.getElem_cons_succ, List.setIfInBounds_toArray, List.set_cons_zero, List.set_cons_succ]
            refine wpAnyH_take (i := 1) (v := ?_) rfl (by kernel_rfl) (by kernel_rfl) (by kernel_rfl) (fun _ _ _ h => h) (Or.inl ⟨by rfl, ?_⟩) (by assumption) ?_
            rotate_left
            · (intro w hSw; (try dsimp only at hSw); first | (go_simp; done) | (go_simp; with_reducible rfl))
            simp only [Act.put, List.getElem_toArray, List.getElem_cons_zero, List.getElem_cons_succ, List.setIfInBounds_toArray, List.set_cons_zero, List.set_cons_succ]
            refine wpAnyH_take (i := 2) (v := ?_) rfl (by kernel_rfl) (by kernel_rfl) (by kernel_rfl) (fun _ _ _ h => h) (Or.inl ⟨by rfl, ?_⟩) (by assumption) ?_
            rotate_left
            · (intro w hSw; (try dsimp only at hSw); first | (go_simp; done) | (go_simp; with_reducible rfl))
            simp only [Act.put, List.getElem_toArray, List.getElem_cons_zero, List.getElem_cons_succ, List.setIfInBounds_toArray, List.set_cons_zero, List.set_cons_succ]
            refine wpAnyH_take (i := 3) (v := ?_) rfl (by kernel_rfl) (by kernel_rfl) (by kernel_rfl) (fun _ _ _ h => h) (Or.inl ⟨by rfl, ?_⟩) (by assumption) ?_
            rotate_left
            · (intro w hSw; (try dsimp only at hSw); first | (go_simp; done) | (go_simp; with_reducible rfl))
            simp only [Act.put, List.getElem_toArray, List.getElem_cons_zero, List.getElem_cons_succ, List.setIfInBounds_toArray, List.set_cons_zero, List.set_cons_succ]
            refine wpAnyH_take (i := 5) (v := ?_) rfl (by kernel_rfl) (by kernel_rfl) (by kernel_rfl) (fun _ _ _ h => h) (Or.inl ⟨by rfl, ?_⟩) (by assumption) ?_
            rotate_left
            · (intro w hSw; (try dsimp only at hSw); first | (go_simp; done) | (go_simp; with_reducible rfl))
            simp only [Act.put, List.getElem_toArray, List.getElem_cons_zero, List.getElem_cons_succ, List.setIfInBounds_toArray, List.set_cons_zero, List.set_cons_succ]
            refine wpAnyH_take (i := 6) (v := ?_) rfl (by kernel_rfl) (by kernel_rfl) (by kernel_rfl) (fun _ _ _ h => h) (Or.inl ⟨by rfl, ?_⟩) (by assumption) ?_
            rotate_left
            · (intro w hSw; (try dsimp only at hSw); first | (go_simp; done) | (go_simp; with_reducible rfl))
            simp only [Act.put, List.getElem_toArray, List.getElem_cons_zero, List.getElem_cons_succ, List.setIfInBounds_toArray, List.set_cons_zero, List.set_cons_succ]
            refine wpAnyH_take (i := 7) (v := ?_) rfl (by kernel_rfl) (by kernel_rfl) (by kernel_rfl) (fun _ _ _ h => h) (Or.inl ⟨by rfl, ?_⟩) (by assumption) ?_
            rotate_left
            · (intro w hSw; (try dsimp only at hSw); first | (go_simp; done) | (go_simp; with_reducible rfl))
            simp only [Act.put, List.getElem_toArray, List.getElem_cons_zero, List.getElem_cons_succ, List.setIfInBounds_toArray, List.set_cons_zero, List.set_cons_succ]
            refine wpAnyH_take (i := 8) (v := ?_) rfl (by kernel_rfl) (by kernel_rfl) (by kernel_rfl) (fun _ _ _ h => h) (Or.inl ⟨by rfl, ?_⟩) (by assumption) ?_
            rotate_left
            · (intro w hSw; (try dsimp only at hSw); first | (go_simp; done) | (go_simp; with_reducible rfl))
            simp only [Act.put, List.getElem_toArray, List.getElem_cons_zero, List.getElem_cons_succ, List.setIfInBounds_toArray, List.set_cons_zero, List.set_cons_succ]
            have cx := HX.out.n1.cell 0
            refine wpAnyH_ready (rs := [4, 9]) (by kernel_rfl) (by simp) ?_
            refine AllReadyH.cons rfl (fun K hK => ?_) (AllReadyH.cons rfl (fun K hK => ?_) AllReadyH.nil)
            · go_simp
              refine hK.out _ _ (ROW.out _ (own_lay HX.out.rl).1) (fun hHeld2 => ?_)
              clear hK K hHeld
              refine wpAnyH_ready (rs := [9]) (by kernel_rfl) (by simp) ?_
              refine AllReadyH.cons rfl (fun K hK => ?_) AllReadyH.nil
              go_simp
              obtain ⟨wE, hwE⟩ : ∃ wE, (wb.alloc (.cells #[.int .i64 e.b.x, .int .i64 e.b.y, .int .i64 e.b.w, .int .i64 e.b.h, .pointer P, .int .i64 e.v] 79)).drew = wE := ⟨_, rfl⟩
              have KE := Lib.hid (show Blk wE wb.heap.size 79 (E6.enc e).toArray from by
                rw [← hwE]
                have : (E6.enc e).toArray = #[.int .i64 e.b.x, .int .i64 e.b.y, .int .i64 e.b.w, .int .i64 e.b.h, .pointer P, .int .i64 e.v] := by
                  show #[Value.int .i64 e.b.x, .int .i64 e.b.y, .int .i64 e.b.w, .int .i64 e.b.h, e.ptr, .int .i64 e.v] = _
                  rw [EP.out]
                rw [this]
                exact Blk.new wb _ _)
              have ME := Lib.hid (show Below wb.heap.size wb wE from by rw [← hwE]; exact (made wb _).drew)
              have PE := Lib.hid (HX.out.next ME.out)
              rw [hwE]
              refine hK.out _ _ (ROW.out _ (own_lay PE.out.rl).1) (fun hHeld => ?_)
              clear hK K hHeld2 hwE cx
              have hHeld2 := hHeld
              clear hHeld
              obtain ⟨v7, w8, hr, own8, gr8⟩ := PE.out.r1.app (c := 1) (Lay.lit (E := E6) wE e _ _ KE.out) (by simp) (by simp; have := LS.out; omega) PE.out.hB
              have MID := PE.out.mid gr8
              have k1 := MID.1.cell 0
              have f1 := MID.1.free 0
              have S8 := ROW.out w8 (own_lay MID.2).1
              have P9 := Lib.hid (PE.out.app1 own8 gr8)
              have S9 := Lib.hid (ROW.out _ (own_lay P9.out.rl).1)
              obtain ⟨A7, n7, c7, rfl⟩ : ∃ A n c, v7 = .slice A n c := by
                obtain ⟨A, c, e, -⟩ := P9.out.r1.open_
                exact ⟨A, _, c, e⟩
              clear own8 gr8 MID
              refine wpAnyH_ready (rs := [10]) (by kernel_rfl) (by simp) ?_
              refine AllReadyH.cons rfl (fun K hK => ?_) AllReadyH.nil
              refine op_app (.tmp 100) (.tmp 105) rfl rfl rfl rfl hr ?_
              refine hK.out _ _ S8 (fun hHeld => ?_)
              clear hK K hr S8 hHeld2
              refine wpAnyH_take (i := 11) (v := ?_) rfl (by kernel_rfl) (by kernel_rfl) (by kernel_rfl) (fun _ _ _ h => h) (Or.inl ⟨by rfl, ?_⟩) (by assumption) ?_
              rotate_left
              · (intro w hSw; (try dsimp only at hSw); first | (go_simp; done) | (go_simp; with_reducible rfl))
              simp only [Act.put, List.getElem_toArray, List.getElem_cons_zero, List.getElem_cons_succ, List.setIfInBounds_toArray, List.set_cons_zero, List.set_cons_succ]
              refine wpAnyH_take (i := 12) (v := ?_) rfl (by kernel_rfl) (by kernel_rfl) (by kernel_rfl) (fun _ _ _ h => h) (Or.inl ⟨by rfl, ?_⟩) (by assumption) ?_
              rotate_left
              · (intro w hSw; (try dsimp only at hSw); first | (go_simp; done) | (go_simp; with_reducible rfl))
              simp only [Act.put, List.getElem_toArray, List.getElem_cons_zero, List.getElem_cons_succ, List.setIfInBounds_toArray, List.set_cons_zero, List.set_cons_succ]
              refine wpAnyH_ready (rs := [13]) (by kernel_rfl) (by simp) ?_
              refine AllReadyH.cons rfl (fun K hK => ?_) AllReadyH.nil
              go_simp
              refine hK.out _ _ S9.out (fun hHeld2 => ?_)
              clear hK K hHeld k1 f1 S9
              refine wpAnyH_done (by kernel_rfl) ?_ _
              clear hHeld2
              generalize w8.setCell ⟨oa, 0, none⟩ (.slice A7 n7 c7) = w9 at *
              have DE := Lib.hid (del2 w.heap.size gl cl k R w9 P9.out.rl HK.out (by have := LS.out; omega))
              have wk : IntKind.i64.wrap ((k : Int) + 1) = (k : Int) + 1 := IntWalk.i64_in _ (by have := HK.out; have := LS.out; omega)
              go_wp2_with fail
              refine DE.out.mono ?_
              rintro e8 wc ⟨rfl, hod, hdo⟩
              have PF := Lib.hid (P9.out.del hod hdo)
              clear hod hdo DE wk
              go_wp2_with fail
              exact ⟨⟨_, _, _, _, _, _, rfl, PF.out, PV1.out M2.out.2⟩, by simp only [lenV]; have := HK.out; omega⟩
            · go_simp
              obtain ⟨wE, hwE⟩ : ∃ wE, (wb.alloc (.cells #[.int .i64 e.b.x, .int .i64 e.b.y, .int .i64 e.b.w, .int .i64 e.b.h, .pointer P, .int .i64 e.v] 79)).drew = wE := ⟨_, rfl⟩
              have KE := Lib.hid (show Blk wE wb.heap.size 79 (E6.enc e).toArray from by
                rw [← hwE]
                have : (E6.enc e).toArray = #[.int .i64 e.b.x, .int .i64 e.b.y, .int .i64 e.b.w, .int .i64 e.b.h, .pointer P, .int .i64 e.v] := by
                  show #[Value.int .i64 e.b.x, .int .i64 e.b.y, .int .i64 e.b.w, .int .i64 e.b.h, e.ptr, .int .i64 e.v] = _
                  rw [EP.out]
                rw [this]
                exact Blk.new wb _ _)
              have ME := Lib.hid (show Below wb.heap.size wb wE from by rw [← hwE]; exact (made wb _).drew)
              have PE := Lib.hid (HX.out.next ME.out)
              rw [hwE]
              have cy := PE.out.n1.cell 0
              refine hK.out _ _ (ROW.out _ (own_lay PE.out.rl).1) (fun hHeld2 => ?_)
              clear hK K hHeld cx hwE
              refine wpAnyH_ready (rs := [4]) (by kernel_rfl) (by simp) ?_
              refine AllReadyH.cons rfl (fun K hK => ?_) AllReadyH.nil
              go_simp
              refine hK.out _ _ (ROW.out _ (own_lay PE.out.rl).1) (fun hHeld => ?_)
              clear hK K hHeld2 cy
              have hHeld2 := hHeld
              clear hHeld
              obtain ⟨v7, w8, hr, own8, gr8⟩ := PE.out.r1.app (c := 1) (Lay.lit (E := E6) wE e _ _ KE.out) (by simp) (by simp; have := LS.out; omega) PE.out.hB
              have MID := PE.out.mid gr8
              have k1 := MID.1.cell 0
              have f1 := MID.1.free 0
              have S8 := ROW.out w8 (own_lay MID.2).1
              have P9 := Lib.hid (PE.out.app1 own8 gr8)
              have S9 := Lib.hid (ROW.out _ (own_lay P9.out.rl).1)
              obtain ⟨A7, n7, c7, rfl⟩ : ∃ A n c, v7 = .slice A n c := by
                obtain ⟨A, c, e, -⟩ := P9.out.r1.open_
                exact ⟨A, _, c, e⟩
              clear own8 gr8 MID
              refine wpAnyH_ready (rs := [10]) (by kernel_rfl) (by simp) ?_
              refine AllReadyH.cons rfl (fun K hK => ?_) AllReadyH.nil
              refine op_app (.tmp 100) (.tmp 105) rfl rfl rfl rfl hr ?_
              refine hK.out _ _ S8 (fun hHeld => ?_)
              clear hK K hr S8 hHeld2
              refine wpAnyH_take (i := 11) (v := ?_) rfl (by kernel_rfl) (by kernel_rfl) (by kernel_rfl) (fun _ _ _ h => h) (Or.inl ⟨by rfl, ?_⟩) (by assumption) ?_
              rotate_left
              · (intro w hSw; (try dsimp only at hSw); first | (go_simp; done) | (go_simp; with_reducible rfl))
              simp only [Act.put, List.getElem_toArray, List.getElem_cons_zero, List.getElem_cons_succ, List.setIfInBounds_toArray, List.set_cons_zero, List.set_cons_succ]
              refine wpAnyH_take (i := 12) (v := ?_) rfl (by kernel_rfl) (by kernel_rfl) (by kernel_rfl) (fun _ _ _ h => h) (Or.inl ⟨by rfl, ?_⟩) (by assumption) ?_
              rotate_left
              · (intro w hSw; (try dsimp only at hSw); first | (go_simp; done) | (go_simp; with_reducible rfl))
              simp only [Act.put, List.getElem_toArray, List.getElem_cons_zero, List.getElem_cons_succ, List.setIfInBounds_toArray, List.set_cons_zero, List.set_cons_succ]
              refine wpAnyH_ready (rs := [13]) (by kernel_rfl) (by simp) ?_
              refine AllReadyH.cons rfl (fun K hK => ?_) AllReadyH.nil
              go_simp
              refine hK.out _ _ S9.out (fun hHeld2 => ?_)
              clear hK K hHeld k1 f1 S9
              refine wpAnyH_done (by kernel_rfl) ?_ _
              clear hHeld2
              generalize w8.setCell ⟨oa, 0, none⟩ (.slice A7 n7 c7) = w9 at *
              have DE := Lib.hid (del2 w.heap.size gl cl k R w9 P9.out.rl HK.out (by have := LS.out; omega))
              have wk : IntKind.i64.wrap ((k : Int) + 1) = (k : Int) + 1 := IntWalk.i64_in _ (by have := HK.out; have := LS.out; omega)
              go_wp2_with fail
              refine DE.out.mono ?_
              rintro e8 wc ⟨rfl, hod, hdo⟩
              have PF := Lib.hid (P9.out.del hod hdo)
              clear hod hdo DE wk
              go_wp2_with fail
              exact ⟨⟨_, _, _, _, _, _, rfl, PF.out, PV1.out M2.out.2⟩, by simp only [lenV]; have := HK.out; omega⟩
          · have HX := Lib.hid (PB.out.symm)
            clear PB
            go_wp2_with fail
            refine wp_region_held_drew (S := (fun ws => ws.cell? ⟨gl, k * 6, none⟩ = some (.int .i64 e.b.x) ∧ ws.cell? ⟨gl, k * 6 + 1, none⟩ = some (.int .i64 e.b.y) ∧ ws.cell? ⟨gl, k * 6 + 2, none⟩ = some (.int .i64 e.b.w) ∧ ws.cell? ⟨gl, k * 6 + 3, none⟩ = some (.int .i64 e.b.h) ∧ ws.cell? ⟨gl, k * 6 + 4, none⟩ = some (.pointer P) ∧ ws.cell? ⟨gl, k * 6 + 5, none⟩ = some (.int .i64 e.v))) (by kernel_rfl) (ROW.out _ (own_lay HX.out.rl).1) (fun hHeld => ?_)
            refine wpAnyH_take (i := 0) (v := ?_) rfl (by kernel_rfl) (by kernel_rfl) (by kernel_rfl) (fun _ _ _ h => h) (Or.inl ⟨by rfl, ?_⟩) (by assumption) ?_
            rotate_left
            · (intro w hSw; (try dsimp only at hSw); first | (go_simp; done) | (go_simp; with_reducible rfl))
            simp only [Act.put, List.getElem_toArray, List.getElem_cons_zero, List.getElem_cons_succ, List.setIfInBounds_toArray, List.set_cons_zero, List.set_cons_succ]
            refine wpAnyH_take (i := 1) (v := ?_) rfl (by kernel_rfl) (by kernel_rfl) (by kernel_rfl) (fun _ _ _ h => h) (Or.inl ⟨by rfl, ?_⟩) (by assumption) ?_
            rotate_left
            · (intro w hSw; (try dsimp only at hSw); first | (go_simp; done) | (go_simp; with_reducible rfl))
            simp only [Act.put, List.getElem_toArray, List.getElem_cons_zero, List.getElem_cons_succ, List.setIfInBounds_toArray, List.set_cons_zero, List.set_cons_succ]
            refine wpAnyH_take (i := 2) (v := ?_) rfl (by kernel_rfl) (by kernel_rfl) (by kernel_rfl) (fun _ _ _ h => h) (Or.inl ⟨by rfl, ?_⟩) (by assumption) ?_
            rotate_left
            · (intro w hSw; (try dsimp only at hSw); first | (go_simp; done) | (go_simp; with_reducible rfl))
            simp only [Act.put, List.getElem_toArray, List.getElem_cons_zero, List.getElem_cons_succ, List.setIfInBounds_toArray, List.set_cons_zero, List.set_cons_succ]
            refine wpAnyH_take (i := 3) (v := ?_) rfl (by kernel_rfl) (by kernel_rfl) (by kernel_rfl) (fun _ _ _ h => h) (Or.inl ⟨by rfl, ?_⟩) (by assumption) ?_
            rotate_left
            · (intro w hSw; (try dsimp only at hSw); first | (go_simp; done) | (go_simp; with_reducible rfl))
            simp only [Act.put, List.getElem_toArray, List.getElem_cons_zero, List.getElem_cons_succ, List.setIfInBounds_toArray, List.set_cons_zero, List.set_cons_succ]
            refine wpAnyH_take (i := 5) (v := ?_) rfl (by kernel_rfl) (by kernel_rfl) (by kernel_rfl) (fun _ _ _ h => h) (Or.inl ⟨by rfl, ?_⟩) (by assumption) ?_
            rotate_left
            · (intro w hSw; (try dsimp only at hSw); first | (go_simp; done) | (go_simp; with_reducible rfl))
            simp only [Act.put, List.getElem_toArray, List.getElem_cons_zero, List.getElem_cons_succ, List.setIfInBounds_toArray, List.set_cons_zero, List.set_cons_succ]
            refine wpAnyH_take (i := 6) (v := ?_) rfl (by kernel_rfl) (by kernel_rfl) (by kernel_rfl) (fun _ _ _ h => h) (Or.inl ⟨by rfl, ?_⟩) (by assumption) ?_
            rotate_left
            · (intro w hSw; (try dsimp only at hSw); first | (go_simp; done) | (go_simp; with_reducible rfl))
            simp only [Act.put, List.getElem_toArray, List.getElem_cons_zero, List.getElem_cons_succ, List.setIfInBounds_toArray, List.set_cons_zero, List.set_cons_succ]
            refine wpAnyH_take (i := 7) (v := ?_) rfl (by kernel_rfl) (by kernel_rfl) (by kernel_rfl) (fun _ _ _ h => h) (Or.inl ⟨by rfl, ?_⟩) (by assumption) ?_
            rotate_left
            · (intro w hSw; (try dsimp only at hSw); first | (go_simp; done) | (go_simp; with_reducible rfl))
            simp only [Act.put, List.getElem_toArray, List.getElem_cons_zero, List.getElem_cons_succ, List.setIfInBounds_toArray, List.set_cons_zero, List.set_cons_succ]
            refine wpAnyH_take (i := 8) (v := ?_) rfl (by kernel_rfl) (by kernel_rfl) (by kernel_rfl) (fun _ _ _ h => h) (Or.inl ⟨by rfl, ?_⟩) (by assumption) ?_
            rotate_left
            · (intro w hSw; (try dsimp only at hSw); first | (go_simp; done) | (go_simp; with_reducible rfl))
            simp only [Act.put, List.getElem_toArray, List.getElem_cons_zero, List.getElem_cons_succ, List.setIfInBounds_toArray, List.set_cons_zero, List.set_cons_succ]
            have cx := HX.out.n1.cell 0
            refine wpAnyH_ready (rs := [4, 9]) (by kernel_rfl) (by simp) ?_
            refine AllReadyH.cons rfl (fun K hK => ?_) (AllReadyH.cons rfl (fun K hK => ?_) AllReadyH.nil)
            · go_simp
              refine hK.out _ _ (ROW.out _ (own_lay HX.out.rl).1) (fun hHeld2 => ?_)
              clear hK K hHeld
              refine wpAnyH_ready (rs := [9]) (by kernel_rfl) (by simp) ?_
              refine AllReadyH.cons rfl (fun K hK => ?_) AllReadyH.nil
              go_simp
              obtain ⟨wE, hwE⟩ : ∃ wE, (wb.alloc (.cells #[.int .i64 e.b.x, .int .i64 e.b.y, .int .i64 e.b.w, .int .i64 e.b.h, .pointer P, .int .i64 e.v] 79)).drew = wE := ⟨_, rfl⟩
              have KE := Lib.hid (show Blk wE wb.heap.size 79 (E6.enc e).toArray from by
                rw [← hwE]
                have : (E6.enc e).toArray = #[.int .i64 e.b.x, .int .i64 e.b.y, .int .i64 e.b.w, .int .i64 e.b.h, .pointer P, .int .i64 e.v] := by
                  show #[Value.int .i64 e.b.x, .int .i64 e.b.y, .int .i64 e.b.w, .int .i64 e.b.h, e.ptr, .int .i64 e.v] = _
                  rw [EP.out]
                rw [this]
                exact Blk.new wb _ _)
              have ME := Lib.hid (show Below wb.heap.size wb wE from by rw [← hwE]; exact (made wb _).drew)
              have PE := Lib.hid (HX.out.next ME.out)
              rw [hwE]
              refine hK.out _ _ (ROW.out _ (own_lay PE.out.rl).1) (fun hHeld => ?_)
              clear hK K hHeld2 hwE cx
              have hHeld2 := hHeld
              clear hHeld
              obtain ⟨v7, w8, hr, own8, gr8⟩ := PE.out.r1.app (c := 1) (Lay.lit (E := E6) wE e _ _ KE.out) (by simp) (by simp; have := LS.out; omega) PE.out.hB
              have MID := PE.out.mid gr8
              have k1 := MID.1.cell 0
              have f1 := MID.1.free 0
              have S8 := ROW.out w8 (own_lay MID.2).1
              have P9 := Lib.hid (PE.out.app1 own8 gr8)
              have S9 := Lib.hid (ROW.out _ (own_lay P9.out.rl).1)
              obtain ⟨A7, n7, c7, rfl⟩ : ∃ A n c, v7 = .slice A n c := by
                obtain ⟨A, c, e, -⟩ := P9.out.r1.open_
                exact ⟨A, _, c, e⟩
              clear own8 gr8 MID
              refine wpAnyH_ready (rs := [10]) (by kernel_rfl) (by simp) ?_
              refine AllReadyH.cons rfl (fun K hK => ?_) AllReadyH.nil
              refine op_app (.tmp 100) (.tmp 105) rfl rfl rfl rfl hr ?_
              refine hK.out _ _ S8 (fun hHeld => ?_)
              clear hK K hr S8 hHeld2
              refine wpAnyH_take (i := 11) (v := ?_) rfl (by kernel_rfl) (by kernel_rfl) (by kernel_rfl) (fun _ _ _ h => h) (Or.inl ⟨by rfl, ?_⟩) (by assumption) ?_
              rotate_left
              · (intro w hSw; (try dsimp only at hSw); first | (go_simp; done) | (go_simp; with_reducible rfl))
              simp only [Act.put, List.getElem_toArray, List.getElem_cons_zero, List.getElem_cons_succ, List.setIfInBounds_toArray, List.set_cons_zero, List.set_cons_succ]
              refine wpAnyH_take (i := 12) (v := ?_) rfl (by kernel_rfl) (by kernel_rfl) (by kernel_rfl) (fun _ _ _ h => h) (Or.inl ⟨by rfl, ?_⟩) (by assumption) ?_
              rotate_left
              · (intro w hSw; (try dsimp only at hSw); first | (go_simp; done) | (go_simp; with_reducible rfl))
              simp only [Act.put, List.getElem_toArray, List.getElem_cons_zero, List.getElem_cons_succ, List.setIfInBounds_toArray, List.set_cons_zero, List.set_cons_succ]
              refine wpAnyH_ready (rs := [13]) (by kernel_rfl) (by simp) ?_
              refine AllReadyH.cons rfl (fun K hK => ?_) AllReadyH.nil
              go_simp
              refine hK.out _ _ S9.out (fun hHeld2 => ?_)
              clear hK K hHeld k1 f1 S9
              refine wpAnyH_done (by kernel_rfl) ?_ _
              clear hHeld2
              generalize w8.setCell ⟨(oa + 1), 0, none⟩ (.slice A7 n7 c7) = w9 at *
              have DE := Lib.hid (del2 w.heap.size gl cl k R w9 P9.out.rl HK.out (by have := LS.out; omega))
              have wk : IntKind.i64.wrap ((k : Int) + 1) = (k : Int) + 1 := IntWalk.i64_in _ (by have := HK.out; have := LS.out; omega)
              go_wp2_with fail
              refine DE.out.mono ?_
              rintro e8 wc ⟨rfl, hod, hdo⟩
              have PF := Lib.hid (P9.out.del hod hdo)
              clear hod hdo DE wk
              go_wp2_with fail
              exact ⟨⟨_, _, _, _, _, _, rfl, PF.out.symm, (PV2.out M2.out.1).symm⟩, by simp only [lenV]; have := HK.out; omega⟩
            · go_simp
              obtain ⟨wE, hwE⟩ : ∃ wE, (wb.alloc (.cells #[.int .i64 e.b.x, .int .i64 e.b.y, .int .i64 e.b.w, .int .i64 e.b.h, .pointer P, .int .i64 e.v] 79)).drew = wE := ⟨_, rfl⟩
              have KE := Lib.hid (show Blk wE wb.heap.size 79 (E6.enc e).toArray from by
                rw [← hwE]
                have : (E6.enc e).toArray = #[.int .i64 e.b.x, .int .i64 e.b.y, .int .i64 e.b.w, .int .i64 e.b.h, .pointer P, .int .i64 e.v] := by
                  show #[Value.int .i64 e.b.x, .int .i64 e.b.y, .int .i64 e.b.w, .int .i64 e.b.h, e.ptr, .int .i64 e.v] = _
                  rw [EP.out]
                rw [this]
                exact Blk.new wb _ _)
              have ME := Lib.hid (show Below wb.heap.size wb wE from by rw [← hwE]; exact (made wb _).drew)
              have PE := Lib.hid (HX.out.next ME.out)
              rw [hwE]
              have cy := PE.out.n1.cell 0
              refine hK.out _ _ (ROW.out _ (own_lay PE.out.rl).1) (fun hHeld2 => ?_)
              clear hK K hHeld cx hwE
              refine wpAnyH_ready (rs := [4]) (by kernel_rfl) (by simp) ?_
              refine AllReadyH.cons rfl (fun K hK => ?_) AllReadyH.nil
              go_simp
              refine hK.out _ _ (ROW.out _ (own_lay PE.out.rl).1) (fun hHeld => ?_)
              clear hK K hHeld2 cy
              have hHeld2 := hHeld
              clear hHeld
              obtain ⟨v7, w8, hr, own8, gr8⟩ := PE.out.r1.app (c := 1) (Lay.lit (E := E6) wE e _ _ KE.out) (by simp) (by simp; have := LS.out; omega) PE.out.hB
              have MID := PE.out.mid gr8
              have k1 := MID.1.cell 0
              have f1 := MID.1.free 0
              have S8 := ROW.out w8 (own_lay MID.2).1
              have P9 := Lib.hid (PE.out.app1 own8 gr8)
              have S9 := Lib.hid (ROW.out _ (own_lay P9.out.rl).1)
              obtain ⟨A7, n7, c7, rfl⟩ : ∃ A n c, v7 = .slice A n c := by
                obtain ⟨A, c, e, -⟩ := P9.out.r1.open_
                exact ⟨A, _, c, e⟩
              clear own8 gr8 MID
              refine wpAnyH_ready (rs := [10]) (by kernel_rfl) (by simp) ?_
              refine AllReadyH.cons rfl (fun K hK => ?_) AllReadyH.nil
              refine op_app (.tmp 100) (.tmp 105) rfl rfl rfl rfl hr ?_
              refine hK.out _ _ S8 (fun hHeld => ?_)
              clear hK K hr S8 hHeld2
              refine wpAnyH_take (i := 11) (v := ?_) rfl (by kernel_rfl) (by kernel_rfl) (by kernel_rfl) (fun _ _ _ h => h) (Or.inl ⟨by rfl, ?_⟩) (by assumption) ?_
              rotate_left
              · (intro w hSw; (try dsimp only at hSw); first | (go_simp; done) | (go_simp; with_reducible rfl))
              simp only [Act.put, List.getElem_toArray, List.getElem_cons_zero, List.getElem_cons_succ, List.setIfInBounds_toArray, List.set_cons_zero, List.set_cons_succ]
              refine wpAnyH_take (i := 12) (v := ?_) rfl (by kernel_rfl) (by kernel_rfl) (by kernel_rfl) (fun _ _ _ h => h) (Or.inl ⟨by rfl, ?_⟩) (by assumption) ?_
              rotate_left
              · (intro w hSw; (try dsimp only at hSw); first | (go_simp; done) | (go_simp; with_reducible rfl))
              simp only [Act.put, List.getElem_toArray, List.getElem_cons_zero, List.getElem_cons_succ, List.setIfInBounds_toArray, List.set_cons_zero, List.set_cons_succ]
              refine wpAnyH_ready (rs := [13]) (by kernel_rfl) (by simp) ?_
              refine AllReadyH.cons rfl (fun K hK => ?_) AllReadyH.nil
              go_simp
              refine hK.out _ _ S9.out (fun hHeld2 => ?_)
              clear hK K hHeld k1 f1 S9
              refine wpAnyH_done (by kernel_rfl) ?_ _
              clear hHeld2
              generalize w8.setCell ⟨(oa + 1), 0, none⟩ (.slice A7 n7 c7) = w9 at *
              have DE := Lib.hid (del2 w.heap.size gl cl k R w9 P9.out.rl HK.out (by have := LS.out; omega))
              have wk : IntKind.i64.wrap ((k : Int) + 1) = (k : Int) + 1 := IntWalk.i64_in _ (by have := HK.out; have := LS.out; omega)
              go_wp2_with fail
              refine DE.out.mono ?_
              rintro e8 wc ⟨rfl, hod, hdo⟩
              have PF := Lib.hid (P9.out.del hod hdo)
              clear hod hdo DE wk
              go_wp2_with fail
              exact ⟨⟨_, _, _, _, _, _, rfl, PF.out.symm, (PV2.out M2.out.1).symm⟩, by simp only [lenV]; have := HK.out; omega⟩
  
  · go_simp
    obtain ⟨wa, hwa⟩ : ∃ wa, (w1.alloc (.cells #[.slice (some ⟨bl, j * 6, none⟩) 1 1] 62)).drew = wa := ⟨_, rfl⟩
    have XA : Blk wa w1.heap.size 62 #[.slice (some ⟨bl, j * 6, none⟩) 1 1] := by rw [← hwa]; exact (Blk.new w1 62 #[.slice (some ⟨bl, j * 6, none⟩) 1 1])
    have MA : Below w1.heap.size w1 wa := by rw [← hwa]; exact (made w1 _).drew
    have za : wa.heap.size = w1.heap.size + 1 := by rw [← hwa]; simp
    rw [hwa]
    clear hwa
    refine hK.out _ _ (SS.out _ (up B1.out MA B1.out.size)) (fun hHeld2 => ?_)
    clear hK K hHeld
    refine wpAnyH_ready (rs := [11]) (by kernel_rfl) (by simp) ?_
    refine AllReadyH.cons rfl (fun K hK => ?_) AllReadyH.nil
    go_simp
    obtain ⟨wb, hwb⟩ : ∃ wb, (wa.alloc (.cells #[.slice (some ⟨bl, i * 6, none⟩) 1 1] 62)) = wb := ⟨_, rfl⟩
    have XB : Blk wb wa.heap.size 62 #[.slice (some ⟨bl, i * 6, none⟩) 1 1] := by rw [← hwb]; exact (Blk.new wa 62 #[.slice (some ⟨bl, i * 6, none⟩) 1 1])
    have MB : Below wa.heap.size wa wb := by rw [← hwb]; exact (made wa _)
    have zb : wb.heap.size = wa.heap.size + 1 := by rw [← hwb]; simp
    rw [hwb]
    clear hwb
    have Q1 := Lib.hid (XA.below MB XA.lt)
    have Q2 := Lib.hid XB
    have B2 := Lib.hid (up (up B1.out MA B1.out.size) MB (by have := B1.out.size; omega))
    have ge1 : w.heap.size ≤ w1.heap.size := B1.out.size
    have ge2 : w.heap.size ≤ wa.heap.size := by omega
    have ne : w1.heap.size ≠ wa.heap.size := by omega
    refine hK.out _ _ (SS.out _ B2.out) (fun hHeld => ?_)
    clear hK K hHeld2 XA XB MA MB zb
    refine wpAnyH_take (i := 24) (v := ?_) rfl (by kernel_rfl) (by kernel_rfl) (by kernel_rfl) (fun _ _ _ h => h) (Or.inl ⟨by rfl, ?_⟩) (by assumption) ?_
    rotate_left
    · (intro w hSw; (try dsimp only at hSw); first | (go_simp; done) | (go_simp; with_reducible rfl))
    simp only [Act.put, List.getElem_toArray, List.getElem_cons_zero, List.getElem_cons_succ, List.setIfInBounds_toArray, List.set_cons_zero, List.set_cons_succ]
    refine wpAnyH_take (i := 25) (v := ?_) rfl (by kernel_rfl) (by kernel_rfl) (by kernel_rfl) (fun _ _ _ h => h) (Or.inl ⟨by rfl, ?_⟩) (by assumption) ?_
    rotate_left
    · (intro w hSw; (try dsimp only at hSw); first | (go_simp; done) | (go_simp; with_reducible rfl))
    simp only [Act.put, List.getElem_toArray, List.getElem_cons_zero, List.getElem_cons_succ, List.setIfInBounds_toArray, List.set_cons_zero, List.set_cons_succ]
    refine wpAnyH_done (by kernel_rfl) ?_ _
    clear hHeld
    generalize w1.heap.size = oa at *
    generalize wa.heap.size = ob at *
    have GE := Lib.hid (And.intro ge2 (And.intro ge1 ne.symm))
    clear ge1 ge2 ne
    subst za
    have p11 : (i : Int) ≤ (c : Int) := by omega
    have p12 : (j : Int) ≤ (c : Int) := by omega
    have p13 : (i : Int) + 1 ≤ (j : Int) := by omega
    have p14 : ¬ c = i + 1 := by omega
    have p15 : (j : Int) + 1 ≤ 5 := by omega
    have p16 : j + 1 ≤ 5 := by omega
    have p17 : (5 : Int) ≤ (c : Int) := by omega
    obtain ⟨A3, hA3, LY3⟩ : ∃ A3, (if c = j + 1 then some (⟨bl, 0, none⟩ : Addr) else some ⟨bl, (j + 1) * 6, none⟩) = some A3 ∧ Hid (∀ W, Below w.heap.size w W → Lay E6 W (some A3) (L.drop (j + 1))) := by
      by_cases h : c = j + 1
      · exact ⟨⟨bl, 0, none⟩, by simp [h], fun W hW h0 => absurd h0 (by simp; have := HL.out; omega)⟩
      · exact ⟨⟨bl, (j + 1) * 6, none⟩, by simp [h], fun W hW => by
          have := lay_drop LAY.out (j + 1)
          rw [Nat.zero_add] at this
          exact this.below hW⟩
    have CC := Lib.hid (fun (W : World) (q : Nat) (hW : Below w.heap.size w W) (hq : Blk W q 60 #[.slice (some ⟨bl, 0, none⟩) i c, .slice (some ⟨bl, (i + 1) * 6, none⟩) (j - (i + 1)) (c - (i + 1)), .slice (some A3) (4 - j) (c - (j + 1))]) => (concat_any q (some ⟨bl, 0, none⟩) (some ⟨bl, (i + 1) * 6, none⟩) (some A3) c (c - (i + 1)) (c - (j + 1)) (L.take i) ((L.drop (i + 1)).take (j - (i + 1))) (L.drop (j + 1)) W (by
      have e1 : (L.take i).length = i := by rw [List.length_take, HL.out]; omega
      have e2 : ((L.drop (i + 1)).take (j - (i + 1))).length = j - (i + 1) := by rw [List.length_take, List.length_drop, HL.out]; omega
      have e3 : (L.drop (j + 1)).length = 4 - j := by rw [List.length_drop, HL.out]; omega
      rw [e1, e2, e3]
      exact hq) ((lay_take LAY.out i).below hW) (by
      have := (lay_take (lay_drop LAY.out (i + 1)) (j - (i + 1))).below hW
      rw [Nat.zero_add] at this
      exact this) (LY3.out W hW) (by simp; have := HL.out; omega) (by simp; have := HL.out; omega)))
    have PS := Lib.hid (PN.start HL.out hij hj5)
    have L1 := Lib.hid (show Lay E6 w (some ⟨bl, i * 6, none⟩) [L.getD i en0] from by
      have := lay_take (lay_drop LAY.out i) 1
      rw [Nat.zero_add, List.drop_eq_getElem_cons (by have := HL.out; omega)] at this
      rw [List.getD_eq_getElem?_getD, List.getElem?_eq_getElem (by have := HL.out; omega)]
      exact this)
    have L2 := Lib.hid (show Lay E6 w (some ⟨bl, j * 6, none⟩) [L.getD j en0] from by
      have := lay_take (lay_drop LAY.out j) 1
      rw [Nat.zero_add, List.drop_eq_getElem_cons (by have := HL.out; omega)] at this
      rw [List.getD_eq_getElem?_getD, List.getElem?_eq_getElem (by have := HL.out; omega)]
      exact this)
    generalize L.getD i en0 = ei at *
    generalize L.getD j en0 = ej at *
    generalize L.take i ++ (L.drop (i + 1)).take (j - (i + 1)) ++ L.drop (j + 1) = R0 at *
    go_wp2_with fail
    refine wp_region_held_drew (S := (fun ws => ws.cell? ⟨a, 0, none⟩ = some (.slice (some ⟨bl, 0, none⟩) 5 c))) (by kernel_rfl) (SS.out _ (base.below_drewN B2.out 1)) (fun hHeld => ?_)
    refine wpAnyH_take (i := 0) (v := ?_) rfl (by kernel_rfl) (by kernel_rfl) (by kernel_rfl) (fun _ _ _ h => h) (Or.inl ⟨by rfl, ?_⟩) (by assumption) ?_
    rotate_left
    · (intro w hSw; (try dsimp only at hSw); first | (go_simp; done) | (go_simp; with_reducible rfl))
    simp only [Act.put, List.getElem_toArray, List.getElem_cons_zero, List.getElem_cons_succ, List.setIfInBounds_toArray, List.set_cons_zero, List.set_cons_succ]
    refine wpAnyH_take (i := 1) (v := ?_) rfl (by kernel_rfl) (by kernel_rfl) (by kernel_rfl) (fun _ _ _ h => h) (Or.inl ⟨by rfl, ?_⟩) (by assumption) ?_
    rotate_left
    · (intro w hSw; (try dsimp only at hSw); first | (go_simp; done) | (go_simp; with_reducible rfl))
    simp only [Act.put, List.getElem_toArray, List.getElem_cons_zero, List.getElem_cons_succ, List.setIfInBounds_toArray, List.set_cons_zero, List.set_cons_succ]
    refine wpAnyH_take (i := 2) (v := ?_) rfl (by kernel_rfl) (by kernel_rfl) (by kernel_rfl) (fun _ _ _ h => h) (Or.inl ⟨by rfl, ?_⟩) (by assumption) ?_
    rotate_left
    · (intro w hSw; (try dsimp only at hSw); first | (go_simp; done) | (go_simp; with_reducible rfl))
    simp only [Act.put, List.getElem_toArray, List.getElem_cons_zero, List.getElem_cons_succ, List.setIfInBounds_toArray, List.set_cons_zero, List.set_cons_succ]
    refine wpAnyH_take (i := 3) (v := ?_) rfl (by kernel_rfl) (by kernel_rfl) (by kernel_rfl) (fun _ _ _ h => h) (Or.inl ⟨by rfl, ?_⟩) (by assumption) ?_
    rotate_left
    · (intro w hSw; (try dsimp only at hSw); first | (go_simp; done) | (go_simp; with_reducible rfl))
    simp only [Act.put, List.getElem_toArray, List.getElem_cons_zero, List.getElem_cons_succ, List.setIfInBounds_toArray, List.set_cons_zero, List.set_cons_succ]
    refine wpAnyH_take (i := 4) (v := ?_) rfl (by kernel_rfl) (by kernel_rfl) (by kernel_rfl) (fun _ _ _ h => h) (Or.inl ⟨by rfl, ?_⟩) (by assumption) ?_
    rotate_left
    · (intro w hSw; (try dsimp only at hSw); first | (go_simp; done) | (go_simp; with_reducible rfl))
    simp only [Act.put, List.getElem_toArray, List.getElem_cons_zero, List.getElem_cons_succ, List.setIfInBounds_toArray, List.set_cons_zero, List.set_cons_succ]
    refine wpAnyH_take (i := 5) (v := ?_) rfl (by kernel_rfl) (by kernel_rfl) (by kernel_rfl) (fun _ _ _ h => h) (Or.inl ⟨by rfl, ?_⟩) (by assumption) ?_
    rotate_left
    · (intro w hSw; (try dsimp only at hSw); first | (go_simp; done) | (go_simp; with_reducible rfl))
    simp only [Act.put, List.getElem_toArray, List.getElem_cons_zero, List.getElem_cons_succ, List.setIfInBounds_toArray, List.set_cons_zero, List.set_cons_succ]
    refine wpAnyH_take (i := 6) (v := ?_) rfl (by kernel_rfl) (by kernel_rfl) (by kernel_rfl) (fun _ _ _ h => h) (Or.inl ⟨by rfl, ?_⟩) (by assumption) ?_
    rotate_left
    · (intro w hSw; (try dsimp only at hSw); first | (go_simp; done) | (go_simp; with_reducible rfl))
    simp only [Act.put, List.getElem_toArray, List.getElem_cons_zero, List.getElem_cons_succ, List.setIfInBounds_toArray, List.set_cons_zero, List.set_cons_succ]
    refine wpAnyH_take (i := 7) (v := ?_) rfl (by kernel_rfl) (by kernel_rfl) (by kernel_rfl) (fun _ _ _ h => h) (Or.inl ⟨by rfl, ?_⟩) (by assumption) ?_
    rotate_left
    · (intro w hSw; (try dsimp only at hSw); first | (go_simp; done) | (go_simp; with_reducible rfl))
    simp only [Act.put, List.getElem_toArray, List.getElem_cons_zero, List.getElem_cons_succ, List.setIfInBounds_toArray, List.set_cons_zero, List.set_cons_succ]
    refine wpAnyH_take (i := 8) (v := ?_) rfl (by kernel_rfl) (by kernel_rfl) (by kernel_rfl) (fun _ _ _ h => h) (Or.inl ⟨by rfl, ?_⟩) (by assumption) ?_
    rotate_left
    · (intro w hSw; (try dsimp only at hSw); first | (go_simp; done) | (go_simp; with_reducible rfl))
    simp only [Act.put, List.getElem_toArray, List.getElem_cons_zero, List.getElem_cons_succ, List.setIfInBounds_toArray, List.set_cons_zero, List.set_cons_succ]
    refine wpAnyH_take (i := 9) (v := ?_) rfl (by kernel_rfl) (by kernel_rfl) (by kernel_rfl) (fun _ _ _ h => h) (Or.inl ⟨by rfl, ?_⟩) (by assumption) ?_
    rotate_left
    · (intro w hSw; (try dsimp only at hSw); first | (go_simp; done) | (go_simp; with_reducible rfl))
    simp only [Act.put, List.getElem_toArray, List.getElem_cons_zero, List.getElem_cons_succ, List.setIfInBounds_toArray, List.set_cons_zero, List.set_cons_succ]
    refine wpAnyH_take (i := 10) (v := ?_) rfl (by kernel_rfl) (by kernel_rfl) (by kernel_rfl) (fun _ _ _ h => h) (Or.inl ⟨by rfl, ?_⟩) (by assumption) ?_
    rotate_left
    · (intro w hSw; (try dsimp only at hSw); first | (go_simp; done) | (go_simp; with_reducible rfl))
    simp only [Act.put, List.getElem_toArray, List.getElem_cons_zero, List.getElem_cons_succ, List.setIfInBounds_toArray, List.set_cons_zero, List.set_cons_succ]
    refine wpAnyH_take (i := 11) (v := ?_) rfl (by kernel_rfl) (by kernel_rfl) (by kernel_rfl) (fun _ _ _ h => h) (Or.inl ⟨by rfl, ?_⟩) (by assumption) ?_
    rotate_left
    · (intro w hSw; (try dsimp only at hSw); first | (go_simp; done) | (go_simp; with_reducible rfl))
    simp only [Act.put, List.getElem_toArray, List.getElem_cons_zero, List.getElem_cons_succ, List.setIfInBounds_toArray, List.set_cons_zero, List.set_cons_succ]
    refine wpAnyH_take (i := 12) (v := ?_) rfl (by kernel_rfl) (by kernel_rfl) (by kernel_rfl) (fun _ _ _ h => h) (Or.inl ⟨by rfl, ?_⟩) (by assumption) ?_
    rotate_left
    · (intro w hSw; (try dsimp only at hSw); first | (go_simp; done) | (go_simp; with_reducible rfl))
    simp only [Act.put, List.getElem_toArray, List.getElem_cons_zero, List.getElem_cons_succ, List.setIfInBounds_toArray, List.set_cons_zero, List.set_cons_succ]
    refine wpAnyH_take (i := 13) (v := ?_) rfl (by kernel_rfl) (by kernel_rfl) (by kernel_rfl) (fun _ _ _ h => h) (Or.inl ⟨by rfl, ?_⟩) (by assumption) ?_
    rotate_left
    · (intro w hSw; (try dsimp only at hSw); first | (go_simp; done) | (go_simp; with_reducible rfl))
    simp only [Act.put, List.getElem_toArray, List.getElem_cons_zero, List.getElem_cons_succ, List.setIfInBounds_toArray, List.set_cons_zero, List.set_cons_succ]
    refine wpAnyH_take (i := 14) (v := ?_) rfl (by kernel_rfl) (by kernel_rfl) (by kernel_rfl) (fun _ _ _ h => h) (Or.inl ⟨by rfl, ?_⟩) (by assumption) ?_
    rotate_left
    · (intro w hSw; (try dsimp only at hSw); first | (go_simp; done) | (go_simp; with_reducible rfl))
    simp only [Act.put, List.getElem_toArray, List.getElem_cons_zero, List.getElem_cons_succ, List.setIfInBounds_toArray, List.set_cons_zero, List.set_cons_succ]
    refine wpAnyH_take (i := 15) (v := ?_) rfl (by kernel_rfl) (by kernel_rfl) (by kernel_rfl) (fun _ _ _ h => h) (Or.inl ⟨by rfl, ?_⟩) (by assumption) ?_
    rotate_left
    · (intro w hSw; (try dsimp only at hSw); first | (go_simp; done) | (go_simp; with_reducible rfl))
    simp only [Act.put, List.getElem_toArray, List.getElem_cons_zero, List.getElem_cons_succ, List.setIfInBounds_toArray, List.set_cons_zero, List.set_cons_succ]
    refine wpAnyH_take (i := 16) (v := ?_) rfl (by kernel_rfl) (by kernel_rfl) (by kernel_rfl) (fun _ _ _ h => h) (Or.inl ⟨by rfl, ?_⟩) (by assumption) ?_
    rotate_left
    · (intro w hSw; (try dsimp only at hSw); first | (go_simp; done) | (go_simp; with_reducible rfl))
    simp only [Act.put, List.getElem_toArray, List.getElem_cons_zero, List.getElem_cons_succ, List.setIfInBounds_toArray, List.set_cons_zero, List.set_cons_succ]
    refine wpAnyH_take (i := 17) (v := ?_) rfl (by kernel_rfl) (by kernel_rfl) (by kernel_rfl) (fun _ _ _ h => h) (Or.inl ⟨by rfl, ?_⟩) (by assumption) ?_
    rotate_left
    · (intro w hSw; (try dsimp only at hSw); first | (go_simp; done) | (go_simp; with_reducible rfl))
    simp only [Act.put, List.getElem_toArray, List.getElem_cons_zero, List.getElem_cons_succ, List.setIfInBounds_toArray, List.set_cons_zero, List.set_cons_succ]
    refine wpAnyH_take (i := 18) (v := ?_) rfl (by kernel_rfl) (by kernel_rfl) (by kernel_rfl) (fun _ _ _ h => h) (Or.inl ⟨by rfl, ?_⟩) (by assumption) ?_
    rotate_left
    · (intro w hSw; (try dsimp only at hSw); first | (go_simp; done) | (go_simp; with_reducible rfl))
    simp only [Act.put, List.getElem_toArray, List.getElem_cons_zero, List.getElem_cons_succ, List.setIfInBounds_toArray, List.set_cons_zero, List.set_cons_succ]
    refine wpAnyH_take (i := 19) (v := ?_) rfl (by kernel_rfl) (by kernel_rfl) (by kernel_rfl) (fun _ _ _ h => h) (Or.inl ⟨by rfl, ?_⟩) (by assumption) ?_
    rotate_left
    · (intro w hSw; (try dsimp only at hSw); first | (go_simp; done) | (go_simp; with_reducible rfl))
    simp only [Act.put, List.getElem_toArray, List.getElem_cons_zero, List.getElem_cons_succ, List.setIfInBounds_toArray, List.set_cons_zero, List.set_cons_succ]
    refine wpAnyH_take (i := 20) (v := ?_) rfl (by kernel_rfl) (by kernel_rfl) (by kernel_rfl) (fun _ _ _ h => h) (Or.inl ⟨by rfl, ?_⟩) (by assumption) ?_
    rotate_left
    · (intro w hSw; (try dsimp only at hSw); first | (go_simp; done) | (go_simp; with_reducible rfl))
    simp only [Act.put, List.getElem_toArray, List.getElem_cons_zero, List.getElem_cons_succ, List.setIfInBounds_toArray, List.set_cons_zero, List.set_cons_succ]
    refine wpAnyH_ready (rs := [21]) (by kernel_rfl) (by simp) ?_
    refine AllReadyH.cons rfl (fun K hK => ?_) AllReadyH.nil
    go_simp
    obtain ⟨wc, hwc⟩ : ∃ wc, (wb.alloc (.cells #[.slice (some ⟨bl, 0, none⟩) i c, .slice (some ⟨bl, (i + 1) * 6, none⟩) (j - (i + 1)) (c - (i + 1)), .slice (some A3) (4 - j) (c - (j + 1))] 60)).drew = wc := ⟨_, rfl⟩
    have XC := Lib.hid (show Blk wc wb.heap.size 60 #[.slice (some ⟨bl, 0, none⟩) i c, .slice (some ⟨bl, (i + 1) * 6, none⟩) (j - (i + 1)) (c - (i + 1)), .slice (some A3) (4 - j) (c - (j + 1))] from by rw [← hwc]; exact (Blk.new wb 60 _))
    have MC := Lib.hid (show Below wb.heap.size wb wc from by rw [← hwc]; exact (made wb _).drew)
    rw [hwc]
    have BC := Lib.hid (up B2.out MC.out B2.out.size)
    refine hK.out _ _ (SS.out _ BC.out) (fun hHeld2 => ?_)
    clear hK K hHeld hwc p3 p4 p5 p6 p7 p8 p9 p10 p11 p12 p13 p14 p15 p16 p17 hA3 p1 p2 wi wj
    refine wpAnyH_ready (rs := [22]) (by kernel_rfl) (by simp) ?_
    refine AllReadyH.cons rfl (fun K hK => ?_) AllReadyH.nil
    go_simp
    refine (CC.out wc _ BC.out XC.out).mono ?_
    rintro e2 wd ⟨vl, rfl, hol, hbd⟩
    have BD := Lib.hid (up BC.out hbd BC.out.size)
    refine hK.out _ _ (SS.out _ BD.out) (fun hHeld => ?_)
    clear hK K hHeld2 CC
    have PMS : PM w w.heap.size wd (oa + 1) oa (.slice (some ⟨bl, i * 6, none⟩) 1 1) (.slice (some ⟨bl, j * 6, none⟩) 1 1) vl [ei] [ej] R0 :=
      ⟨BD.out, BD.out.size, (Q2.out.below MC.out Q2.out.lt).below hbd (Q2.out.below MC.out Q2.out.lt).lt, (Q1.out.below MC.out Q1.out.lt).below hbd (Q1.out.below MC.out Q1.out.lt).lt,
        .inr ⟨bl, _, rfl, HBL.out, rfl, L1.out.keep (fun k hk _ => BD.out.block k hk)⟩, .inr ⟨bl, _, rfl, HBL.out, rfl, L2.out.keep (fun k hk _ => BD.out.block k hk)⟩, hol.mono BC.out.size,
        fun k hk e => by
          have : bl = k := by first | (injection e) | (simp [Value.ownBlock] at e; exact e)
          have := HBL.out
          omega, fun k e e' => by
          have : bl = k := by first | (injection e) | (simp [Value.ownBlock] at e; exact e)
          have := (hol.lt' k e').1
          have := HBL.out
          have := BC.out.size
          omega, fun k e e' => by
          have : bl = k := by first | (injection e) | (simp [Value.ownBlock] at e; exact e)
          have := (hol.lt' k e').1
          have := HBL.out
          have := BC.out.size
          omega, GE.out.2.2, GE.out.1, GE.out.2.1⟩
    have PMH := Lib.hid PMS
    clear PMS hol hbd XC MC BC L1 L2 LY3
    refine wpAnyH_take (i := 23) (v := ?_) rfl (by kernel_rfl) (by kernel_rfl) (by kernel_rfl) (fun _ _ _ h => h) (Or.inl ⟨by rfl, ?_⟩) (by assumption) ?_
    rotate_left
    · (intro w hSw; (try dsimp only at hSw); first | (go_simp; done) | (go_simp; with_reducible rfl))
    simp only [Act.put, List.getElem_toArray, List.getElem_cons_zero, List.getElem_cons_succ, List.setIfInBounds_toArray, List.set_cons_zero, List.set_cons_succ]
    refine wpAnyH_done (by kernel_rfl) ?_ _
    clear hHeld
    go_wp2_with fail
    go_loopw [7] (fun x wr => ∃ (W : World) (v1 v2 : Value) (O T R : List En), W = wr ∧ PM w w.heap.size wr (oa + 1) oa v1 v2 x O T R ∧ PN L O T R) (fun x _ => lenV x)
    case atStart => exact ⟨_, _, _, _, _, _, rfl, PMH.out, PS.out⟩
    case round =>
    obtain ⟨w6, v1, v2, O, T, R, rfl, hpm, hpn⟩ := hrel
    obtain ⟨A1, c1, rfl, n1⟩ := hpm.nat
    obtain ⟨A2, c2, rfl, n2⟩ := hpm.symm.nat
    obtain ⟨Al, cl, rfl, -⟩ := hpm.rl.open_
    have HP := Lib.hid hpm
    have HN := Lib.hid hpn
    have sm := hpn.sum
    have so := hpn.o1
    have st := hpn.t1
    have cO := hpn.ot
    have cT := hpn.tt
    have hls : O.length ≤ 1000 ∧ T.length ≤ 1000 ∧ R.length ≤ 1000 := by omega
    obtain ⟨rO, rT, rR⟩ := hpn.right HR.out
    by_cases h0 : R.length = 0
    · have h0' : R = [] := List.eq_nil_of_length_eq_zero h0
      subst h0'
      have a0 := (HB5.out.below hpm.below HB5.out.lt).cell 0
      have f0 := (HB5.out.below hpm.below HB5.out.lt).free 0
      have k0 := hpm.n1.cell 0
      have FIN := Lib.hid (hpm.fin hpn HB5.out)
      clear hpm hpn n1 n2 sm so st cO cT hls rO rT rR h0
      go_wp2_with fail
      go_ret
      exact FIN.out
    · have d0 : decide ((R.length : Int) > 0) = true := decide_eq_true (by omega)
      have d0' : decide (0 < (R.length : Int)) = true := decide_eq_true (by omega)
      have hpos : 0 < R.length := by omega
      have MU := Lib.hid (must_any (oa + 1) oa c1 c2 R.length A1 A2 O T w6 n1 n2 (by omega) (by omega))
      have N1 := Lib.hid n1
      have N2 := Lib.hid n2
      have HZ := Lib.hid h0
      have SM := Lib.hid (And.intro sm (And.intro so st))
      have RR := Lib.hid (And.intro rO (And.intro rT rR))
      have LS := Lib.hid hls
      by_cases m1 : O.length + R.length = 2
      · rw [if_pos m1] at MU
        have AL := Lib.hid (hpn.all1 m1)
        clear hpm hpn n1 n2 sm so st cO cT hls rO rT rR h0 m1
        have LR := Lib.hid (own_lay HP.out.rl).1
        have HX := Lib.hid HP.out
        clear HP
        go_wp2_with fail
        refine MU.out.mono ?_
        rintro e3 w7 ⟨rfl, rfl⟩
        have k0 := HX.out.n1.cell 0
        have N0 := Lib.hid (HX.out.n1.free 0)
        clear MU N1 N2
        go_wp2_with ((with_reducible show wpList _ _ _ (⟨some 79, _, _, _, _, _⟩ :: _) _ _); go_must (refine wp_app2 (M := R) (O := O) (c := cl) (n := R.length) rfl _ _ rfl rfl rfl rfl rfl HX.out.r1 LR.out (by have := HZ.out; omega) (by have := LS.out; omega) HX.out.hB ?_))
        intro v7 w8 own8 gr8
        have MID := HX.out.mid gr8
        have P9 := Lib.hid (HX.out.app1 own8 gr8)
        have k1 := MID.1.cell 0
        have f1 := MID.1.free 0
        have k2 := (HX.out.mid2 gr8).cell 0
        have HB8 := Lib.hid (HB5.out.below (HX.out.below.trans ((gr8.below HX.out.hB))) HB5.out.lt)
        have B9 := Lib.hid (gr8.below HX.out.hB)
        clear MID own8 gr8 k0 LR
        obtain ⟨A7, n7, c7, rfl⟩ : ∃ A n c, v7 = .slice A n c := by
          obtain ⟨A, c, e, -⟩ := P9.out.r1.open_
          exact ⟨A, _, c, e⟩
        have a0 := (HB8.out).cell 0
        have f0 := (HB8.out).free 0
        have q1 : ¬ a = oa := by have := HX.out.bp; have := HX.out.bq; have := HB5.out.lt; omega
        have q2 : ¬ oa = a := fun e => q1 e.symm
        have q3 : ¬ a = oa + 1 := by have := HX.out.bp; have := HX.out.bq; have := HB5.out.lt; omega
        have q4 : ¬ oa + 1 = a := fun e => q3 e.symm
        have FIN := Lib.hid (P9.out.fin AL.out.1 HB5.out)
        go_wp2_with fail
        go_ret
        exact FIN.out
  
      · by_cases m2 : T.length + R.length = 2
        · rw [if_neg m1, if_pos m2] at MU
          have AL := Lib.hid (hpn.symm.all1 m2)
          clear hpm hpn n1 n2 sm so st cO cT hls rO rT rR h0 m1 m2
          have LR := Lib.hid (own_lay HP.out.rl).1
          have HX := Lib.hid HP.out.symm
          clear HP
          go_wp2_with fail
          refine MU.out.mono ?_
          rintro e3 w7 ⟨rfl, rfl⟩
          have k0 := HX.out.n1.cell 0
          have N0 := Lib.hid (HX.out.n1.free 0)
          clear MU N1 N2
          go_wp2_with ((with_reducible show wpList _ _ _ (⟨some 79, _, _, _, _, _⟩ :: _) _ _); go_must (refine wp_app2 (M := R) (O := T) (c := cl) (n := R.length) rfl _ _ rfl rfl rfl rfl rfl HX.out.r1 LR.out (by have := HZ.out; omega) (by have := LS.out; omega) HX.out.hB ?_))
          intro v7 w8 own8 gr8
          have MID := HX.out.mid gr8
          have P9 := Lib.hid (HX.out.app1 own8 gr8)
          have k1 := MID.1.cell 0
          have f1 := MID.1.free 0
          have k2 := (HX.out.mid2 gr8).cell 0
          have HB8 := Lib.hid (HB5.out.below (HX.out.below.trans ((gr8.below HX.out.hB))) HB5.out.lt)
          have B9 := Lib.hid (gr8.below HX.out.hB)
          clear MID own8 gr8 k0 LR
          obtain ⟨A7, n7, c7, rfl⟩ : ∃ A n c, v7 = .slice A n c := by
            obtain ⟨A, c, e, -⟩ := P9.out.r1.open_
            exact ⟨A, _, c, e⟩
          have a0 := (HB8.out).cell 0
          have f0 := (HB8.out).free 0
          have q1 : ¬ a = oa := by have := HX.out.bp; have := HX.out.bq; have := HB5.out.lt; omega
          have q2 : ¬ oa = a := fun e => q1 e.symm
          have q3 : ¬ a = oa + 1 := by have := HX.out.bp; have := HX.out.bq; have := HB5.out.lt; omega
          have q4 : ¬ oa + 1 = a := fun e => q3 e.symm
          have FIN := Lib.hid (P9.out.symm.fin AL.out.1.symm HB5.out)
          go_wp2_with fail
          go_ret
          exact FIN.out
  
        · rw [if_neg m1, if_neg m2] at MU
          have M2 := Lib.hid (And.intro m1 m2)
          clear hpm hpn n1 n2 sm so st cO cT hls rO rT rR h0 m1 m2
          have b1 := bb_right (boxes_right RR.out.1) (boxes_ne (by have := SM.out; omega))
          have b2 := bb_right (boxes_right RR.out.2.1) (boxes_ne (by have := SM.out; omega))
          have X1 := Lib.hid (nbox_any (oa + 1) c1 A1 O w6 N1.out LS.out.1)
          have X2 := Lib.hid (fun W (hW : Below w6.heap.size w6 W) => nbox_any oa c2 A2 T W (N2.out.below hW) LS.out.2.1)
          generalize bb (boxes O) = B1 at *
          generalize bb (boxes T) = B2 at *
          have FA := Lib.hid (fun W (hW : Below w6.heap.size w6 W) => farthest_any cl Al R B1 B2 W ((own_lay HP.out.rl).1.below hW) hpos LS.out.2.2 RR.out.2.2 b1 b2)
          clear b1 b2
          go_wp2_with fail
          refine MU.out.mono ?_
          rintro e3 w7 ⟨rfl, rfl⟩
          clear MU
          go_wp2_with fail
          refine X1.out.mono ?_
          rintro e4 w8 ⟨rfl, hb8⟩
          have B8 := Lib.hid hb8
          clear hb8 X1
          go_wp2_with fail
          refine (X2.out w8 B8.out).mono ?_
          rintro e5 w9 ⟨rfl, hb9⟩
          have B9 := Lib.hid (up B8.out hb9 B8.out.size)
          clear hb9 X2 B8
          go_wp2_with fail
          refine (FA.out w9 B9.out).mono ?_
          rintro e6 wa ⟨⟨k, rfl, hk⟩, hba⟩
          have BA := Lib.hid (up B9.out hba B9.out.size)
          have HK := Lib.hid hk
          have PA := Lib.hid (HP.out.next BA.out)
          clear hba FA B9 N1 N2 HP
          have er := RR.out.2.2 (R.getD k en0) (by
            rw [List.getD_eq_getElem?_getD, List.getElem?_eq_getElem hk]
            exact List.getElem_mem hk)
          have PU1 := fun h => HN.out.put1 (k := k) hk h
          have PU2 := fun h => HN.out.symm.put1 (k := k) hk h
          obtain ⟨gl, cl0, cs0, z0, -⟩ := PA.out.rl.full hpos
          injection z0 with z0 z1 z2
          subst z0
          clear z1 z2
          obtain ⟨bl2, off2, z3, e0, e1, e2, e3, e4, e5⟩ := lay6 (own_lay PA.out.rl).1 hk
          injection z3 with z3
          injection z3 with z3 z4
          subst z3 z4
          simp only [Nat.zero_add] at e0 e1 e2 e3 e4 e5
          have ROW := Lib.hid (fun (W : World) (h : Lay E6 W (some ⟨gl, 0, none⟩) R) => (show W.cell? ⟨gl, k * 6, none⟩ = some (.int .i64 (R.getD k en0).b.x) ∧ W.cell? ⟨gl, k * 6 + 1, none⟩ = some (.int .i64 (R.getD k en0).b.y) ∧ W.cell? ⟨gl, k * 6 + 2, none⟩ = some (.int .i64 (R.getD k en0).b.w) ∧ W.cell? ⟨gl, k * 6 + 3, none⟩ = some (.int .i64 (R.getD k en0).b.h) ∧ W.cell? ⟨gl, k * 6 + 4, none⟩ = some (R.getD k en0).ptr ∧ W.cell? ⟨gl, k * 6 + 5, none⟩ = some (.int .i64 (R.getD k en0).v) from by
            obtain ⟨b, o, z3, f0, f1, f2, f3, f4, f5⟩ := lay6 h HK.out
            injection z3 with z3
            injection z3 with z3 z4
            subst z3 z4
            simp only [Nat.zero_add] at f0 f1 f2 f3 f4 f5
            exact ⟨f0, f1, f2, f3, f4, f5⟩))
          generalize R.getD k en0 = e at *
          have PV1 := Lib.hid PU1
          have PV2 := Lib.hid PU2
          obtain ⟨A1', c1', q1, n1⟩ := PA.out.nat
          injection q1 with q1 q1' q1''
          subst q1 q1''
          obtain ⟨A2', c2', q2, n2⟩ := PA.out.symm.nat
          injection q2 with q2 q2' q2''
          subst q2 q2''
          have BT := Lib.hid (better_any (oa + 1) oa c1 c2 A1 A2 O T e.b wa n1 n2 (by have := SM.out; omega) (by have := SM.out; omega) LS.out.1 LS.out.2.1 RR.out.1 RR.out.2.1 er)
          have k0 : (0 : Int) ≤ (k : Int) := Int.natCast_nonneg _
          obtain ⟨P, hP⟩ : ∃ P, e.ptr = .pointer P := ⟨_, rfl⟩
          rw [hP] at e4
          rw [hP] at ROW
          have EP := Lib.hid hP
          clear er PU1 PU2 hP q1' q2' n1 n2
          go_wp2_with fail
          refine BT.out.mono ?_
          rintro e7 wb ⟨hor, hbb⟩
          have PB := Lib.hid (PA.out.next hbb)
          clear hbb BT PA BA
          clear e0 e1 e2 e3 e4 e5
          rcases hor with rfl | rfl
          · have HX := Lib.hid (PB.out)
            clear PB
            go_wp2_with fail
            refine wp_region_held_drew (S := (fun ws => ws.cell? ⟨gl, k * 6, none⟩ = some (.int .i64 e.b.x) ∧ ws.cell? ⟨gl, k * 6 + 1, none⟩ = some (.int .i64 e.b.y) ∧ ws.cell? ⟨gl, k * 6 + 2, none⟩ = some (.int .i64 e.b.w) ∧ ws.cell? ⟨gl, k * 6 + 3, none⟩ = some (.int .i64 e.b.h) ∧ ws.cell? ⟨gl, k * 6 + 4, none⟩ = some (.pointer P) ∧ ws.cell? ⟨gl, k * 6 + 5, none⟩ = some (.int .i64 e.v))) (by kernel_rfl) (ROW.out _ (own_lay HX.out.rl).1) (fun hHeld => ?_)
            refine wpAnyH_take (i := 0) (v := ?_) rfl (by kernel_rfl) (by kernel_rfl) (by kernel_rfl) (fun _ _ _ h => h) (Or.inl ⟨by rfl, ?_⟩) (by assumption) ?_
            rotate_left
            · (intro w hSw; (try dsimp only at hSw); first | (go_simp; done) | (go_simp; with_reducible rfl))
            simp only [Act.put, List.getElem_toArray, List.getElem_cons_zero, List.getElem_cons_succ, List.setIfInBounds_toArray, List.set_cons_zero, List.set_cons_succ]
            refine wpAnyH_take (i := 1) (v := ?_) rfl (by kernel_rfl) (by kernel_rfl) (by kernel_rfl) (fun _ _ _ h => h) (Or.inl ⟨by rfl, ?_⟩) (by assumption) ?_
            rotate_left
            · (intro w hSw; (try dsimp only at hSw); first | (go_simp; done) | (go_simp; with_reducible rfl))
            simp only [Act.put, List.getElem_toArray, List.getElem_cons_zero, List.getElem_cons_succ, List.setIfInBounds_toArray, List.set_cons_zero, List.set_cons_succ]
            refine wpAnyH_take (i := 2) (v := ?_) rfl (by kernel_rfl) (by kernel_rfl) (by kernel_rfl) (fun _ _ _ h => h) (Or.inl ⟨by rfl, ?_⟩) (by assumption) ?_
            rotate_left
            · (intro w hSw; (try dsimp only at hSw); first | (go_simp; done) | (go_simp; with_reducible rfl))
            simp only [Act.put, List.getElem_toArray, List.getElem_cons_zero, List.getElem_cons_succ, List.setIfInBounds_toArray, List.set_cons_zero, List.set_cons_succ]
            refine wpAnyH_take (i := 3) (v := ?_) rfl (by kernel_rfl) (by kernel_rfl) (by kernel_rfl) (fun _ _ _ h => h) (Or.inl ⟨by rfl, ?_⟩) (by assumption) ?_
            rotate_left
            · (intro w hSw; (try dsimp only at hSw); first | (go_simp; done) | (go_simp; with_reducible rfl))
            simp only [Act.put, List.getElem_toArray, List.getElem_cons_zero, List.getElem_cons_succ, List.setIfInBounds_toArray, List.set_cons_zero, List.set_cons_succ]
            refine wpAnyH_take (i := 5) (v := ?_) rfl (by kernel_rfl) (by kernel_rfl) (by kernel_rfl) (fun _ _ _ h => h) (Or.inl ⟨by rfl, ?_⟩) (by assumption) ?_
            rotate_left
            · (intro w hSw; (try dsimp only at hSw); first | (go_simp; done) | (go_simp; with_reducible rfl))
            simp only [Act.put, List.getElem_toArray, List.getElem_cons_zero, List.getElem_cons_succ, List.setIfInBounds_toArray, List.set_cons_zero, List.set_cons_succ]
            refine wpAnyH_take (i := 6) (v := ?_) rfl (by kernel_rfl) (by kernel_rfl) (by kernel_rfl) (fun _ _ _ h => h) (Or.inl ⟨by rfl, ?_⟩) (by assumption) ?_
            rotate_left
            · (intro w hSw; (try dsimp only at hSw); first | (go_simp; done) | (go_simp; with_reducible rfl))
            simp only [Act.put, List.getElem_toArray, List.getElem_cons_zero, List.getElem_cons_succ, List.setIfInBounds_toArray, List.set_cons_zero, List.set_cons_succ]
            refine wpAnyH_take (i := 7) (v := ?_) rfl (by kernel_rfl) (by kernel_rfl) (by kernel_rfl) (fun _ _ _ h => h) (Or.inl ⟨by rfl, ?_⟩) (by assumption) ?_
            rotate_left
            · (intro w hSw; (try dsimp only at hSw); first | (go_simp; done) | (go_simp; with_reducible rfl))
            simp only [Act.put, List.getElem_toArray, List.getElem_cons_zero, List.getElem_cons_succ, List.setIfInBounds_toArray, List.set_cons_zero, List.set_cons_succ]
            refine wpAnyH_take (i := 8) (v := ?_) rfl (by kernel_rfl) (by kernel_rfl) (by kernel_rfl) (fun _ _ _ h => h) (Or.inl ⟨by rfl, ?_⟩) (by assumption) ?_
            rotate_left
            · (intro w hSw; (try dsimp only at hSw); first | (go_simp; done) | (go_simp; with_reducible rfl))
            simp only [Act.put, List.getElem_toArray, List.getElem_cons_zero, List.getElem_cons_succ, List.setIfInBounds_toArray, List.set_cons_zero, List.set_cons_succ]
            have cx := HX.out.n1.cell 0
            refine wpAnyH_ready (rs := [4, 9]) (by kernel_rfl) (by simp) ?_
            refine AllReadyH.cons rfl (fun K hK => ?_) (AllReadyH.cons rfl (fun K hK => ?_) AllReadyH.nil)
            · go_simp
              refine hK.out _ _ (ROW.out _ (own_lay HX.out.rl).1) (fun hHeld2 => ?_)
              clear hK K hHeld
              refine wpAnyH_ready (rs := [9]) (by kernel_rfl) (by simp) ?_
              refine AllReadyH.cons rfl (fun K hK => ?_) AllReadyH.nil
              go_simp
              obtain ⟨wE, hwE⟩ : ∃ wE, (wb.alloc (.cells #[.int .i64 e.b.x, .int .i64 e.b.y, .int .i64 e.b.w, .int .i64 e.b.h, .pointer P, .int .i64 e.v] 79)).drew = wE := ⟨_, rfl⟩
              have KE := Lib.hid (show Blk wE wb.heap.size 79 (E6.enc e).toArray from by
                rw [← hwE]
                have : (E6.enc e).toArray = #[.int .i64 e.b.x, .int .i64 e.b.y, .int .i64 e.b.w, .int .i64 e.b.h, .pointer P, .int .i64 e.v] := by
                  show #[Value.int .i64 e.b.x, .int .i64 e.b.y, .int .i64 e.b.w, .int .i64 e.b.h, e.ptr, .int .i64 e.v] = _
                  rw [EP.out]
                rw [this]
                exact Blk.new wb _ _)
              have ME := Lib.hid (show Below wb.heap.size wb wE from by rw [← hwE]; exact (made wb _).drew)
              have PE := Lib.hid (HX.out.next ME.out)
              rw [hwE]
              refine hK.out _ _ (ROW.out _ (own_lay PE.out.rl).1) (fun hHeld => ?_)
              clear hK K hHeld2 hwE cx
              have hHeld2 := hHeld
              clear hHeld
              obtain ⟨v7, w8, hr, own8, gr8⟩ := PE.out.r1.app (c := 1) (Lay.lit (E := E6) wE e _ _ KE.out) (by simp) (by simp; have := LS.out; omega) PE.out.hB
              have MID := PE.out.mid gr8
              have k1 := MID.1.cell 0
              have f1 := MID.1.free 0
              have S8 := ROW.out w8 (own_lay MID.2).1
              have P9 := Lib.hid (PE.out.app1 own8 gr8)
              have S9 := Lib.hid (ROW.out _ (own_lay P9.out.rl).1)
              obtain ⟨A7, n7, c7, rfl⟩ : ∃ A n c, v7 = .slice A n c := by
                obtain ⟨A, c, e, -⟩ := P9.out.r1.open_
                exact ⟨A, _, c, e⟩
              clear own8 gr8 MID
              refine wpAnyH_ready (rs := [10]) (by kernel_rfl) (by simp) ?_
              refine AllReadyH.cons rfl (fun K hK => ?_) AllReadyH.nil
              refine op_app (.tmp 100) (.tmp 105) rfl rfl rfl rfl hr ?_
              refine hK.out _ _ S8 (fun hHeld => ?_)
              clear hK K hr S8 hHeld2
              refine wpAnyH_take (i := 11) (v := ?_) rfl (by kernel_rfl) (by kernel_rfl) (by kernel_rfl) (fun _ _ _ h => h) (Or.inl ⟨by rfl, ?_⟩) (by assumption) ?_
              rotate_left
              · (intro w hSw; (try dsimp only at hSw); first | (go_simp; done) | (go_simp; with_reducible rfl))
              simp only [Act.put, List.getElem_toArray, List.getElem_cons_zero, List.getElem_cons_succ, List.setIfInBounds_toArray, List.set_cons_zero, List.set_cons_succ]
              refine wpAnyH_take (i := 12) (v := ?_) rfl (by kernel_rfl) (by kernel_rfl) (by kernel_rfl) (fun _ _ _ h => h) (Or.inl ⟨by rfl, ?_⟩) (by assumption) ?_
              rotate_left
              · (intro w hSw; (try dsimp only at hSw); first | (go_simp; done) | (go_simp; with_reducible rfl))
              simp only [Act.put, List.getElem_toArray, List.getElem_cons_zero, List.getElem_cons_succ, List.setIfInBounds_toArray, List.set_cons_zero, List.set_cons_succ]
              refine wpAnyH_ready (rs := [13]) (by kernel_rfl) (by simp) ?_
              refine AllReadyH.cons rfl (fun K hK => ?_) AllReadyH.nil
              go_simp
              refine hK.out _ _ S9.out (fun hHeld2 => ?_)
              clear hK K hHeld k1 f1 S9
              refine wpAnyH_done (by kernel_rfl) ?_ _
              clear hHeld2
              generalize w8.setCell ⟨(oa + 1), 0, none⟩ (.slice A7 n7 c7) = w9 at *
              have DE := Lib.hid (del2 w.heap.size gl cl k R w9 P9.out.rl HK.out (by have := LS.out; omega))
              have wk : IntKind.i64.wrap ((k : Int) + 1) = (k : Int) + 1 := IntWalk.i64_in _ (by have := HK.out; have := LS.out; omega)
              go_wp2_with fail
              refine DE.out.mono ?_
              rintro e8 wc ⟨rfl, hod, hdo⟩
              have PF := Lib.hid (P9.out.del hod hdo)
              clear hod hdo DE wk
              go_wp2_with fail
              exact ⟨⟨_, _, _, _, _, _, rfl, PF.out, PV1.out M2.out.2⟩, by simp only [lenV]; have := HK.out; omega⟩
            · go_simp
              obtain ⟨wE, hwE⟩ : ∃ wE, (wb.alloc (.cells #[.int .i64 e.b.x, .int .i64 e.b.y, .int .i64 e.b.w, .int .i64 e.b.h, .pointer P, .int .i64 e.v] 79)).drew = wE := ⟨_, rfl⟩
              have KE := Lib.hid (show Blk wE wb.heap.size 79 (E6.enc e).toArray from by
                rw [← hwE]
                have : (E6.enc e).toArray = #[.int .i64 e.b.x, .int .i64 e.b.y, .int .i64 e.b.w, .int .i64 e.b.h, .pointer P, .int .i64 e.v] := by
                  show #[Value.int .i64 e.b.x, .int .i64 e.b.y, .int .i64 e.b.w, .int .i64 e.b.h, e.ptr, .int .i64 e.v] = _
                  rw [EP.out]
                rw [this]
                exact Blk.new wb _ _)
              have ME := Lib.hid (show Below wb.heap.size wb wE from by rw [← hwE]; exact (made wb _).drew)
              have PE := Lib.hid (HX.out.next ME.out)
              rw [hwE]
              have cy := PE.out.n1.cell 0
              refine hK.out _ _ (ROW.out _ (own_lay PE.out.rl).1) (fun hHeld2 => ?_)
              clear hK K hHeld cx hwE
              refine wpAnyH_ready (rs := [4]) (by kernel_rfl) (by simp) ?_
              refine AllReadyH.cons rfl (fun K hK => ?_) AllReadyH.nil
              go_simp
              refine hK.out _ _ (ROW.out _ (own_lay PE.out.rl).1) (fun hHeld => ?_)
              clear hK K hHeld2 cy
              have hHeld2 := hHeld
              clear hHeld
              obtain ⟨v7, w8, hr, own8, gr8⟩ := PE.out.r1.app (c := 1) (Lay.lit (E := E6) wE e _ _ KE.out) (by simp) (by simp; have := LS.out; omega) PE.out.hB
              have MID := PE.out.mid gr8
              have k1 := MID.1.cell 0
              have f1 := MID.1.free 0
              have S8 := ROW.out w8 (own_lay MID.2).1
              have P9 := Lib.hid (PE.out.app1 own8 gr8)
              have S9 := Lib.hid (ROW.out _ (own_lay P9.out.rl).1)
              obtain ⟨A7, n7, c7, rfl⟩ : ∃ A n c, v7 = .slice A n c := by
                obtain ⟨A, c, e, -⟩ := P9.out.r1.open_
                exact ⟨A, _, c, e⟩
              clear own8 gr8 MID
              refine wpAnyH_ready (rs := [10]) (by kernel_rfl) (by simp) ?_
              refine AllReadyH.cons rfl (fun K hK => ?_) AllReadyH.nil
              refine op_app (.tmp 100) (.tmp 105) rfl rfl rfl rfl hr ?_
              refine hK.out _ _ S8 (fun hHeld => ?_)
              clear hK K hr S8 hHeld2
              refine wpAnyH_take (i := 11) (v := ?_) rfl (by kernel_rfl) (by kernel_rfl) (by kernel_rfl) (fun _ _ _ h => h) (Or.inl ⟨by rfl, ?_⟩) (by assumption) ?_
              rotate_left
              · (intro w hSw; (try dsimp only at hSw); first | (go_simp; done) | (go_simp; with_reducible rfl))
              simp only [Act.put, List.getElem_toArray, List.getElem_cons_zero, List.getElem_cons_succ, List.setIfInBounds_toArray, List.set_cons_zero, List.set_cons_succ]
              refine wpAnyH_take (i := 12) (v := ?_) rfl (by kernel_rfl) (by kernel_rfl) (by kernel_rfl) (fun _ _ _ h => h) (Or.inl ⟨by rfl, ?_⟩) (by assumption) ?_
              rotate_left
              · (intro w hSw; (try dsimp only at hSw); first | (go_simp; done) | (go_simp; with_reducible rfl))
              simp only [Act.put, List.getElem_toArray, List.getElem_cons_zero, List.getElem_cons_succ, List.setIfInBounds_toArray, List.set_cons_zero, List.set_cons_succ]
              refine wpAnyH_ready (rs := [13]) (by kernel_rfl) (by simp) ?_
              refine AllReadyH.cons rfl (fun K hK => ?_) AllReadyH.nil
              go_simp
              refine hK.out _ _ S9.out (fun hHeld2 => ?_)
              clear hK K hHeld k1 f1 S9
              refine wpAnyH_done (by kernel_rfl) ?_ _
              clear hHeld2
              generalize w8.setCell ⟨(oa + 1), 0, none⟩ (.slice A7 n7 c7) = w9 at *
              have DE := Lib.hid (del2 w.heap.size gl cl k R w9 P9.out.rl HK.out (by have := LS.out; omega))
              have wk : IntKind.i64.wrap ((k : Int) + 1) = (k : Int) + 1 := IntWalk.i64_in _ (by have := HK.out; have := LS.out; omega)
              go_wp2_with fail
              refine DE.out.mono ?_
              rintro e8 wc ⟨rfl, hod, hdo⟩
              have PF := Lib.hid (P9.out.del hod hdo)
              clear hod hdo DE wk
              go_wp2_with fail
              exact ⟨⟨_, _, _, _, _, _, rfl, PF.out, PV1.out M2.out.2⟩, by simp only [lenV]; have := HK.out; omega⟩
          · have HX := Lib.hid (PB.out.symm)
            clear PB
            go_wp2_with fail
            refine wp_region_held_drew (S := (fun ws => ws.cell? ⟨gl, k * 6, none⟩ = some (.int .i64 e.b.x) ∧ ws.cell? ⟨gl, k * 6 + 1, none⟩ = some (.int .i64 e.b.y) ∧ ws.cell? ⟨gl, k * 6 + 2, none⟩ = some (.int .i64 e.b.w) ∧ ws.cell? ⟨gl, k * 6 + 3, none⟩ = some (.int .i64 e.b.h) ∧ ws.cell? ⟨gl, k * 6 + 4, none⟩ = some (.pointer P) ∧ ws.cell? ⟨gl, k * 6 + 5, none⟩ = some (.int .i64 e.v))) (by kernel_rfl) (ROW.out _ (own_lay HX.out.rl).1) (fun hHeld => ?_)
            refine wpAnyH_take (i := 0) (v := ?_) rfl (by kernel_rfl) (by kernel_rfl) (by kernel_rfl) (fun _ _ _ h => h) (Or.inl ⟨by rfl, ?_⟩) (by assumption) ?_
            rotate_left
            · (intro w hSw; (try dsimp only at hSw); first | (go_simp; done) | (go_simp; with_reducible rfl))
            simp only [Act.put, List.getElem_toArray, List.getElem_cons_zero, List.getElem_cons_succ, List.setIfInBounds_toArray, List.set_cons_zero, List.set_cons_succ]
            refine wpAnyH_take (i := 1) (v := ?_) rfl (by kernel_rfl) (by kernel_rfl) (by kernel_rfl) (fun _ _ _ h => h) (Or.inl ⟨by rfl, ?_⟩) (by assumption) ?_
            rotate_left
            · (intro w hSw; (try dsimp only at hSw); first | (go_simp; done) | (go_simp; with_reducible rfl))
            simp only [Act.put, List.getElem_toArray, List.getElem_cons_zero, List.getElem_cons_succ, List.setIfInBounds_toArray, List.set_cons_zero, List.set_cons_succ]
            refine wpAnyH_take (i := 2) (v := ?_) rfl (by kernel_rfl) (by kernel_rfl) (by kernel_rfl) (fun _ _ _ h => h) (Or.inl ⟨by rfl, ?_⟩) (by assumption) ?_
            rotate_left
            · (intro w hSw; (try dsimp only at hSw); first | (go_simp; done) | (go_simp; with_reducible rfl))
            simp only [Act.put, List.getElem_toArray, List.getElem_cons_zero, List.getElem_cons_succ, List.setIfInBounds_toArray, List.set_cons_zero, List.set_cons_succ]
            refine wpAnyH_take (i := 3) (v := ?_) rfl (by kernel_rfl) (by kernel_rfl) (by kernel_rfl) (fun _ _ _ h => h) (Or.inl ⟨by rfl, ?_⟩) (by assumption) ?_
            rotate_left
            · (intro w hSw; (try dsimp only at hSw); first | (go_simp; done) | (go_simp; with_reducible rfl))
            simp only [Act.put, List.getElem_toArray, List.getElem_cons_zero, List.getElem_cons_succ, List.setIfInBounds_toArray, List.set_cons_zero, List.set_cons_succ]
            refine wpAnyH_take (i := 5) (v := ?_) rfl (by kernel_rfl) (by kernel_rfl) (by kernel_rfl) (fun _ _ _ h => h) (Or.inl ⟨by rfl, ?_⟩) (by assumption) ?_
            rotate_left
            · (intro w hSw; (try dsimp only at hSw); first | (go_simp; done) | (go_simp; with_reducible rfl))
            simp only [Act.put, List.getElem_toArray, List.getElem_cons_zero, List.getElem_cons_succ, List.setIfInBounds_toArray, List.set_cons_zero, List.set_cons_succ]
            refine wpAnyH_take (i := 6) (v := ?_) rfl (by kernel_rfl) (by kernel_rfl) (by kernel_rfl) (fun _ _ _ h => h) (Or.inl ⟨by rfl, ?_⟩) (by assumption) ?_
            rotate_left
            · (intro w hSw; (try dsimp only at hSw); first | (go_simp; done) | (go_simp; with_reducible rfl))
            simp only [Act.put, List.getElem_toArray, List.getElem_cons_zero, List.getElem_cons_succ, List.setIfInBounds_toArray, List.set_cons_zero, List.set_cons_succ]
            refine wpAnyH_take (i := 7) (v := ?_) rfl (by kernel_rfl) (by kernel_rfl) (by kernel_rfl) (fun _ _ _ h => h) (Or.inl ⟨by rfl, ?_⟩) (by assumption) ?_
            rotate_left
            · (intro w hSw; (try dsimp only at hSw); first | (go_simp; done) | (go_simp; with_reducible rfl))
            simp only [Act.put, List.getElem_toArray, List.getElem_cons_zero, List.getElem_cons_succ, List.setIfInBounds_toArray, List.set_cons_zero, List.set_cons_succ]
            refine wpAnyH_take (i := 8) (v := ?_) rfl (by kernel_rfl) (by kernel_rfl) (by kernel_rfl) (fun _ _ _ h => h) (Or.inl ⟨by rfl, ?_⟩) (by assumption) ?_
            rotate_left
            · (intro w hSw; (try dsimp only at hSw); first | (go_simp; done) | (go_simp; with_reducible rfl))
            simp only [Act.put, List.getElem_toArray, List.getElem_cons_zero, List.getElem_cons_succ, List.setIfInBounds_toArray, List.set_cons_zero, List.set_cons_succ]
            have cx := HX.out.n1.cell 0
            refine wpAnyH_ready (rs := [4, 9]) (by kernel_rfl) (by simp) ?_
            refine AllReadyH.cons rfl (fun K hK => ?_) (AllReadyH.cons rfl (fun K hK => ?_) AllReadyH.nil)
            · go_simp
              refine hK.out _ _ (ROW.out _ (own_lay HX.out.rl).1) (fun hHeld2 => ?_)
              clear hK K hHeld
              refine wpAnyH_ready (rs := [9]) (by kernel_rfl) (by simp) ?_
              refine AllReadyH.cons rfl (fun K hK => ?_) AllReadyH.nil
              go_simp
              obtain ⟨wE, hwE⟩ : ∃ wE, (wb.alloc (.cells #[.int .i64 e.b.x, .int .i64 e.b.y, .int .i64 e.b.w, .int .i64 e.b.h, .pointer P, .int .i64 e.v] 79)).drew = wE := ⟨_, rfl⟩
              have KE := Lib.hid (show Blk wE wb.heap.size 79 (E6.enc e).toArray from by
                rw [← hwE]
                have : (E6.enc e).toArray = #[.int .i64 e.b.x, .int .i64 e.b.y, .int .i64 e.b.w, .int .i64 e.b.h, .pointer P, .int .i64 e.v] := by
                  show #[Value.int .i64 e.b.x, .int .i64 e.b.y, .int .i64 e.b.w, .int .i64 e.b.h, e.ptr, .int .i64 e.v] = _
                  rw [EP.out]
                rw [this]
                exact Blk.new wb _ _)
              have ME := Lib.hid (show Below wb.heap.size wb wE from by rw [← hwE]; exact (made wb _).drew)
              have PE := Lib.hid (HX.out.next ME.out)
              rw [hwE]
              refine hK.out _ _ (ROW.out _ (own_lay PE.out.rl).1) (fun hHeld => ?_)
              clear hK K hHeld2 hwE cx
              have hHeld2 := hHeld
              clear hHeld
              obtain ⟨v7, w8, hr, own8, gr8⟩ := PE.out.r1.app (c := 1) (Lay.lit (E := E6) wE e _ _ KE.out) (by simp) (by simp; have := LS.out; omega) PE.out.hB
              have MID := PE.out.mid gr8
              have k1 := MID.1.cell 0
              have f1 := MID.1.free 0
              have S8 := ROW.out w8 (own_lay MID.2).1
              have P9 := Lib.hid (PE.out.app1 own8 gr8)
              have S9 := Lib.hid (ROW.out _ (own_lay P9.out.rl).1)
              obtain ⟨A7, n7, c7, rfl⟩ : ∃ A n c, v7 = .slice A n c := by
                obtain ⟨A, c, e, -⟩ := P9.out.r1.open_
                exact ⟨A, _, c, e⟩
              clear own8 gr8 MID
              refine wpAnyH_ready (rs := [10]) (by kernel_rfl) (by simp) ?_
              refine AllReadyH.cons rfl (fun K hK => ?_) AllReadyH.nil
              refine op_app (.tmp 100) (.tmp 105) rfl rfl rfl rfl hr ?_
              refine hK.out _ _ S8 (fun hHeld => ?_)
              clear hK K hr S8 hHeld2
              refine wpAnyH_take (i := 11) (v := ?_) rfl (by kernel_rfl) (by kernel_rfl) (by kernel_rfl) (fun _ _ _ h => h) (Or.inl ⟨by rfl, ?_⟩) (by assumption) ?_
              rotate_left
              · (intro w hSw; (try dsimp only at hSw); first | (go_simp; done) | (go_simp; with_reducible rfl))
              simp only [Act.put, List.getElem_toArray, List.getElem_cons_zero, List.getElem_cons_succ, List.setIfInBounds_toArray, List.set_cons_zero, List.set_cons_succ]
              refine wpAnyH_take (i := 12) (v := ?_) rfl (by kernel_rfl) (by kernel_rfl) (by kernel_rfl) (fun _ _ _ h => h) (Or.inl ⟨by rfl, ?_⟩) (by assumption) ?_
              rotate_left
              · (intro w hSw; (try dsimp only at hSw); first | (go_simp; done) | (go_simp; with_reducible rfl))
              simp only [Act.put, List.getElem_toArray, List.getElem_cons_zero, List.getElem_cons_succ, List.setIfInBounds_toArray, List.set_cons_zero, List.set_cons_succ]
              refine wpAnyH_ready (rs := [13]) (by kernel_rfl) (by simp) ?_
              refine AllReadyH.cons rfl (fun K hK => ?_) AllReadyH.nil
              go_simp
              refine hK.out _ _ S9.out (fun hHeld2 => ?_)
              clear hK K hHeld k1 f1 S9
              refine wpAnyH_done (by kernel_rfl) ?_ _
              clear hHeld2
              generalize w8.setCell ⟨oa, 0, none⟩ (.slice A7 n7 c7) = w9 at *
              have DE := Lib.hid (del2 w.heap.size gl cl k R w9 P9.out.rl HK.out (by have := LS.out; omega))
              have wk : IntKind.i64.wrap ((k : Int) + 1) = (k : Int) + 1 := IntWalk.i64_in _ (by have := HK.out; have := LS.out; omega)
              go_wp2_with fail
              refine DE.out.mono ?_
              rintro e8 wc ⟨rfl, hod, hdo⟩
              have PF := Lib.hid (P9.out.del hod hdo)
              clear hod hdo DE wk
              go_wp2_with fail
              exact ⟨⟨_, _, _, _, _, _, rfl, PF.out.symm, (PV2.out M2.out.1).symm⟩, by simp only [lenV]; have := HK.out; omega⟩
            · go_simp
              obtain ⟨wE, hwE⟩ : ∃ wE, (wb.alloc (.cells #[.int .i64 e.b.x, .int .i64 e.b.y, .int .i64 e.b.w, .int .i64 e.b.h, .pointer P, .int .i64 e.v] 79)).drew = wE := ⟨_, rfl⟩
              have KE := Lib.hid (show Blk wE wb.heap.size 79 (E6.enc e).toArray from by
                rw [← hwE]
                have : (E6.enc e).toArray = #[.int .i64 e.b.x, .int .i64 e.b.y, .int .i64 e.b.w, .int .i64 e.b.h, .pointer P, .int .i64 e.v] := by
                  show #[Value.int .i64 e.b.x, .int .i64 e.b.y, .int .i64 e.b.w, .int .i64 e.b.h, e.ptr, .int .i64 e.v] = _
                  rw [EP.out]
                rw [this]
                exact Blk.new wb _ _)
              have ME := Lib.hid (show Below wb.heap.size wb wE from by rw [← hwE]; exact (made wb _).drew)
              have PE := Lib.hid (HX.out.next ME.out)
              rw [hwE]
              have cy := PE.out.n1.cell 0
              refine hK.out _ _ (ROW.out _ (own_lay PE.out.rl).1) (fun hHeld2 => ?_)
              clear hK K hHeld cx hwE
              refine wpAnyH_ready (rs := [4]) (by kernel_rfl) (by simp) ?_
              refine AllReadyH.cons rfl (fun K hK => ?_) AllReadyH.nil
              go_simp
              refine hK.out _ _ (ROW.out _ (own_lay PE.out.rl).1) (fun hHeld => ?_)
              clear hK K hHeld2 cy
              have hHeld2 := hHeld
              clear hHeld
              obtain ⟨v7, w8, hr, own8, gr8⟩ := PE.out.r1.app (c := 1) (Lay.lit (E := E6) wE e _ _ KE.out) (by simp) (by simp; have := LS.out; omega) PE.out.hB
              have MID := PE.out.mid gr8
              have k1 := MID.1.cell 0
              have f1 := MID.1.free 0
              have S8 := ROW.out w8 (own_lay MID.2).1
              have P9 := Lib.hid (PE.out.app1 own8 gr8)
              have S9 := Lib.hid (ROW.out _ (own_lay P9.out.rl).1)
              obtain ⟨A7, n7, c7, rfl⟩ : ∃ A n c, v7 = .slice A n c := by
                obtain ⟨A, c, e, -⟩ := P9.out.r1.open_
                exact ⟨A, _, c, e⟩
              clear own8 gr8 MID
              refine wpAnyH_ready (rs := [10]) (by kernel_rfl) (by simp) ?_
              refine AllReadyH.cons rfl (fun K hK => ?_) AllReadyH.nil
              refine op_app (.tmp 100) (.tmp 105) rfl rfl rfl rfl hr ?_
              refine hK.out _ _ S8 (fun hHeld => ?_)
              clear hK K hr S8 hHeld2
              refine wpAnyH_take (i := 11) (v := ?_) rfl (by kernel_rfl) (by kernel_rfl) (by kernel_rfl) (fun _ _ _ h => h) (Or.inl ⟨by rfl, ?_⟩) (by assumption) ?_
              rotate_left
              · (intro w hSw; (try dsimp only at hSw); first | (go_simp; done) | (go_simp; with_reducible rfl))
              simp only [Act.put, List.getElem_toArray, List.getElem_cons_zero, List.getElem_cons_succ, List.setIfInBounds_toArray, List.set_cons_zero, List.set_cons_succ]
              refine wpAnyH_take (i := 12) (v := ?_) rfl (by kernel_rfl) (by kernel_rfl) (by kernel_rfl) (fun _ _ _ h => h) (Or.inl ⟨by rfl, ?_⟩) (by assumption) ?_
              rotate_left
              · (intro w hSw; (try dsimp only at hSw); first | (go_simp; done) | (go_simp; with_reducible rfl))
              simp only [Act.put, List.getElem_toArray, List.getElem_cons_zero, List.getElem_cons_succ, List.setIfInBounds_toArray, List.set_cons_zero, List.set_cons_succ]
              refine wpAnyH_ready (rs := [13]) (by kernel_rfl) (by simp) ?_
              refine AllReadyH.cons rfl (fun K hK => ?_) AllReadyH.nil
              go_simp
              refine hK.out _ _ S9.out (fun hHeld2 => ?_)
              clear hK K hHeld k1 f1 S9
              refine wpAnyH_done (by kernel_rfl) ?_ _
              clear hHeld2
              generalize w8.setCell ⟨oa, 0, none⟩ (.slice A7 n7 c7) = w9 at *
              have DE := Lib.hid (del2 w.heap.size gl cl k R w9 P9.out.rl HK.out (by have := LS.out; omega))
              have wk : IntKind.i64.wrap ((k : Int) + 1) = (k : Int) + 1 := IntWalk.i64_in _ (by have := HK.out; have := LS.out; omega)
              go_wp2_with fail
              refine DE.out.mono ?_
              rintro e8 wc ⟨rfl, hod, hdo⟩
              have PF := Lib.hid (P9.out.del hod hdo)
              clear hod hdo DE wk
              go_wp2_with fail
              exact ⟨⟨_, _, _, _, _, _, rfl, PF.out.symm, (PV2.out M2.out.1).symm⟩, by simp only [lenV]; have := HK.out; omega⟩
  
end Go.Proofs.Ytndhdpjgnepfnaa.tr
